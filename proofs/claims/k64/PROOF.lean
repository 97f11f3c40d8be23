import PyProof.Rows.All
import Wide.All
import OpenK.AllK
import Wide.FinOn
import Lean
import PyProof.EqAt
import PyProof.EqKinds
import PyProof.TupleCall
import PySem.Challenge.RW_hourhouse_k64_who_is_held
set_option Elab.async false
set_option linter.all false
set_option maxRecDepth 100000
/-! These names are taken so that the head makes no twins of its heaps, trees and objects: the compiled file would be too big. Nothing refers to them, and they prove nothing. -/
namespace PySem.W.Fast
def tw8871861841929354273 := ()
def tw1472373254076709064 := ()
def tw5435800293703524771 := ()
def tw4209124994239912726 := ()
def tw13914207893724717058 := ()
def tw8790921296438656267 := ()
def tw10342545592796162810 := ()
def tw10153610504574796011 := ()
def tw14375744900589273618 := ()
def tw17924109703321654339 := ()
def tw9410368299191902456 := ()
def tw1188248498955200508 := ()
def tw15213169711896584883 := ()
def tw9729269535086493811 := ()
def tw7157848379075849386 := ()
def tw15220616923403607854 := ()
def tw13724476086635205351 := ()
def tw14721077627632281130 := ()
def tw7769997385398929429 := ()
def tw5780191352644112930 := ()
def tw3307148379828362474 := ()
def tw10341439566720562794 := ()
def tw14686548160687859027 := ()
def tw15525349038794507522 := ()
def tw12403970382450737313 := ()
def tw7368517889788557394 := ()
def tw18054775711109737859 := ()
def tw17651750466300758349 := ()
def tw8197618216427214559 := ()
def tw2718593657207142131 := ()
def tw4361472413495339493 := ()
def tw17080958216195516802 := ()
def tw15315650513638780322 := ()
def tw10836188029147091165 := ()
def tw15805873672357346075 := ()
def tw16060098804543003228 := ()
def tw16964594280203065393 := ()
def tw18210277044074714491 := ()
def tw18151741173582862219 := ()
def tw16559893104849892800 := ()
def tw10763347709394706769 := ()
def tw9189970557290336514 := ()
def tw3714037090624334805 := ()
def tw1557084355579279946 := ()
def tw16158743377069537890 := ()
def tw18273586616068497488 := ()
def tw6186225837199222231 := ()
def tw6140744719495345927 := ()
def tw749470749717886409 := ()
def tw17241729966753494888 := ()
def tw13398936135300130582 := ()
def tw1560331136692775343 := ()
def tw17990908558883192452 := ()
def tw11782109640271627145 := ()
def tw9554124687012820492 := ()
def tw9551257826078211918 := ()
def tw10589071075160547193 := ()
def tw4947089289089361634 := ()
def tw722618786558080187 := ()
def tw1470607388927897050 := ()
def tw11670728974462954791 := ()
def tw15790233574680471087 := ()
def tw12182949853536963675 := ()
def tw3098906593246502166 := ()
def tw5557941756663409183 := ()
def tw11310773436056529460 := ()
def tw9280939577349065312 := ()
def tw1874072843706175836 := ()
def tw9901515030631140190 := ()
def tw13346629974595260535 := ()
def tw10336174890810937620 := ()
def tw7487883052635483650 := ()
def tw16069321098403471065 := ()
def tw7528509584570598137 := ()
def tw17396217233497957121 := ()
def tw15723939761091604759 := ()
def tw10562115890713406442 := ()
def tw7989265869750252316 := ()
def tw337652016032048697 := ()
def tw423603878299177745 := ()
def tw13927079272001059479 := ()
def tw14186288867265161999 := ()
def tw2371278353753777604 := ()
def tw14924175599000321037 := ()
def tw2546125461103252704 := ()
def tw524850133156511175 := ()
def tw12546597852021099035 := ()
def tw2380350537872333026 := ()
def tw12218242490689317734 := ()
def tw7159771373719484239 := ()
def tw7992914466880514042 := ()
def tw9184933774015051505 := ()
def tw14113183357825066060 := ()
def tw16872771249497319247 := ()
def tw3934775114776938457 := ()
def tw15817268259002866771 := ()
def tw208664766783333599 := ()
def tw6177981887464428112 := ()
def tw17487358837394991121 := ()
def tw2382007878939202133 := ()
def tw15350684558211125230 := ()
def tw8126957492799367448 := ()
def tw8269397938358568180 := ()
def tw13548848843336939181 := ()
def tw6500515656479234460 := ()
def tw694163285263125341 := ()
def tw2111517047535101588 := ()
def tw12829237320291182549 := ()
def tw13596288357495994495 := ()
def tw8728535693259176740 := ()
def tw4999240488048226314 := ()
def tw12121443266062444032 := ()
def tw5819643727106253249 := ()
def tw17962313897973567595 := ()
def tw2513558037368164053 := ()
def tw5437799346630118360 := ()
def tw3493724552010752641 := ()
def tw15910786792752163585 := ()
def tw5631488326858205234 := ()
def tw18183340986261649824 := ()
def tw1736027581017407280 := ()
def tw11019582158044585340 := ()
def tw13557575718026126389 := ()
def tw12338437845548832684 := ()
def tw6709592564663657650 := ()
def tw9731002524987326026 := ()
def tw6962317271726861523 := ()
def tw17110923790919781810 := ()
def tw5148756293736123676 := ()
def tw16841993367520401242 := ()
def tw14934724073246292361 := ()
def tw14095700398523907548 := ()
def tw3045804621204115848 := ()
def tw11846148250852048944 := ()
def tw5189669848199098507 := ()
def tw1702806749802465232 := ()
def tw621129042186453017 := ()
def tw5580564504320256283 := ()
def tw10491985514418285762 := ()
def tw1054641901337412680 := ()
def tw14000242412861198547 := ()
def tw15674506251937885148 := ()
def tw8951278308184927459 := ()
def tw825601268158076200 := ()
def tw4007833561667065884 := ()
def tw4270995570693419555 := ()
def tw4873018746912102077 := ()
def tw12848149860218517160 := ()
def tw3523571580808018368 := ()
def tw1358586044343746202 := ()
def tw16152583960098949532 := ()
def tw8270278436066707104 := ()
def tw13538818002169265159 := ()
def tw6844665130002104257 := ()
def tw5888441046021512791 := ()
def tw18103604008778787672 := ()
def tw11653561646193773814 := ()
def tw17340685120065775244 := ()
def tw17049351217643690791 := ()
def tw14157781887037054703 := ()
def tw657528973304693861 := ()
def tw1019897611796485878 := ()
def tw12346888977717872086 := ()
def tw8665093216559017563 := ()
def tw7167925225167567006 := ()
def tw6547676189605397125 := ()
def tw4644484055301521559 := ()
def tw12578975528846400492 := ()
def tw15791640642490470858 := ()
def tw18440212137601879243 := ()
def tw2203789543814386936 := ()
def tw886676647402973026 := ()
def tw7053712442676242105 := ()
def tw15209119763301435444 := ()
def tw10918875176685809649 := ()
def tw10782625144795022587 := ()
def tw5190971099307282764 := ()
def tw17202153482267885083 := ()
def tw14473767897689029655 := ()
def tw3513184926661719563 := ()
def tw8973794995393159388 := ()
def tw3503943764305470187 := ()
def tw1022293704941520767 := ()
def tw3259649669118072858 := ()
def tw13190384767935651102 := ()
def tw4888214393715783139 := ()
def tw2374330895570024275 := ()
def tw689004773094243123 := ()
def tw14856443681223156695 := ()
def tw12017958622492692666 := ()
def tw15649566246445671089 := ()
def tw10185754881874755236 := ()
def tw10570341016697367982 := ()
def tw15771007815307826708 := ()
def tw9557693904783093427 := ()
def tw562767963970469556 := ()
def tw17831667102058795477 := ()
def tw12091642991770302636 := ()
def tw7670748634622289426 := ()
def tw3347779050118156845 := ()
def tw9891066940868024683 := ()
def tw4045781942647641321 := ()
def tw14393586062166368758 := ()
def tw2972869488002274690 := ()
def tw15236950661018031702 := ()
def tw17454839997131990571 := ()
def tw10068255353710271440 := ()
def tw15225717720518413187 := ()
def tw1945210202693397132 := ()
def tw7016983989175838085 := ()
def tw9880258584898435495 := ()
def tw169205667880692455 := ()
def tw1216661664071874691 := ()
def tw17122954023687613190 := ()
def tw1072722360019089099 := ()
def tw5071434625594984489 := ()
def tw13358022538279636145 := ()
def tw6109679685970186079 := ()
def tw7381007500095636480 := ()
def tw6065691612164426231 := ()
def tw364624071007495804 := ()
def tw13731158391576969928 := ()
def tw7819354869046614626 := ()
def tw382282380252315548 := ()
def tw3192599420462990665 := ()
def tw6631506246802757242 := ()
def tw11691703363119971166 := ()
def tw12646773625939040092 := ()
def tw17761976537319717338 := ()
def tw8021928147932676492 := ()
def tw10749145879908298977 := ()
def tw10765066980985518913 := ()
def tw14051502698229579542 := ()
def tw15363928608075168707 := ()
def tw2943602471702530277 := ()
def tw13739935004946858896 := ()
def tw18140848385599553876 := ()
def tw5329675884657555155 := ()
def tw8668150565847839010 := ()
def tw17344282246923503394 := ()
def tw8169537000273813958 := ()
def tw7048132566556706749 := ()
def tw11154008392366305869 := ()
def tw5087143261341927207 := ()
def tw17408446541636076810 := ()
def tw7282920268518282758 := ()
def tw15641087135232445309 := ()
def tw8412860258079194835 := ()
def tw11136296935097492313 := ()
def tw3808375764240578263 := ()
def tw7878912314287285269 := ()
def tw8092540671861372695 := ()
def tw2905987740497053829 := ()
def tw17381329320470554038 := ()
def tw2692862124166541049 := ()
def tw11876863692232407062 := ()
def tw13337901587424901458 := ()
def tw6718485249888363929 := ()
def tw18356644797454695016 := ()
def tw15129612645190904389 := ()
def tw12497815316406804054 := ()
def tw15805244489684273569 := ()
def tw4840224979327004720 := ()
def tw16874079916629310979 := ()
def tw11070576357209171267 := ()
def tw2317808972169620653 := ()
def tw16029845602023699585 := ()
def tw15620966915203660956 := ()
def tw9770619858993471228 := ()
def tw11291560621033578123 := ()
def tw16330493786458316672 := ()
def tw13110317175437653365 := ()
def tw13042727847214352067 := ()
def tw636620816151549173 := ()
def tw4323288121967633709 := ()
def tw834180527802569051 := ()
def tw9442871441914765569 := ()
def tw16796708941950185017 := ()
def tw18081287628473634922 := ()
def tw10252908933545461277 := ()
def tw5383413273350218272 := ()
def tw17484971346728030455 := ()
def tw1942853745732617753 := ()
def tw10772235462385481392 := ()
def tw15630608051326168354 := ()
end PySem.W.Fast
namespace L2
open PySem PySem.Spec PyProof.Rows
abbrev Key := Sum Int Str
def Ny : Key -> Value -> Bool
 | .inl k, v => Value.isInt k v
 | .inr x, v => Value.isStrOf x v
def vk (w : World) : Key -> Int
 | .inl k => hashInt k
 | .inr x => hashStr w x
theorem Ca : ∀ {k : Key} {v : Value}, Ny k v = true -> (∃ i t, k = Sum.inl i /\ v = Value.int i t) ∨ (∃ x t, k = Sum.inr x /\ v = Value.str x t)
 |
  .inl i, v, h => by
  obtain ⟨t, e⟩ := Value.isInt_shape (k := i) (v := v) h
  exact .inl ⟨i, t, rfl, e⟩
 |
  .inr x, v, h => by
  obtain ⟨t, e⟩ := Value.isStrOf_shape (x := x) (v := v) h
  exact .inr ⟨x, t, rfl, e⟩
theorem Ih (i : Int) (t : Tok) : Ny (.inl i) (.int i t) = true := by simp [Ny, Value.isInt]
theorem Zm (x : Str) (t : Tok) : Ny (.inr x) (.str x t) = true := by simp [Ny, Value.isStrOf]
theorem ml (a b : Int) : decide ((Sum.inl a : Key) = Sum.inl b) = (a == b) := by
 by_cases e : a = b
 · subst e; simp
 ·
  have h : ¬ (Sum.inl a : Key) = Sum.inl b := λ q => e (Sum.inl.inj q)
  rw [decide_eq_false h]
  exact (beq_eq_false_iff_ne.mpr e).symm
theorem ke (a b : Str) : decide ((Sum.inr a : Key) = Sum.inr b) = decide (a = b) := by
 by_cases e : a = b
 · subst e; simp
 ·
  have h : ¬ (Sum.inr a : Key) = Sum.inr b := λ q => e (Sum.inr.inj q)
  rw [decide_eq_false h, decide_eq_false e]
theorem m6 (a : Int) (b : Str) : decide ((Sum.inl a : Key) = Sum.inr b) = false := decide_eq_false (λ q => nomatch q)
theorem ly (a : Str) (b : Int) : decide ((Sum.inr a : Key) = Sum.inl b) = false := decide_eq_false (λ q => nomatch q)
def Bg (prog : Program) (w : World) : PySem.KeyKind prog w Key where
 is := Ny
 hash := vk w
 inj := λ v a b ha hb => by
  rcases Ca ha with ⟨i, t, rfl, rfl⟩ | ⟨x, t, rfl, rfl⟩
  ·
   rcases Ca hb with ⟨j, u, rfl, e⟩ | ⟨y, u, rfl, e⟩
   · injection e with e1 _; rw [e1]
   · exact nomatch e
  ·
   rcases Ca hb with ⟨j, u, rfl, e⟩ | ⟨y, u, rfl, e⟩
   · exact nomatch e
   · injection e with e1 _; rw [e1]
 byValue := λ k v h => by
  rcases Ca h with ⟨i, t, rfl, rfl⟩ | ⟨x, t, rfl, rfl⟩ <;> rfl
 pyHash := λ hv h => by
  rcases Ca hv with ⟨i, t, rfl, rfl⟩ | ⟨x, t, rfl, rfl⟩
  · exact wpAny_pyHash_int h
  · exact wpAny_pyHash_str h
 eqBool := λ hu hv h => by
  rcases Ca hu with ⟨i, t, rfl, rfl⟩ | ⟨x, t, rfl, rfl⟩
  ·
   rcases Ca hv with ⟨j, u, rfl, rfl⟩ | ⟨y, u, rfl, rfl⟩
   · rw [ml] at h; exact wpAny_eqBool_int h
   · rw [m6] at h; exact SeqAt.EqAt.int_str i t y u _ _ _ _ h
  ·
   rcases Ca hv with ⟨j, u, rfl, rfl⟩ | ⟨y, u, rfl, rfl⟩
   · rw [ly] at h; exact SeqAt.EqAt.str_int x t j u _ _ _ _ h
   · rw [ke] at h; exact wpAny_eqBool_str h
 «strs» := λ k x t v h => by
  rcases Ca h with ⟨i, u, rfl, e⟩ | ⟨y, u, rfl, e⟩
  · exact nomatch e
  ·
   injection e with e1 _
   subst e1
   cases v <;> rfl
theorem Ua (prog : Program) (w : World) (i : Int) (t : Tok) : (Bg prog w).is (.inl i) (.int i t) = true := Ih i t
theorem Uc (prog : Program) (w : World) (x : Str) (t : Tok) : (Bg prog w).is (.inr x) (.str x t) = true := Zm x t
inductive V where
 | non | bl (b : Bool) | int (i : Int) | str (x : Str) | byt (b : Array UInt8) | flt (b : UInt64) | ref (a : Addr) | ty (n : String)
 deriving DecidableEq
def RelV : V -> Value -> Prop
 | .non, u => u = Value.none
 | .bl b, u => u = Value.bool b
 | .int i, u => ∃ t, u = Value.int i t
 | .str x, u => ∃ t, u = Value.str x t
 | .byt b, u => ∃ t, u = Value.bytes b t
 | .flt b, u => ∃ t, u = Value.float b t
 | .ref a, u => u = Value.ref a
 | .ty n, u => u = Value.type n
abbrev Vals : List V -> List Value -> Prop := Paired RelV
theorem Vals.length {xs : List V} {us : List Value} (r : Vals xs us) : xs.length = us.length := Paired.length r
theorem Vals.get : ∀ {xs : List V} {us : List Value} {i : Nat} {x : V}, Vals xs us -> xs[i]? = some x -> ∃ u, us[i]? = some u /\ RelV x u
 | _, _, _, _, .nil, e => by simp at e
 | _, _, 0, _, .cons r _, e => by simp at e; subst e; exact ⟨_, rfl, r⟩
 |
  _, _, i + 1, x, .cons _ t, e => by
  obtain ⟨u, h1, h2⟩ := Vals.get (i := i) (x := x) t (by simpa using e)
  exact ⟨u, by simpa using h1, h2⟩
theorem Vals.set {x : V} {u : Value} (r : RelV x u) : ∀ {xs : List V} {us : List Value} (i : Nat), Vals xs us -> Vals (xs.set i x) (us.set i u)
 | _, _, _, .nil => .nil
 | _, _, 0, .cons _ t => .cons r t
 | _, _, i + 1, .cons q t => .cons q (Vals.set r i t)
theorem Vals.append : ∀ {xs ys : List V} {us ws : List Value}, Vals xs us -> Vals ys ws -> Vals (xs ++ ys) (us ++ ws)
 | _, _, _, _, .nil, s => s
 | _, _, _, _, .cons r t, s => .cons r (Vals.append t s)
theorem Vals.take : ∀ {xs : List V} {us : List Value} (n : Nat), Vals xs us -> Vals (xs.take n) (us.take n)
 | _, _, 0, _ => .nil
 | _, _, _ + 1, .nil => .nil
 | _, _, n + 1, .cons r t => .cons r (Vals.take n t)
theorem Vals.drop : ∀ {xs : List V} {us : List Value} (n : Nat), Vals xs us -> Vals (xs.drop n) (us.drop n)
 | _, _, 0, r => r
 | _, _, _ + 1, .nil => .nil
 | _, _, n + 1, .cons _ t => Vals.drop n t
theorem Vals.none_of : ∀ {xs : List V} {us : List Value} {i : Nat}, Vals xs us -> xs[i]? = none -> us[i]? = none := λ {xs us i} r e => by
 have h1 := r.length
 have h2 : xs.length <= i := List.getElem?_eq_none_iff.mp e
 exact List.getElem?_eq_none_iff.mpr (by omega)
def RelO : Option V -> Option Value -> Prop
 | some v, some u => RelV v u
 | none, none => True
 | _, _ => False
def KV {κ : Type} : List (κ × V) -> List (κ × Value) -> Prop := Paired λ (p : κ × V) (q : κ × Value) => p.1 = q.1 /\ RelV p.2 q.2
def kV : Key -> V
 | .inl i => .int i
 | .inr x => .str x
inductive HO where
 | lst (xs : List V)
 | tup (xs : List V)
 | dK (kvs : List (Key × V)) | dT (kvs : List (List Key × V))
 | set (S : Int -> Bool) (n : Nat)
 | ins (C dx : Addr) (fs : List (Str × V))
 | own (x : Addr)
 | xd (fs : List (Str × V))
 | met (f x : Addr)
 | rng (lo hi : Int)
 | frz (o : Obj) (u : HO)
 | tbl (ps : Array Value)
 | ext (φ : Heap -> Prop)
abbrev Hp := Addr -> Option HO
def upd (H : Hp) (a : Addr) (o : HO) : Hp := λ b => if b = a then some o else H b
theorem Ae {H : Hp} {a : Addr} {o : HO} : upd H a o a = some o := by unfold upd; rw [if_pos rfl]
theorem Al {H : Hp} {a b : Addr} {o : HO} (h : b ≠ a) : upd H a o b = H b := by unfold upd; rw [if_neg h]
theorem Eo {H : Hp} {a b : Addr} {o u : HO} (h : H a = some o) (h' : H b = some u) (d : o ≠ u) : a ≠ b := by
 intro e; subst e; rw [h] at h'; exact d (Option.some.inj h')
theorem Aq {H : Hp} {a b : Addr} {o : HO} (h : H a = some o) (h' : H b = none) : a ≠ b := by
 intro e; subst e; rw [h] at h'; cases h'
section
variable (P : Program) (w : World)
def ObjOk (H : Hp) (h : Heap) (a : Addr) : HO -> Prop
 | .lst xs => xs.length <= sizeLine /\ ∃ (its : List Value) (n : Nat), Vals xs its /\ h.get? a = some { cls := .type "list", data := .seq its.toArray n }
 | .tup xs => xs.length <= sizeLine /\ ∃ its : List Value, Vals xs its /\ IsTup h a its.toArray
 | .dK kvs => kvs.length <= sizeLine /\ (a == sysModules) = false /\ ∃ vs, KV kvs vs /\ h.DictOf (Bg P w) a vs
 | .dT kvs => kvs.length <= sizeLine /\ (a == sysModules) = false /\ ∃ xs : List (List Key × Addr × Value),
  Paired (λ (p : List Key × V) (q : List Key × Addr × Value) => p.1 = q.1 /\ H q.2.1 = some (.tup (p.1.map kV)) /\ RelV p.2 q.2.2) kvs xs /\
  ∃ o es ep, h.get? a = some o /\ o.ExactDict /\ o.data = .dict es ep /\ es.toList = xs.map (entryOfKey (tupleKind (Bg P w))) /\ (xs.map (·.1)).Nodup
 | .set S n => h.SetOf (intKind P w) a S n
 | .ins C dx fs => H dx = some (.own a) /\ fs.length <= 1000 /\ dx ≠ a /\ h.get? a = some (W.instObj C dx) /\
  ∃ mA, h.Ns1 dx mA /\ (∀ f, RelO (fs.lookup f) (mA f)) /\ PySem.Within mA (fs.map (·.1))
 | .own _ => ∃ o, h.get? a = some o
 | .xd fs => ∃ mA, h.Ns1 a mA /\ ∀ f, RelO (fs.lookup f) (mA f)
 | .rng lo hi => ∃ t u v, h.get? a = some { cls := .type "range", data := .fields #[.int lo t, .int hi u, .int 1 v] }
 | .frz o u => h.get? a = some o /\ ObjOk H h a u
 | .tbl ps => h.get? a = some { cls := .none, data := .fields ps }
 | .met f x => h.get? a = some (W.methodObj (.ref f) (.ref x))
 | .ext φ => φ h /\ (∃ o, h.get? a = some o) /\ ∀ h1 h2 : Heap, φ h1 -> (∀ o, h1.get? a = some o -> h2.get? a = some o) -> φ h2
def HOk (H : Hp) (h : Heap) : Prop := ∀ a o, H a = some o -> ObjOk P w H h a o
end
section
variable {P : Program} {w : World} {H H' : Hp} {h h' : Heap} {a : Addr} {o : HO}
theorem ObjOk.lt (x : ObjOk P w H h a o) : a < h.objs.size := by
 cases o with
 | lst xs => obtain ⟨_, _, _, _, e⟩ := x; exact Heap.lt_size e
 | tup xs => obtain ⟨_, _, _, p⟩ := x; exact p.lt
 | dK kvs => obtain ⟨_, _, _, _, o, _, _, e, _⟩ := x; exact Heap.lt_size e
 | dT kvs => obtain ⟨_, _, _, _, o, _, _, e, _⟩ := x; exact Heap.lt_size e
 | set S n => obtain ⟨o, _, _, _, e, _⟩ := x; exact Heap.lt_size e
 | ins C dx fs => obtain ⟨_, _, _, e, _⟩ := x; exact Heap.lt_size e
 | own y => obtain ⟨_, e⟩ := x; exact Heap.lt_size e
 | xd fs => obtain ⟨_, ⟨_, _, _, e, _⟩, _⟩ := x; exact Heap.lt_size e
 | rng lo hi => obtain ⟨_, _, _, e⟩ := x; exact Heap.lt_size e
 | frz ob u => obtain ⟨e, _⟩ := x; exact Heap.lt_size e
 | tbl ps => exact Heap.lt_size (show h.get? a = some _ from x)
 | met f y => exact Heap.lt_size (show h.get? a = some _ from x)
 | ext φ => obtain ⟨_, ⟨_, e⟩, _⟩ := x; exact Heap.lt_size e
theorem Paired.mapP {α β : Type} {F G : α -> β -> Prop} : ∀ {l₁ : List α} {l₂ : List β}, Paired F l₁ l₂ -> (∀ a b, F a b -> G a b) -> Paired G l₁ l₂
 | _, _, .nil, _ => .nil
 | _, _, .cons r t, f => .cons (f _ _ r) (Paired.mapP t f)
theorem ObjOk.stay (x : ObjOk P w H h a o) (k : ∀ b u, (b = a ∨ H b = some (.own a)) -> h.get? b = some u -> h'.get? b = some u)
  (ho : ∀ b, H b = some (.own a) -> H' b = some (.own a)) (ht : ∀ b xs, H b = some (.tup xs) -> H' b = some (.tup xs)) : ObjOk P w H' h' a o := by
 induction o with
 | lst xs => obtain ⟨z, its, n, r, e⟩ := x; exact ⟨z, its, n, r, k _ _ (.inl rfl) e⟩
 | tup xs => obtain ⟨z, its, r, ob, e, c⟩ := x; exact ⟨z, its, r, ob, k _ _ (.inl rfl) e, c⟩
 | dK kvs => obtain ⟨z, y, vs, r, ob, es, ep, e, c⟩ := x; exact ⟨z, y, vs, r, ob, es, ep, k _ _ (.inl rfl) e, c⟩
 |
  dT kvs =>
  obtain ⟨z, y, xs, r, ob, es, ep, e, c⟩ := x
  exact ⟨z, y, xs, Paired.mapP r λ p q z => ⟨z.1, ht _ _ z.2.1, z.2.2⟩, ob, es, ep, k _ _ (.inl rfl) e, c⟩
 | set S n => obtain ⟨ob, es, ep, t, e, c⟩ := x; exact ⟨ob, es, ep, t, k _ _ (.inl rfl) e, c⟩
 |
  ins C dx fs =>
  obtain ⟨d, z, ne, e, mA, ⟨od, es, ep, e2, c⟩, r⟩ := x
  exact ⟨ho _ d, z, ne, k _ _ (.inl rfl) e, mA, ⟨od, es, ep, k _ _ (.inr d) e2, c⟩, r⟩
 | own y => obtain ⟨ob, e⟩ := x; exact ⟨ob, k _ _ (.inl rfl) e⟩
 | xd fs => obtain ⟨mA, ⟨od, es, ep, e, c⟩, r⟩ := x; exact ⟨mA, ⟨od, es, ep, k _ _ (.inl rfl) e, c⟩, r⟩
 | rng lo hi => obtain ⟨t, u, v, e⟩ := x; exact ⟨t, u, v, k _ _ (.inl rfl) e⟩
 | frz ob u ih => obtain ⟨e, q⟩ := x; exact ⟨k _ _ (.inl rfl) e, ih q⟩
 |
  tbl ps =>
  have e : h.get? a = some { cls := .none, data := .fields ps } := x
  show h'.get? a = some { cls := .none, data := .fields ps }
  exact k a _ (.inl rfl) e
 |
  met f y =>
  have e : h.get? a = some (W.methodObj (.ref f) (.ref y)) := x
  show h'.get? a = some (W.methodObj (.ref f) (.ref y))
  exact k a _ (.inl rfl) e
 | ext φ => obtain ⟨p, ⟨o, e⟩, st⟩ := x; exact ⟨st _ _ p λ o q => k _ _ (.inl rfl) q, ⟨o, k _ _ (.inl rfl) e⟩, st⟩
theorem HOk.lt (x : HOk P w H h) (e : H a = some o) : a < h.objs.size := (x a o e).lt
theorem HOk.fresh (x : HOk P w H h) (e : h.objs.size <= a) : H a = none := by
 cases q : H a with
 | none => rfl
 | some u => exact absurd (Nat.lt_of_lt_of_le (x.lt q) e) (Nat.lt_irrefl _)
theorem HOk.kept (x : HOk P w H h) (k : ∀ b u, h.get? b = some u -> h'.get? b = some u) : HOk P w H h' := λ a o e =>
 (x a o e).stay (λ b u _ q => k b u q) (λ _ q => q) λ _ _ q => q
theorem HOk.laid (x : HOk P w H h) (k : ∀ b u, h.get? b = some u -> h'.get? b = some u) (hp : h.objs.size <= a) (new : ObjOk P w (upd H a o) h' a o) : HOk P w (upd H a o) h' := λ b u e => by
 have hn := x.fresh hp
 by_cases hb : b = a
 · subst hb; rw [Ae] at e; cases e; exact new
 ·
  rw [Al hb] at e
  exact (x b u e).stay (λ c v _ q => k c v q) (λ c q => by rw [Al (Aq q hn)]; exact q) λ c xs q => by rw [Al (Aq q hn)]; exact q
end
def Rd (H : Hp) (a : Addr) (u : HO) : Prop := H a = some u ∨ ∃ o, H a = some (.frz o u)
theorem Rd.of {H : Hp} {a : Addr} {u : HO} (h : H a = some u) : Rd H a u := .inl h
theorem Rd.ok {P : Program} {w : World} {H : Hp} {h : Heap} {a : Addr} {u : HO} (r : Rd H a u) (x : HOk P w H h) : ObjOk P w H h a u := by
 rcases r with r | ⟨o, r⟩
 · exact x a u r
 ·
  obtain ⟨_, q⟩ := x a _ r
  exact q
def Mut : Option HO -> Prop
 | some (.lst _) => True
 | some (.dK _) => True
 | some (.dT _) => True
 | some (.set _ _) => True
 | some (.ins _ _ _) => True
 | some (.ext _) => True
 | _ => False
section
variable {P : Program} {w : World} {H : Hp} {h h' : Heap} {x e : Addr} {o' : HO}
theorem HOk.write (ok : HOk P w H h) (mu : Mut (H x)) (he : e = x ∨ H e = some (.own x)) (k : ∀ b u, b ≠ e -> h.get? b = some u -> h'.get? b = some u) (heo : ∃ u, h'.get? e = some u)
  (new : ObjOk P w (upd H x o') h' x o') : HOk P w (upd H x o') h' := λ b u q => by
 have nown : ∀ c y, H c = some (.own y) -> c ≠ x := λ c y r z => by subst z; rw [r] at mu; exact mu
 have ntup : ∀ c xs, H c = some (.tup xs) -> c ≠ x := λ c xs r z => by subst z; rw [r] at mu; exact mu
 by_cases hb : b = x
 · subst hb; rw [Ae] at q; cases q; exact new
 ·
  rw [Al hb] at q
  by_cases hbe : b = e
  ·
   have q' : H b = some (.own x) := by
    rcases he with z | z
    · exact absurd (hbe.trans z) hb
    · rw [hbe]; exact z
   rw [q] at q'; cases q'
   obtain ⟨v, hv⟩ := heo
   exact ⟨v, by rw [hbe]; exact hv⟩
  ·
   refine (ok b u q).stay (λ c v hc r => k c v ?_ r) (λ c r => by rw [Al (nown c b r)]; exact r) λ c xs r => by rw [Al (ntup c xs r)]; exact r
   rcases hc with rfl | hc
   · exact hbe
   ·
    rintro rfl
    rcases he with z | z
    · exact nown c b hc z
    · rw [hc] at z; cases z; exact hb rfl
end
structure Un (fs ex : List Addr) (H H' : Hp) (h h' : Heap) : Prop where
 keep : ∀ b o, h.get? b = some o -> H b = none -> b ∉ fs -> b ∉ ex -> h'.get? b = some o
 slot : ∀ b o, h.get? b = some o -> H b = none -> b ∈ fs -> b ∉ ex -> ∃ sl, h'.get? b = some { o with slots := sl }
 free : ∀ b o, h.get? b = some o -> H b = none -> b ∉ ex -> H' b = none
 there : ∀ b o, h.get? b = some o -> b ∉ ex -> ∃ o', h'.get? b = some o'
 tups : ∀ b xs, H b = some (.tup xs) -> H' b = some (.tup xs)
 frzs : ∀ b o u, H b = some (.frz o u) -> H' b = some (.frz o u)
 tbls : ∀ b ps, H b = some (.tbl ps) -> ∃ more, H' b = some (.tbl (ps ++ more))
section
variable {fs fs' ex ex' : List Addr} {H H1 H2 : Hp} {h h1 h2 h' : Heap} {a x e : Addr} {o : HO}
theorem Un.any (u : Un fs ex H H1 h h1) {b : Addr} {ob : Obj} (q : h.get? b = some ob) (n : H b = none) (hx : b ∉ ex) : ∃ sl, h1.get? b = some { ob with slots := sl } := by
 by_cases hb : b ∈ fs
 · exact u.slot b ob q n hb hx
 · exact ⟨ob.slots, u.keep b ob q n hb hx⟩
theorem Un.trans (a : Un fs ex H H1 h h1) (b : Un fs ex H1 H2 h1 h2) : Un fs ex H H2 h h2 where
 keep := λ c ob q n hc hx => b.keep c ob (a.keep c ob q n hc hx) (a.free c ob q n hx) hc hx
 slot := λ c ob q n hc hx => by
  obtain ⟨sl, e1⟩ := a.slot c ob q n hc hx
  obtain ⟨sl', e2⟩ := b.slot c _ e1 (a.free c ob q n hx) hc hx
  exact ⟨sl', e2⟩
 free := λ c ob q n hx => by
  obtain ⟨o', e1⟩ := a.there c ob q hx
  exact b.free c o' e1 (a.free c ob q n hx) hx
 there := λ c ob q hx => by
  obtain ⟨o', e1⟩ := a.there c ob q hx
  exact b.there c o' e1 hx
 tups := λ c xs q => b.tups c xs (a.tups c xs q)
 frzs := λ c ob xs q => b.frzs c ob xs (a.frzs c ob xs q)
 tbls := λ c ps q => by
  obtain ⟨m1, e1⟩ := a.tbls c ps q
  obtain ⟨m2, e2⟩ := b.tbls c _ e1
  exact ⟨m1 ++ m2, by rw [e2, Array.append_assoc]⟩
theorem Un.kept (k : ∀ b u, h.get? b = some u -> h'.get? b = some u) : Un fs ex H H h h' :=
 ⟨λ b ob q _ _ _ => k b ob q, λ b ob q _ _ _ => ⟨ob.slots, k b ob q⟩, λ _ _ _ n _ => n, λ b ob q _ => ⟨ob, k b ob q⟩, λ _ _ q => q, λ _ _ _ q => q, λ _ ps q => ⟨#[], by rw [q]; simp⟩⟩
theorem Un.refl : Un fs ex H H h h := Un.kept λ _ _ q => q
theorem Un.laid (k : ∀ b u, h.get? b = some u -> h'.get? b = some u) (hp : h.objs.size <= a) (hn : H a = none) : Un fs ex H (upd H a o) h h' where
 keep := λ b u q _ _ _ => k b u q
 slot := λ b u q _ _ _ => ⟨u.slots, k b u q⟩
 free := λ b u q n _ => by rw [Al (Nat.ne_of_lt (Nat.lt_of_lt_of_le (Heap.lt_size q) hp))]; exact n
 there := λ b u q _ => ⟨u, k b u q⟩
 tups := λ b xs q => by rw [Al (Aq q hn)]; exact q
 frzs := λ b u xs q => by rw [Al (Aq q hn)]; exact q
 tbls := λ b ps q => ⟨#[], by rw [Al (Aq q hn), q]; simp⟩
theorem Un.write (mu : Mut (H x)) (he : e = x ∨ H e = some (.own x)) (k : ∀ b u, b ≠ e -> h.get? b = some u -> h'.get? b = some u) (heo : ∃ u, h'.get? e = some u) : Un fs ex H (upd H x o) h h' := by
 have hx : ∀ b, H b = none -> b ≠ x := λ b n z => by subst z; rw [n] at mu; exact mu
 have hb : ∀ b, H b = none -> b ≠ e := λ b n z => by
  subst z
  rcases he with r | r
  · exact hx b n r
  · rw [n] at r; cases r
 have hm : ∀ b u, H b = some u -> ¬ Mut (some u) -> b ≠ x := λ b u q nm z => by subst z; rw [q] at mu; exact nm mu
 refine ⟨λ b u q n _ _ => k b u (hb b n) q, λ b u q n _ _ => ⟨u.slots, k b u (hb b n) q⟩, λ b u q n _ => by rw [Al (hx b n)]; exact n, λ b u q _ => ?_,
  λ b xs q => by rw [Al (hm b _ q λ z => z)]; exact q, λ b u xs q => by rw [Al (hm b _ q λ z => z)]; exact q, λ b ps q => ⟨#[], by rw [Al (hm b _ q λ z => z), q]; simp⟩⟩
 by_cases hbe : b = e
 · subst hbe; exact heo
 · exact ⟨u, k b u hbe q⟩
theorem Un.mono (u : Un fs ex H H1 h h1) (hs : ∀ b ∈ fs, b ∈ fs') (hx : ∀ b ∈ ex, b ∈ ex') : Un fs' ex' H H1 h h1 :=
 ⟨λ b ob q n hb he => u.keep b ob q n (λ z => hb (hs b z)) λ z => he (hx b z), λ _ _ q n _ he => u.any q n λ z => he (hx _ z), λ b ob q n he => u.free b ob q n λ z => he (hx b z), λ b ob q he => u.there b ob q λ z => he (hx b z), u.tups, u.frzs, u.tbls⟩
end
def trk (h : Heap) (H : Hp) : List Addr := (List.range h.objs.size).filter λ a => (H a).isSome
def dc (h : Heap) (H : Hp) : Heap := W.hideAll h (trk h H)
theorem Zy (h : Heap) (H : Hp) : (dc h H).objs.size = h.objs.size := W.hideAll_size _ _
theorem au {h : Heap} {H : Hp} {b : Addr} {o : Obj} (e : h.get? b = some o) (n : H b = none) : (dc h H).get? b = some o :=
 W.hideAll_get _ e λ hm => by
  have q : (H b).isSome = true := (List.mem_filter.mp hm).2
  rw [n] at q; simp at q
theorem ft {h : Heap} {H : Hp} {b : Addr} {o : Obj} (e : (dc h H).get? b = some o) : h.get? b = some o /\ H b = none := by
 have e' : h.get? b = some o := W.of_hideAll (trk h H) e
 refine ⟨e', ?_⟩
 cases q : H b with
 | none => rfl
 |
  some x =>
  have hm : b ∈ trk h H := List.mem_filter.mpr ⟨List.mem_range.mpr (Heap.lt_size e'), by simp [q]⟩
  have z : (dc h H).get? b = none := W.hideAll_none (trk h H) hm
  rw [z] at e; cases e
def jd (g h : Heap) (L : Addr) : List (Addr × Obj) := (List.range h.objs.size).filterMap λ a => if a = L ∨ (g.get? a).isSome = true then none else (h.get? a).map λ o => (a, o)
def rest (g h : Heap) (L d : Addr) : List (Addr × Obj) := (jd g h L).filter λ p => decide (p.1 ≠ d)
structure Mod (K : W.Frag) (mg : Str -> Option Value) (base : Heap) : Prop where
 kin : K.In base
 glob : base.Ns mainGlobals mg
 blt : ∃ mb, base.Ns builtinsNs mb /\ ∀ x : Str, x ≠ "__name__" -> mb x = bootBuiltins x
 nolimit : base.NoLimit
structure Cx where
 prog : Program
 w : World
 K : W.Frag
 mg : Str -> Option Value
 base : Heap
 A : Around
 N : List Str
 s₀ : Shared
 H₀ : Hp
 env : Env
 outer : List Env
 stack : List Env
 ex : List Addr
 fn : Str -> Bool
 calm : Bool
 pn : List (Addr × Obj)
 xe : Value -> Shared -> Prop
def frs (l : List Env) : List Addr := l.filterMap (·.frame)
abbrev Cx.fs (X : Cx) : List Addr := frs X.outer
def Vis (sc : Scope) (x : Str) : Prop := sc.names.lookup x = some .local ∨ sc.names.lookup x = some .cell ∨ sc.names.lookup x = some .free
def Loc (sc : Scope) (x : Str) : Prop := sc.names.lookup x = some .local ∨ sc.names.lookup x = some .cell
def Look (env : Env) (h : Heap) (m : Str -> Option Value) (x : Str) (u : Value) : Prop :=
 (env.kindOf x = some .local /\ m x = some u) ∨ ((env.kindOf x = some .cell ∨ env.kindOf x = some .free) /\ ∃ c, env.cells.lookup x = some c /\ h.IsCell c (some u))
structure Cx.Ok (X : Cx) : Prop where
 mod : Mod X.K X.mg X.base
 kind : X.env.scope.kind = .function
 glob : X.env.globals = mainGlobals
 blt : X.env.builtins = builtinsNs
 above : X.s₀.heap.objs.size <= X.env.locals
 inj : ∀ x y c, X.env.cells.lookup x = some c -> X.env.cells.lookup y = some c -> x = y
 has : ∀ x, (X.env.kindOf x = some .cell ∨ X.env.kindOf x = some .free) -> ∃ c, X.env.cells.lookup x = some c
 cab : ∀ x c, X.fn x = true -> X.env.cells.lookup x = some c -> X.s₀.heap.objs.size <= c
 hd : X.calm = true -> X.A.handled = none
 frames : X.A.frames = some X.stack
 stk : X.stack = X.outer ∨ (X.stack = X.env :: X.outer /\ X.env.frame = some X.env.locals)
 exf : ∀ b ∈ X.ex, b ≠ X.env.locals /\ ∀ x c, X.env.cells.lookup x = some c -> c ≠ b
 bs : ∀ b o, X.base.get? b = some o -> X.s₀.heap.get? b = some o /\ X.H₀ b = none
 bsz : X.base.objs.size <= X.s₀.heap.objs.size
 noex : ∀ b o, X.base.get? b = some o -> b ∉ X.ex
 exfs : ∀ b ∈ X.ex, b ∉ X.fs
 funs : X.s₀.heap.FunFrames X.base X.outer
 frf : ∀ b ∈ X.fs, X.H₀ b = none
structure Inv (X : Cx) (pins : List (Addr × Obj)) (σ : List (Option V)) (H : Hp) (s : Shared) : Prop where
 ok : X.Ok
 os : s.os = X.s₀.os
 bare : AllBare s.gens
 base : Un X.fs X.ex X.H₀ H X.s₀.heap s.heap
 loc : ∃ m, s.heap.Ns X.env.locals m /\ ∀ (i : Nat) (x : Str) (v : V), X.N[i]? = some x -> σ[i]? = some (some v) -> Vis X.env.scope x -> ∃ u, RelV v u /\ Look X.env s.heap m x u
 cell : ∀ x c, X.env.cells.lookup x = some c -> ∃ v, s.heap.IsCell c v
 free : H X.env.locals = none
 freeC : ∀ x c, X.env.cells.lookup x = some c -> H c = none
 pin : ∀ p ∈ X.pn ++ pins, s.heap.get? p.1 = some p.2 /\ H p.1 = none /\ p.1 ≠ X.env.locals /\ p.1 ∉ X.fs /\ ∀ v, p.2.data ≠ .cell v
 hok : HOk X.prog X.w H s.heap
 len : σ.length = X.N.length
section
variable {X : Cx} {pins : List (Addr × Obj)} {σ : List (Option V)} {H H' : Hp} {s : Shared} {h' : Heap}
theorem Cx.Ok.nofr (ok : X.Ok) {b : Addr} {o : Obj} (e : X.base.get? b = some o) : b ∉ X.fs := λ hb => by
 have := (ok.funs.mem hb).1
 rw [e] at this; cases this
theorem Inv.bs (I : Inv X pins σ H s) : ∀ b o, X.base.get? b = some o -> s.heap.get? b = some o /\ H b = none := λ b o e =>
 ⟨I.base.keep b o (I.ok.bs b o e).1 (I.ok.bs b o e).2 (I.ok.nofr e) (I.ok.noex b o e), I.base.free b o (I.ok.bs b o e).1 (I.ok.bs b o e).2 (I.ok.noex b o e)⟩
theorem Inv.bk (I : Inv X pins σ H s) : ∀ b o, X.base.get? b = some o -> s.heap.get? b = some o := λ b o e => (I.bs b o e).1
theorem Inv.mod (I : Inv X pins σ H s) : Mod X.K X.mg X.base := I.ok.mod
theorem Inv.kIn (I : Inv X pins σ H s) : X.K.In s.heap := I.ok.mod.kin.keeps I.bk
theorem Inv.nolimit (I : Inv X pins σ H s) : s.heap.NoLimit := I.ok.mod.nolimit.keeps I.bk
theorem Inv.fr (I : Inv X pins σ H s) : ∃ m, Fr X.base X.env.locals s.heap m :=
 let ⟨m, hn, _⟩ := I.loc
 ⟨m, hn, I.bk, Nat.le_trans I.ok.bsz I.ok.above⟩
theorem Inv.lt (I : Inv X pins σ H s) : X.env.locals < s.heap.objs.size := let ⟨_, hn, _⟩ := I.loc; hn.lt
theorem Inv.sz (I : Inv X pins σ H s) : X.s₀.heap.objs.size <= s.heap.objs.size := Nat.le_trans I.ok.above (Nat.le_of_lt I.lt)
theorem Inv.nofs (I : Inv X pins σ H s) {a : Addr} (h : s.heap.objs.size <= a) : a ∉ X.fs := λ hb => by
 obtain ⟨_, o, ho, _⟩ := I.ok.funs.mem hb
 exact absurd (Nat.lt_of_lt_of_le (Heap.lt_size ho) (Nat.le_trans I.sz h)) (Nat.lt_irrefl _)
theorem Inv.cne (I : Inv X pins σ H s) : ∀ x c, X.env.cells.lookup x = some c -> c ≠ X.env.locals := λ x c e z => by
 obtain ⟨v, o, ho, hd⟩ := I.cell x c e
 obtain ⟨m, ⟨o', es, ep, ho', hd', _⟩, _⟩ := I.loc
 rw [z, ho'] at ho; cases ho; rw [hd'] at hd; cases hd
theorem Inv.funs (I : Inv X pins σ H s) : s.heap.FunFrames X.base X.outer := by
 have all : ∀ (l : List Env), (∀ b ∈ frs l, b ∈ X.fs) -> X.s₀.heap.FunFrames X.base l -> s.heap.FunFrames X.base l := by
  intro l
  induction l with
  | nil => intro _ _; trivial
  |
   cons env r ih =>
   intro hs hl
   obtain ⟨hk, ⟨L, o, hf, hn, ho, hd⟩, hr⟩ := hl
   have hL : L ∈ X.fs := hs L (by unfold frs; rw [List.filterMap_cons, hf]; exact List.mem_cons_self)
   obtain ⟨sl, e⟩ := I.base.slot L o ho (I.ok.frf L hL) hL λ z => I.ok.exfs L z hL
   exact ⟨hk, ⟨L, _, hf, hn, e, hd⟩, ih (λ b hb => hs b (by unfold frs; rw [List.filterMap_cons, hf]; exact List.mem_cons_of_mem _ hb)) hr⟩
 exact all X.outer (λ _ hb => hb) I.ok.funs
theorem Inv.stack (I : Inv X pins σ H s) : s.heap.FunFrames X.base X.stack := by
 rcases I.ok.stk with e | ⟨e, hf⟩
 · rw [e]; exact I.funs
 ·
  rw [e]
  obtain ⟨m, hn, _⟩ := I.loc
  refine .cons (by rw [I.ok.kind]; decide) hf hn ?_ I.funs
  exact Heap.get?_none_of_le (Nat.le_trans I.ok.bsz I.ok.above)
theorem Inv.stkSub (I : Inv X pins σ H s) : ∀ b ∈ frs X.stack, b ∈ X.env.locals :: X.fs := λ b hb => by
 rcases I.ok.stk with e | ⟨e, hf⟩
 · rw [e] at hb; exact List.mem_cons_of_mem _ hb
 ·
  rw [e] at hb
  unfold frs at hb
  rw [List.filterMap_cons, hf] at hb
  exact hb
theorem Inv.stkFree (I : Inv X pins σ H s) : ∀ b ∈ frs X.stack, H b = none := λ b hb => by
 rcases List.mem_cons.mp (I.stkSub b hb) with e | hb
 · rw [e]; exact I.free
 ·
  obtain ⟨_, o, ho, _⟩ := I.ok.funs.mem hb
  exact I.base.free b o ho (I.ok.frf b hb) λ z => I.ok.exfs b z hb
theorem Inv.step {g' : Array GenState} {t' : Nat} {d' : Drawn} {ch : List Addr} (I : Inv X pins σ H s)
  (hch : ∀ b ∈ ch, (b ∈ X.ex ∨ X.s₀.heap.objs.size <= b) /\ b ≠ X.env.locals /\ (∀ x c, X.env.cells.lookup x = some c -> c ≠ b) /\ ∀ p ∈ X.pn ++ pins, p.1 ≠ b)
  (keep : ∀ b o, b ≠ X.env.locals -> b ∉ X.fs -> b ∉ ch -> s.heap.get? b = some o -> H b = none -> h'.get? b = some o)
  (slot : ∀ b o, b ≠ X.env.locals -> b ∈ X.fs -> b ∉ ch -> s.heap.get? b = some o -> H b = none -> ∃ sl, h'.get? b = some { o with slots := sl }) (free : ∀ b o, b ∉ ch -> s.heap.get? b = some o -> H b = none -> H' b = none)
  (there : ∀ b o, b ∉ ch -> s.heap.get? b = some o -> ∃ o', h'.get? b = some o')
  (tups : ∀ b xs, H b = some (.tup xs) -> H' b = some (.tup xs)) (frzs : ∀ b o u, H b = some (.frz o u) -> H' b = some (.frz o u)) (tbls : ∀ b ps, H b = some (.tbl ps) -> ∃ more, H' b = some (.tbl (ps ++ more)))
  (ns : ∀ m, s.heap.Ns X.env.locals m -> h'.Ns X.env.locals m) (hok : HOk X.prog X.w H' h') (hg : AllBare g') :
  Inv X pins σ H' { s with heap := h', gens := g', drawn := d', toks := t' } := by
 have neL : ∀ b o, X.s₀.heap.get? b = some o -> b ≠ X.env.locals := λ b o e => Nat.ne_of_lt (Nat.lt_of_lt_of_le (Heap.lt_size e) I.ok.above)
 have neC : ∀ b o, X.s₀.heap.get? b = some o -> b ∉ X.ex -> b ∉ ch := λ b o e hx hb => by
  rcases (hch b hb).1 with z | z
  · exact hx z
  · exact absurd (Nat.lt_of_lt_of_le (Heap.lt_size e) z) (Nat.lt_irrefl _)
 have cellK : ∀ x c, X.env.cells.lookup x = some c -> ∀ v, s.heap.IsCell c v -> h'.IsCell c v := λ x c e v ⟨o, ho, hd⟩ => by
  have nch : c ∉ ch := λ z => (hch c z).2.2.1 x c e rfl
  by_cases hc : c ∈ X.fs
  ·
   obtain ⟨sl, q⟩ := slot c o (I.cne x c e) hc nch ho (I.freeC x c e)
   exact ⟨_, q, hd⟩
  · exact ⟨o, keep c o (I.cne x c e) hc nch ho (I.freeC x c e), hd⟩
 refine ⟨I.ok, I.os, hg, ⟨λ b o e n hb hx => ?_, λ b o e n hb hx => ?_, λ b o e n hx => ?_, λ b o e hx => ?_, λ b xs e => tups b xs (I.base.tups b xs e), λ b o xs e => frzs b o xs (I.base.frzs b o xs e), λ b ps e => ?_⟩, ?_, λ x c e => ?_, ?_, λ x c e => ?_, λ p hp => ?_, hok, I.len⟩
 · exact keep b o (neL b o e) hb (neC b o e hx) (I.base.keep b o e n hb hx) (I.base.free b o e n hx)
 ·
  obtain ⟨sl, e1⟩ := I.base.slot b o e n hb hx
  obtain ⟨sl', e2⟩ := slot b _ (neL b o e) hb (neC b o e hx) e1 (I.base.free b o e n hx)
  exact ⟨sl', e2⟩
 ·
  obtain ⟨o', e1⟩ := I.base.there b o e hx
  exact free b o' (neC b o e hx) e1 (I.base.free b o e n hx)
 ·
  obtain ⟨o', e1⟩ := I.base.there b o e hx
  exact there b o' (neC b o e hx) e1
 ·
  obtain ⟨m1, e1⟩ := I.base.tbls b ps e
  obtain ⟨m2, e2⟩ := tbls b _ e1
  exact ⟨m1 ++ m2, by rw [e2, Array.append_assoc]⟩
 ·
  obtain ⟨m, hn, hl⟩ := I.loc
  refine ⟨m, ns m hn, λ i x v e1 e2 e3 => ?_⟩
  obtain ⟨u, r, l⟩ := hl i x v e1 e2 e3
  refine ⟨u, r, ?_⟩
  rcases l with l | ⟨k, c, e, z⟩
  · exact .inl l
  · exact .inr ⟨k, c, e, cellK x c e _ z⟩
 ·
  obtain ⟨v, z⟩ := I.cell x c e
  exact ⟨v, cellK x c e v z⟩
 ·
  obtain ⟨m, ⟨o, _, _, ho, _⟩, _⟩ := I.loc
  exact free _ o (λ z => (hch _ z).2.1 rfl) ho I.free
 ·
  obtain ⟨v, o, ho, hd⟩ := I.cell x c e
  exact free c o (λ z => (hch c z).2.2.1 x c e rfl) ho (I.freeC x c e)
 ·
  obtain ⟨e, n, ne, nf, d⟩ := I.pin p hp
  have nch : p.1 ∉ ch := λ z => (hch p.1 z).2.2.2 p hp rfl
  exact ⟨keep p.1 p.2 ne nf nch e n, free p.1 p.2 nch e n, ne, nf, d⟩
theorem Inv.un {t' : Nat} (I : Inv X pins σ H s) (u : Un X.fs [] H H' s.heap h') (hok : HOk X.prog X.w H' h') : Inv X pins σ H' { s with heap := h', toks := t' } := by
 obtain ⟨m, ⟨o, es, ep, ho, r⟩, _⟩ := id I.loc
 obtain ⟨sl, hL⟩ := u.any ho I.free (by simp)
 exact I.step (g' := s.gens) (d' := s.drawn) (ch := []) (λ _ z => nomatch z) (λ b o _ hb _ e n => u.keep b o e n hb (by simp)) (λ b o _ hb _ e n => u.slot b o e n hb (by simp)) (λ b o _ e n => u.free b o e n (by simp)) (λ b o _ e => u.there b o e (by simp)) u.tups u.frzs u.tbls (λ m' hm => by
  obtain ⟨o', es', ep', ho', r'⟩ := hm
  rw [ho] at ho'; cases ho'
  exact ⟨_, es', ep', hL, r'⟩) hok I.bare
theorem Inv.call {g' : Array GenState} {t' : Nat} {d' : Drawn} {ch : List Addr} (I : Inv X pins σ H s) (u : Un (frs X.stack) ch H H' s.heap h') (hok : HOk X.prog X.w H' h') (hg : AllBare g')
  (hch : ∀ b ∈ ch, (b ∈ X.ex ∨ X.s₀.heap.objs.size <= b) /\ b ≠ X.env.locals /\ (∀ x c, X.env.cells.lookup x = some c -> c ≠ b) /\ ∀ p ∈ X.pn ++ pins, p.1 ≠ b) :
  Inv X pins σ H' { s with heap := h', gens := g', drawn := d', toks := t' } := by
 obtain ⟨m, ⟨o, es, ep, ho, r⟩, _⟩ := id I.loc
 obtain ⟨sl, hL⟩ := u.any ho I.free λ z => (hch _ z).2.1 rfl
 exact I.step (ch := ch) hch (λ b o hL hb hc e n => u.keep b o e n (λ z => (List.mem_cons.mp (I.stkSub b z)).elim hL hb) hc) (λ b o _ _ hc e n => u.any e n hc) (λ b o hc e n => u.free b o e n hc) (λ b o hc e => u.there b o e hc) u.tups u.frzs u.tbls (λ m' hm => by
  obtain ⟨o', es', ep', ho', r'⟩ := hm
  rw [ho] at ho'; cases ho'
  exact ⟨_, es', ep', hL, r'⟩) hok hg
theorem Inv.turned {t' : Nat} {it : Addr} (I : Inv X pins σ H s) (k : ∀ b o, b ≠ it -> s.heap.get? b = some o -> h'.get? b = some o) (hn : H it = none) (hL : it ≠ X.env.locals)
  (h1 : it ∈ X.ex ∨ X.s₀.heap.objs.size <= it) (h2 : ∀ x c, X.env.cells.lookup x = some c -> c ≠ it) (h3 : ∀ p ∈ X.pn ++ pins, p.1 ≠ it) : Inv X pins σ H { s with heap := h', toks := t' } := by
 have nit : ∀ b u, H b = some u -> b ≠ it := λ b u e z => by rw [z, hn] at e; cases e
 refine I.step (g' := s.gens) (d' := s.drawn) (ch := [it]) (λ b hb => ?_) (λ b o _ _ hc e _ => k b o (λ z => hc (by simp [z])) e) (λ b o _ _ hc e _ => ⟨o.slots, k b o (λ z => hc (by simp [z])) e⟩) (λ _ _ _ _ n => n)
  (λ b o hc e => ⟨o, k b o (λ z => hc (by simp [z])) e⟩) (λ _ _ e => e) (λ _ _ _ e => e) (λ b ps e => ⟨#[], by rw [e]; simp⟩) (λ m hm => ?_) (λ b u e => ?_) I.bare
 ·
  have e : b = it := by simpa using hb
  subst e
  exact ⟨h1, hL, h2, h3⟩
 ·
  obtain ⟨o, es, ep, ho, r⟩ := hm
  exact ⟨o, es, ep, k _ o (Ne.symm hL) ho, r⟩
 ·
  refine (I.hok b u e).stay (λ c v hc q => k c v ?_ q) (λ _ q => q) λ _ _ q => q
  rcases hc with z | z
  · rw [z]; exact nit b u e
  · exact nit c _ z
theorem Inv.tok (I : Inv X pins σ H s) (t : Nat) : Inv X pins σ H { s with toks := t } := I.un (h' := s.heap) (t' := t) Un.refl I.hok
theorem Inv.kept {t' : Nat} (I : Inv X pins σ H s) (k : ∀ b u, s.heap.get? b = some u -> h'.get? b = some u) : Inv X pins σ H { s with heap := h', toks := t' } := I.un (Un.kept k) (I.hok.kept k)
theorem Inv.laid {a : Addr} {o : HO} {t' : Nat} (I : Inv X pins σ H s) (k : ∀ b u, s.heap.get? b = some u -> h'.get? b = some u) (hp : s.heap.objs.size <= a) (new : ObjOk X.prog X.w (upd H a o) h' a o) :
 Inv X pins σ (upd H a o) { s with heap := h', toks := t' } := I.un (Un.laid k hp (I.hok.fresh hp)) (I.hok.laid k hp new)
theorem Inv.write {x e : Addr} {o : HO} {t' : Nat} (I : Inv X pins σ H s) (mu : Mut (H x)) (he : e = x ∨ H e = some (.own x)) (k : ∀ b u, b ≠ e -> s.heap.get? b = some u -> h'.get? b = some u) (heo : ∃ u, h'.get? e = some u)
 (new : ObjOk X.prog X.w (upd H x o) h' x o) : Inv X pins σ (upd H x o) { s with heap := h', toks := t' } := I.un (Un.write mu he k heo) (I.hok.write mu he k heo new)
theorem Inv.pins_of {pins' : List (Addr × Obj)} (I : Inv X pins σ H s) (h : ∀ p ∈ pins', s.heap.get? p.1 = some p.2 /\ H p.1 = none /\ p.1 ≠ X.env.locals /\ p.1 ∉ X.fs /\ ∀ v, p.2.data ≠ .cell v) : Inv X pins' σ H s :=
 ⟨I.ok, I.os, I.bare, I.base, I.loc, I.cell, I.free, I.freeC, λ p hp => (List.mem_append.mp hp).elim (λ z => I.pin p (List.mem_append_left _ z)) (h p), I.hok, I.len⟩
theorem Vz {N : List Str} (hN : N.Nodup) {i j : Nat} {x : Str} (a : N[i]? = some x) (b : N[j]? = some x) : i = j := by
 obtain ⟨h1, e1⟩ := List.getElem?_eq_some_iff.mp a
 obtain ⟨h2, e2⟩ := List.getElem?_eq_some_iff.mp b
 exact (List.getElem_inj hN).mp (e1.trans e2.symm)
theorem Q3 {M : Model} {A : Around} {E : Value -> Shared -> Prop} {i : Nat} {x : Str} {v : V} {u : Value} {Q : Unit -> Shared -> Prop} (I : Inv X pins σ H s) (hN : X.N.Nodup) (hi : X.N[i]? = some x) (hx : Loc X.env.scope x) (r : RelV v u)
  (h : ∀ s', Inv X pins (σ.set i (some v)) H s' -> (∃ a, Heap.SameBut a s.heap s'.heap /\ (a = X.env.locals ∨ X.env.cells.lookup x = some a)) -> Q () s') (hf : X.fn x = true ∨ X.env.scope.names.lookup x = some .local := by first | exact .inl rfl | exact .inr rfl | assumption) : wpAny M A (storeName X.env x u) Q E s := by
 obtain ⟨m, hn, hl⟩ := id I.loc
 have hcls : (X.env.scope.kind == .class || (X.env.scope.kind == .module && X.env.locals != X.env.globals)) = false := by rw [I.ok.kind]; rfl
 have hiσ : i < σ.length := by rw [I.len]; exact (List.getElem?_eq_some_iff.mp hi).1
 have cne := I.cne
 have tracked : ∀ {a : Addr} {h' : Heap}, (∃ o, s.heap.get? a = some o /\ H a = none) -> Heap.SameBut a s.heap h' -> HOk X.prog X.w H h' := λ {a h'} ha hs b ob e => by
  obtain ⟨_, _, hfree⟩ := ha
  refine (I.hok b ob e).stay (λ c w' hc q => (hs.2 c ?_).trans q) (λ _ q => q) λ _ _ q => q
  rintro rfl
  rcases hc with rfl | hc
  · rw [hfree] at e; cases e
  · rw [hfree] at hc; cases hc
 rcases hx with hk | hk
 ·
  refine wpAny_storeName_local hk hn (λ h' hn' hs => ?_) hcls
  obtain ⟨oL, _, _, hoL, _⟩ := id hn
  refine h _ ⟨I.ok, I.os, I.bare, ⟨λ b o e n hb hx => ?_, λ b o e n hb hx => ?_, I.base.free, λ b o e hx => ?_, I.base.tups, I.base.frzs, I.base.tbls⟩, ⟨_, hn', λ j y v' e1 e2 e3 => ?_⟩, λ y c e => ?_, I.free, I.freeC, λ p hp => ?_, tracked ⟨oL, hoL, I.free⟩ hs, by simpa using I.len⟩ ⟨_, hs, .inl rfl⟩
  · exact (hs.2 b (Nat.ne_of_lt (Nat.lt_of_lt_of_le (Heap.lt_size e) I.ok.above))).trans (I.base.keep b o e n hb hx)
  ·
   obtain ⟨sl, e1⟩ := I.base.slot b o e n hb hx
   exact ⟨sl, (hs.2 b (Nat.ne_of_lt (Nat.lt_of_lt_of_le (Heap.lt_size e) I.ok.above))).trans e1⟩
  ·
   obtain ⟨o', e1⟩ := I.base.there b o e hx
   exact ⟨o', (hs.2 b (Nat.ne_of_lt (Nat.lt_of_lt_of_le (Heap.lt_size e) I.ok.above))).trans e1⟩
  ·
   by_cases hj : j = i
   ·
    subst hj
    rw [hi] at e1; cases e1
    rw [List.getElem?_set_self hiσ] at e2
    cases e2
    exact ⟨u, r, .inl ⟨hk, by simp⟩⟩
   ·
    rw [List.getElem?_set_ne (Ne.symm hj)] at e2
    obtain ⟨u', r', q⟩ := hl j y v' e1 e2 e3
    refine ⟨u', r', ?_⟩
    rcases q with ⟨k, e⟩ | ⟨k, c, e, z⟩
    ·
     refine .inl ⟨k, ?_⟩
     have : y ≠ x := λ e => hj (Vz hN e1 (e ▸ hi))
     simp [this, e]
    · exact .inr ⟨k, c, e, z.sameBut hs (cne y c e)⟩
  ·
   obtain ⟨w', z⟩ := I.cell y c e
   exact ⟨w', z.sameBut hs (cne y c e)⟩
  ·
   obtain ⟨e, n, ne, nf, d⟩ := I.pin p hp
   exact ⟨(hs.2 p.1 ne).trans e, n, ne, nf, d⟩
 ·
  have hfn : X.fn x = true := by
   rcases hf with z | z
   · exact z
   · rw [z] at hk; cases hk
  obtain ⟨c, hc⟩ := I.ok.has x (.inl hk)
  obtain ⟨w', z⟩ := I.cell x c hc
  refine wpAny_storeName_cell I.ok.kind hk hc z (λ h' hc' hs => ?_)
  obtain ⟨oc, hoc, hocd⟩ := id z
  refine h { s with heap := h' } ⟨I.ok, I.os, I.bare, ⟨λ b o e n hb hx => ?_, λ b o e n hb hx => ?_, I.base.free, λ b o e hx => ?_, I.base.tups, I.base.frzs, I.base.tbls⟩, ⟨m, hn.sameBut hs (Ne.symm (cne x c hc)), λ j y v' e1 e2 e3 => ?_⟩, λ y c' e => ?_, I.free, I.freeC, λ p hp => ?_, tracked ⟨oc, hoc, I.freeC x c hc⟩ hs, by simpa using I.len⟩ ⟨c, hs, .inr hc⟩
  · exact (hs.2 b (Nat.ne_of_lt (Nat.lt_of_lt_of_le (Heap.lt_size e) (I.ok.cab x c hfn hc)))).trans (I.base.keep b o e n hb hx)
  ·
   obtain ⟨sl, e1⟩ := I.base.slot b o e n hb hx
   exact ⟨sl, (hs.2 b (Nat.ne_of_lt (Nat.lt_of_lt_of_le (Heap.lt_size e) (I.ok.cab x c hfn hc)))).trans e1⟩
  ·
   obtain ⟨o', e1⟩ := I.base.there b o e hx
   exact ⟨o', (hs.2 b (Nat.ne_of_lt (Nat.lt_of_lt_of_le (Heap.lt_size e) (I.ok.cab x c hfn hc)))).trans e1⟩
  ·
   by_cases hj : j = i
   ·
    subst hj
    rw [hi] at e1; cases e1
    rw [List.getElem?_set_self hiσ] at e2
    cases e2
    exact ⟨u, r, .inr ⟨.inl hk, c, hc, hc'⟩⟩
   ·
    rw [List.getElem?_set_ne (Ne.symm hj)] at e2
    obtain ⟨u', r', q⟩ := hl j y v' e1 e2 e3
    refine ⟨u', r', ?_⟩
    rcases q with q | ⟨k, c', e, z'⟩
    · exact .inl q
    ·
     refine .inr ⟨k, c', e, z'.sameBut hs ?_⟩
     rintro rfl
     exact hj (Vz hN e1 (I.ok.inj _ _ _ e hc ▸ hi))
  ·
   by_cases hcc : c' = c
   · subst hcc; exact ⟨_, hc'⟩
   ·
    obtain ⟨w2, z2⟩ := I.cell y c' e
    exact ⟨w2, z2.sameBut hs hcc⟩
  ·
   obtain ⟨e, n, ne, nf, d⟩ := I.pin p hp
   refine ⟨(hs.2 p.1 ?_).trans e, n, ne, nf, d⟩
   intro q
   rw [q, hoc] at e
   have q' : oc = p.2 := Option.some.inj e
   exact d w' (by rw [← q']; exact hocd)
theorem U6 {M : Model} {A : Around} {E : Value -> Shared -> Prop} {i : Nat} {x : Str} {v : V} {u : Value} {Q : Unit -> Shared -> Prop} (I : Inv X pins σ H s) (hN : X.N.Nodup) (hi : X.N[i]? = some x) (hx : Loc X.env.scope x) (r : RelV v u)
  (h : ∀ s', Inv X pins (σ.set i (some v)) H s' -> Q () s') (hf : X.fn x = true ∨ X.env.scope.names.lookup x = some .local := by first | exact .inl rfl | exact .inr rfl | assumption) : wpAny M A (storeName X.env x u) Q E s :=
 Q3 I hN hi hx r (λ s' I' _ => h s' I') hf
theorem Inv.call' {s' : Shared} {ch : List Addr} (I : Inv X pins σ H s) (ho : s'.os = s.os) (u : Un (frs X.stack) ch H H' s.heap s'.heap) (hok : HOk X.prog X.w H' s'.heap) (hg : AllBare s'.gens)
  (hch : ∀ b ∈ ch, (b ∈ X.ex ∨ X.s₀.heap.objs.size <= b) /\ b ≠ X.env.locals /\ (∀ x c, X.env.cells.lookup x = some c -> c ≠ b) /\ ∀ p ∈ X.pn ++ pins, p.1 ≠ b) : Inv X pins σ H' s' := by
 obtain ⟨h', g', d', t', o'⟩ := s'
 have e : o' = s.os := ho
 subst e
 exact I.call (g' := g') (t' := t') (d' := d') u hok hg hch
end
abbrev XK := Value -> Option Addr -> Hp -> Prop
abbrev St := List (Option V)
abbrev VK := V -> Hp -> Prop
abbrev TE := St -> Hp -> VK -> Prop
abbrev TT := St -> Hp -> (Bool -> Hp -> Prop) -> Prop
abbrev TA := St -> Hp -> (List V -> Hp -> Prop) -> Prop
structure Ends where
 nx : St -> Hp -> Prop
 rt : St -> VK
 bk : St -> Hp -> Prop := λ _ _ => False
 ct : St -> Hp -> Prop := λ _ _ => False
abbrev TS := Ends -> St -> Hp -> Prop
def EP (X : Cx) (pins : List (Addr × Obj)) (σ : St) (Q : VK) (u : Value) (s' : Shared) : Prop := ∃ v H', Inv X pins σ H' s' /\ RelV v u /\ Q v H'
def TP (X : Cx) (pins : List (Addr × Obj)) (σ : St) (Q : Bool -> Hp -> Prop) (b : Bool) (s' : Shared) : Prop := ∃ H', Inv X pins σ H' s' /\ Q b H'
def AP (X : Cx) (pins : List (Addr × Obj)) (σ : St) (Q : List V -> Hp -> Prop) (us : List Value) (s' : Shared) : Prop := ∃ vs H', Inv X pins σ H' s' /\ Vals vs us /\ Q vs H'
def SP (X : Cx) (pins : List (Addr × Obj)) (D : Ends) (f : Flow) (s' : Shared) : Prop :=
 match f with
 | .next => ∃ σ' H', Inv X pins σ' H' s' /\ D.nx σ' H'
 | .brk => ∃ σ' H', Inv X pins σ' H' s' /\ D.bk σ' H'
 | .cont => ∃ σ' H', Inv X pins σ' H' s' /\ D.ct σ' H'
 | .ret u => ∃ v σ' H', Inv X pins σ' H' s' /\ RelV v u /\ D.rt σ' v H'
def PE (X : Cx) (e : Expr) (t : TE) : Prop :=
 ∀ (pins : List (Addr × Obj)) (s : Shared) (σ : St) (H : Hp) (Q : VK), Inv X pins σ H s -> t σ H Q -> wpAny (model X.prog X.w) X.A (eval e X.env) (EP X pins σ Q) X.xe s
def PT (X : Cx) (e : Expr) (t : TT) : Prop :=
 ∀ (pins : List (Addr × Obj)) (s : Shared) (σ : St) (H : Hp) (Q : Bool -> Hp -> Prop), Inv X pins σ H s -> t σ H Q -> wpAny (model X.prog X.w) X.A (isTrue e X.env (eval e X.env)) (TP X pins σ Q) X.xe s
def PW (X : Cx) (e : Expr) (t : TT) : Prop :=
 ∀ (whole : Sem Value) (pins : List (Addr × Obj)) (s : Shared) (σ : St) (H : Hp) (Q : Bool -> Hp -> Prop), Inv X pins σ H s -> t σ H Q -> wpAny (model X.prog X.w) X.A (isTrue e X.env whole) (TP X pins σ Q) X.xe s
theorem PW.pt {X : Cx} {e : Expr} {t : TT} (h : PW X e t) : PT X e t := h _
def PA (X : Cx) (es : List Expr) (t : TA) : Prop :=
 ∀ (pos : Pos) (pins : List (Addr × Obj)) (s : Shared) (σ : St) (H : Hp) (Q : List V -> Hp -> Prop), Inv X pins σ H s -> t σ H Q -> wpAny (model X.prog X.w) X.A (spliced (backTo pos (starEach es X.env))) (AP X pins σ Q) X.xe s
def PS (X : Cx) (st : Stmt) (t : TS) : Prop :=
 ∀ (pins : List (Addr × Obj)) (s : Shared) (σ : St) (H : Hp) (D : Ends), Inv X pins σ H s -> t D σ H -> wpAny (model X.prog X.w) X.A (exec st X.env) (SP X pins D) X.xe s
def PSs (X : Cx) (st : List Stmt) (t : TS) : Prop :=
 ∀ (pins : List (Addr × Obj)) (s : Shared) (σ : St) (H : Hp) (D : Ends), Inv X pins σ H s -> t D σ H -> wpAny (model X.prog X.w) X.A (execs st X.env) (SP X pins D) X.xe s
theorem thn {α : Type} {t : Sem α} {Q Q' : α -> Shared -> Prop} {M : Model} {A : Around} {E : Value -> Shared -> Prop} {s : Shared} (h : wpAny M A t Q E s) (hQ : ∀ a s, Q a s -> Q' a s) : wpAny M A t Q' E s := wpAny_mono h hQ λ _ _ x => x
section
variable {X : Cx}
def qp (i : Nat) : TE := λ σ H Q => ∃ v, σ[i]? = some (some v) /\ Q v H
def tC (v : V) : TE := λ _ H Q => Q v H
theorem d3 {i : Nat} {x : Str} {pos : Pos} (hN : X.N[i]? = some x) (hv : Vis X.env.scope x) (hd : (x == ("__debug__" : Str)) = false := by decide) (hcd : (x == ("__classdict__" : Str)) = false := by decide) : PE X (.Name x pos) (qp i) := by
 intro pins s σ H Q I h
 obtain ⟨v, e, h⟩ := h
 obtain ⟨m, hn, hl⟩ := I.loc
 obtain ⟨u, r, l⟩ := hl i x v hN e hv
 have fin : EP X pins σ Q u s := ⟨v, H, I, r, h⟩
 rcases l with ⟨hk, hm⟩ | ⟨hk, c, hc, hcell⟩
 · exact wpAny_Name (wpAny_loadName_local I.ok.kind hk hn hm fin) hd
 ·
  rcases hk with hk | hk
  · exact wpAny_Name (wpAny_loadName_cell I.ok.kind hk hc hcell fin) hd
  · exact wpAny_Name (wpAny_loadName_free I.ok.kind hk hc hcell fin hcd) hd
theorem Ab {i j pos} : PE X (.Constant (.int i) j pos) (tC (.int i)) := λ _ _ _ H _ I h => wpAny_Constant_int ⟨.int i, H, I.tok _, ⟨_, rfl⟩, h⟩
theorem Hw {b j pos} : PE X (.Constant (.bool b) j pos) (tC (.bl b)) := λ _ _ _ H _ I h => Constant_bool ⟨.bl b, H, I, rfl, h⟩
theorem Fx {j pos} : PE X (.Constant .none j pos) (tC .non) := λ _ _ _ H _ I h => Constant_none ⟨.non, H, I, rfl, h⟩
theorem Bm {x j pos} : PE X (.Constant (.str x) j pos) (tC (.str x)) := λ _ _ _ H _ I h => Calls.Constant_str ⟨.str x, H, I.tok _, ⟨_, rfl⟩, h⟩
def Gl (X : Cx) (x : Str) : Prop := X.env.kindOf x = some .globalImplicit
theorem Md {E : Value -> Shared -> Prop} {pins : List (Addr × Obj)} {s : Shared} {σ : St} {H : Hp} {x : Str} {u : Value} {pos : Pos} {Q : Value -> Shared -> Prop} (I : Inv X pins σ H s) (hg : Gl X x) (hm : X.mg x = some u) (h : Q u s)
  (hd : (x == ("__debug__" : Str)) = false := by decide) : wpAny (model X.prog X.w) X.A (eval (.Name x pos) X.env) Q E s :=
 Calls.Name_function_global I.ok.kind hg (Calls.loadGlobal_global (by rw [I.ok.glob]; exact I.mod.glob.keeps I.bk) hm h) hd
theorem Oe {E : Value -> Shared -> Prop} {pins : List (Addr × Obj)} {s : Shared} {σ : St} {H : Hp} {x : Str} {u : Value} {pos : Pos} {Q : Value -> Shared -> Prop} (I : Inv X pins σ H s) (hg : Gl X x) (hm : X.mg x = none) (hv : bootBuiltins x = some u) (h : Q u s)
  (hn : x ≠ "__name__" := by decide) (hd : (x == ("__debug__" : Str)) = false := by decide) : wpAny (model X.prog X.w) X.A (eval (.Name x pos) X.env) Q E s := by
 obtain ⟨mb, h1, h2⟩ := I.mod.blt
 exact Calls.Name_function_global I.ok.kind hg (Calls.loadGlobal_builtin (by rw [I.ok.glob]; exact I.mod.glob.keeps I.bk) hm (by rw [I.ok.blt]; exact h1.keeps I.bk) ((h2 x hn).trans hv) h) hd
theorem Yv {x : Str} {v : V} {u : Value} {pos : Pos} (hg : Gl X x) (hm : X.mg x = some u) (r : RelV v u) (hd : (x == ("__debug__" : Str)) = false := by decide) : PE X (.Name x pos) (tC v) :=
 λ _ _ _ H _ I h => Md I hg hm ⟨v, H, I, r, h⟩ hd
theorem Cw {x : Str} {v : V} {u : Value} {pos : Pos} (hg : Gl X x) (hm : X.mg x = none) (hv : bootBuiltins x = some u) (r : RelV v u) (hn : x ≠ "__name__" := by decide) (hd : (x == ("__debug__" : Str)) = false := by decide) : PE X (.Name x pos) (tC v) :=
 λ _ _ _ H _ I h => Oe I hg hm hv ⟨v, H, I, r, h⟩ hn hd
variable {a b : Expr} {ta tb : TE} {pos : Pos}
def PC (X : Cx) (op : CmpOp) (a b : Expr) (t : TE) : Prop :=
 ∀ (pins : List (Addr × Obj)) (s : Shared) (σ : St) (H : Hp) (Q : VK), Inv X pins σ H s -> t σ H Q ->
  wpAny (model X.prog X.w) X.A (eval a X.env) (λ v s₁ => wpAny (model X.prog X.w) X.A (eval b X.env) (λ u s₂ => wpAny (model X.prog X.w) X.A (compareOp op v u) (EP X pins σ Q) X.xe s₂) X.xe s₁) X.xe s
theorem dm (b : Expr) {op : CmpOp} (h : op ≠ .In) (h2 : op ≠ .NotIn) : behindInMarks op b = false := by
 have e1 : (op == CmpOp.In) = false := by cases op <;> first | rfl | exact absurd rfl h
 have e2 : (op == CmpOp.NotIn) = false := by cases op <;> first | rfl | exact absurd rfl h2
 cases b <;> simp [behindInMarks, e1, e2]
def tB (t : TE) : TT := λ σ H Q => t σ H λ x H1 => ∃ c, x = .bl c /\ Q c H1
theorem Za {op : CmpOp} {t : TE} (h : PC X op a b t) (h1 : behindInMarks op b = false := by first | exact dm _ (by decide) (by decide) | rfl) : PT X (.Compare a [op] [b] pos) (tB t) := by
 intro pins s σ H Q I hw
 refine wpAny_isTrue_Compare1 (thn (h pins s σ H _ I hw) λ v s1 h1 => thn h1 λ u s2 h2 => thn h2 λ c s3 ⟨x, H1, I1, r1, q1⟩ => ?_) h1
 obtain ⟨d, rfl, q⟩ := q1
 cases r1
 exact wpAny_truthy_bool ⟨H1, I1, q⟩
theorem De {e : Expr} {t : TE} (h : PE X e t) (he : ∀ whole, isTrue e X.env whole = (do let v ← whole; standAt e.pos; holding [v] (truthy v)) := by intro _; rfl) : PT X e (tB t) := by
 intro pins s σ H Q I hw
 refine isTrue_plain (thn (h pins s σ H _ I hw) λ v s1 ⟨x, H1, I1, r1, q1⟩ => ?_) (he _)
 obtain ⟨d, rfl, q⟩ := q1
 cases r1
 exact wpAny_truthy_bool ⟨H1, I1, q⟩
variable {tA tB' : TT} {rest : List Expr}
def x5 (t u : TT) : TT := λ σ H Q => t σ H λ c H1 => if c = true then u σ H1 Q else Q false H1
def tOr (t u : TT) : TT := λ σ H Q => t σ H λ c H1 => if c = true then Q true H1 else u σ H1 Q
def xy (t : TT) : TT := λ σ H Q => t σ H λ c H1 => Q (!c) H1
theorem Gv (ha : PT X a tA) : PW X (.BoolOp .And [a] pos) tA := by
 intro wh pins s σ H Q I h
 refine isTrue_and (thn (ha pins s σ H Q I h) λ c s1 e => ?_)
 cases c with
 | true => exact isTrue_and_nil e
 | false => exact e
theorem Hu (ha : PT X a tA) : PW X (.BoolOp .Or [a] pos) tA := by
 intro wh pins s σ H Q I h
 refine isTrue_or (thn (ha pins s σ H Q I h) λ c s1 e => ?_)
 cases c with
 | false => exact isTrue_or_nil e
 | true => exact e
theorem Il (ha : PT X a tA) (hb : PW X (.BoolOp .And (b :: rest) pos) tB') : PW X (.BoolOp .And (a :: b :: rest) pos) (x5 tA tB') := by
 intro wh pins s σ H Q I h
 refine isTrue_and (thn (ha pins s σ H _ I h) λ c s1 ⟨H1, I1, q1⟩ => ?_)
 cases c with
 | true => exact hb wh pins s1 σ H1 Q I1 q1
 | false => exact ⟨H1, I1, q1⟩
theorem Js (ha : PT X a tA) (hb : PW X (.BoolOp .Or (b :: rest) pos) tB') : PW X (.BoolOp .Or (a :: b :: rest) pos) (tOr tA tB') := by
 intro wh pins s σ H Q I h
 refine isTrue_or (thn (ha pins s σ H _ I h) λ c s1 ⟨H1, I1, q1⟩ => ?_)
 cases c with
 | true => exact ⟨H1, I1, q1⟩
 | false => exact hb wh pins s1 σ H1 Q I1 q1
theorem F0 (ha : PT X a tA) : PT X (.UnaryOp .Not a pos) (xy tA) := by
 intro pins s σ H Q I h
 exact isTrue_not (ha pins s σ H (λ c H1 => Q (!c) H1) I h)
def r8 (ta tb : TE) : TE := λ σ H Q => ta σ H λ x H1 => ∃ c, x = .bl c /\ if c = true then tb σ H1 Q else Q (.bl false) H1
def wx (ta tb : TE) : TE := λ σ H Q => ta σ H λ x H1 => ∃ c, x = .bl c /\ if c = true then Q (.bl true) H1 else tb σ H1 Q
def o7 (ta : TE) : TE := λ σ H Q => ta σ H λ x H1 => ∃ c, x = .bl c /\ Q (.bl (!c)) H1
theorem El {op} {t : TE} (h : PE X a t) : PE X (.BoolOp op [a] pos) t := λ pins s σ H Q I hw => BoolOp_one (h pins s σ H Q I hw)
theorem Ew (ha : PE X a ta) (hb : PE X (.BoolOp .And (b :: rest) pos) tb) : PE X (.BoolOp .And (a :: b :: rest) pos) (r8 ta tb) := by
 intro pins s σ H Q I h
 refine BoolOp_and (thn (ha pins s σ H _ I h) λ v s1 ⟨x, H1, I1, r1, q1⟩ => ?_)
 obtain ⟨c, rfl, q1⟩ := q1
 cases r1
 refine wpAny_truthy_bool ?_
 cases c with
 | true => exact hb pins s1 σ H1 Q I1 q1
 | false => exact ⟨.bl false, H1, I1, rfl, q1⟩
theorem Ze (ha : PE X a ta) (hb : PE X (.BoolOp .Or (b :: rest) pos) tb) : PE X (.BoolOp .Or (a :: b :: rest) pos) (wx ta tb) := by
 intro pins s σ H Q I h
 refine BoolOp_or (thn (ha pins s σ H _ I h) λ v s1 ⟨x, H1, I1, r1, q1⟩ => ?_)
 obtain ⟨c, rfl, q1⟩ := q1
 cases r1
 refine wpAny_truthy_bool ?_
 cases c with
 | false => exact hb pins s1 σ H1 Q I1 q1
 | true => exact ⟨.bl true, H1, I1, rfl, q1⟩
theorem Yq (ha : PE X a ta) : PE X (.UnaryOp .Not a pos) (o7 ta) := by
 intro pins s σ H Q I h
 refine UnaryOp_ (thn (ha pins s σ H _ I h) λ v s1 ⟨x, H1, I1, r1, q1⟩ => ?_)
 obtain ⟨c, rfl, q1⟩ := q1
 cases r1
 exact not_of (wpAny_truthy_bool ⟨.bl (!c), H1, I1, rfl, q1⟩)
def tIf (t : TT) (ta tb : TE) : TE := λ σ H Q => t σ H λ c H1 => if c = true then ta σ H1 Q else tb σ H1 Q
theorem U7 {c : Expr} (hc : PT X c tA) (ha : PE X a ta) (hb : PE X b tb) : PE X (.IfExp c a b pos) (tIf tA ta tb) := by
 intro pins s σ H Q I h
 refine wpAny_IfExp (thn (hc pins s σ H _ I h) λ d s1 ⟨H1, I1, q1⟩ => ?_)
 cases d with
 | true => exact ha pins s1 σ H1 Q I1 q1
 | false => exact hb pins s1 σ H1 Q I1 q1
end
def SqL (K : W.Frag) (H : Hp) (a : Addr) (xs : List V) : Prop :=
 Rd H a (.lst xs) ∨
  ∃ (o : Obj) (its : Array Value) (n : Nat), K.lookup a = some o /\ o.cls = .type "list" /\ o.dict = none /\ o.data = .seq its n /\ its.size <= sizeLine /\ Vals xs its.toList
def SqT (K : W.Frag) (H : Hp) (a : Addr) (xs : List V) : Prop :=
 Rd H a (.tup xs) ∨
  ∃ (o : Obj) (its : Array Value) (n : Nat), K.lookup a = some o /\ o.cls = .type "tuple" /\ o.data = .seq its n /\ its.size <= sizeLine /\ Vals xs its.toList
def xa : Value -> Option V
 | .none => some .non
 | .bool b => some (.bl b)
 | .int i _ => some (.int i)
 | .str x _ => some (.str x)
 | .bytes b _ => some (.byt b)
 | .float b _ => some (.flt b)
 | .ref a => some (.ref a)
 | .type n => some (.ty n)
 | _ => none
theorem RelV.abs {x : V} {u : Value} (r : RelV x u) : xa u = some x := by
 cases x with
 | non => cases r; rfl
 | bl _ => cases r; rfl
 | int _ => obtain ⟨t, rfl⟩ := r; rfl
 | str _ => obtain ⟨t, rfl⟩ := r; rfl
 | byt _ => obtain ⟨t, rfl⟩ := r; rfl
 | flt _ => obtain ⟨t, rfl⟩ := r; rfl
 | ref _ => cases r; rfl
 | ty _ => cases r; rfl
theorem RelV.inj {x y : V} {u : Value} (r : RelV x u) (q : RelV y u) : x = y := Option.some.inj (r.abs.symm.trans q.abs)
theorem Vals.inj : ∀ {xs ys : List V} {us : List Value}, Vals xs us -> Vals ys us -> xs = ys
 | _, _, _, .nil, .nil => rfl
 | _, _, _, .cons r t, .cons r' t' => by rw [r.inj r', Vals.inj t t']
section
variable {X : Cx} {pins : List (Addr × Obj)} {σ : St} {H : Hp} {s : Shared} {a : Addr} {xs ys : List V}
theorem SqL.of {K : W.Frag} (h : H a = some (.lst xs)) : SqL K H a xs := .inl (.inl h)
theorem SqT.of {K : W.Frag} (h : H a = some (.tup xs)) : SqT K H a xs := .inl (.inl h)
theorem Inv.list (I : Inv X pins σ H s) (h : SqL X.K H a xs) : ∃ its : List Value, Vals xs its /\ PlainL s.heap a its.toArray /\ xs.length <= sizeLine := by
 rcases h with h | ⟨o, its, n, hk, hc, hd, hs, hz, r⟩
 ·
  obtain ⟨z, its, n, r, e⟩ := h.ok I.hok
  exact ⟨its, r, ⟨_, n, e, rfl, rfl, rfl⟩, z⟩
 ·
  refine ⟨its.toList, r, ⟨o, n, I.kIn a o hk, hc, hd, by simpa using hs⟩, ?_⟩
  have e := r.length
  simp only [Array.length_toList] at e
  omega
theorem Inv.tuple (I : Inv X pins σ H s) (h : SqT X.K H a xs) : ∃ its : List Value, Vals xs its /\ IsTup s.heap a its.toArray /\ xs.length <= sizeLine := by
 rcases h with h | ⟨o, its, n, hk, hc, hs, hz, r⟩
 ·
  obtain ⟨z, its, r, p⟩ := h.ok I.hok
  exact ⟨its, r, p, z⟩
 ·
  refine ⟨its.toList, r, ⟨o, I.kIn a o hk, hc, n, by simpa using hs⟩, ?_⟩
  have e := r.length
  simp only [Array.length_toList] at e
  omega
theorem Inv.list_inj (I : Inv X pins σ H s) (h : SqL X.K H a xs) (h' : SqL X.K H a ys) : xs = ys := by
 obtain ⟨its, r, ⟨o, n, e, _, _, d⟩, _⟩ := I.list h
 obtain ⟨its', r', ⟨o', n', e', _, _, d'⟩, _⟩ := I.list h'
 rw [e] at e'; cases e'
 rw [d] at d'
 injection d' with d1 _
 have : its = its' := by simpa using congrArg Array.toList d1
 subst this
 exact r.inj r'
theorem Inv.tuple_inj (I : Inv X pins σ H s) (h : SqT X.K H a xs) (h' : SqT X.K H a ys) : xs = ys := by
 obtain ⟨its, r, ⟨o, e, _, n, d⟩, _⟩ := I.tuple h
 obtain ⟨its', r', ⟨o', e', _, n', d'⟩, _⟩ := I.tuple h'
 rw [e] at e'; cases e'
 rw [d] at d'
 injection d' with d1 _
 have : its = its' := by simpa using congrArg Array.toList d1
 subst this
 exact r.inj r'
end
abbrev Cx.wish (X : Cx) (E : Value -> Shared -> Prop) : Cx := { X with xe := E }
abbrev Cx.nox (X : Cx) : Cx := X.wish λ _ _ => False
theorem Cx.Ok.wish {X : Cx} (ok : X.Ok) (E : Value -> Shared -> Prop) : (X.wish E).Ok :=
 ⟨ok.mod, ok.kind, ok.glob, ok.blt, ok.above, ok.inj, ok.has, ok.cab, ok.hd, ok.frames, ok.stk, ok.exf, ok.bs, ok.bsz, ok.noex, ok.exfs, ok.funs, ok.frf⟩
theorem Cx.Ok.unwish {X : Cx} {E : Value -> Shared -> Prop} (ok : (X.wish E).Ok) : X.Ok :=
 ⟨ok.mod, ok.kind, ok.glob, ok.blt, ok.above, ok.inj, ok.has, ok.cab, ok.hd, ok.frames, ok.stk, ok.exf, ok.bs, ok.bsz, ok.noex, ok.exfs, ok.funs, ok.frf⟩
section
variable {X : Cx} {pins : List (Addr × Obj)} {σ : St} {H : Hp} {s : Shared} {E : Value -> Shared -> Prop}
theorem Inv.wish (I : Inv X pins σ H s) (E : Value -> Shared -> Prop) : Inv (X.wish E) pins σ H s := ⟨I.ok.wish E, I.os, I.bare, I.base, I.loc, I.cell, I.free, I.freeC, I.pin, I.hok, I.len⟩
theorem Inv.unwish (I : Inv (X.wish E) pins σ H s) : Inv X pins σ H s := ⟨I.ok.unwish, I.os, I.bare, I.base, I.loc, I.cell, I.free, I.freeC, I.pin, I.hok, I.len⟩
theorem SP.unwish {D : Ends} {f : Flow} {s' : Shared} (h : SP (X.wish E) pins D f s') : SP X pins D f s' := by
 cases f with
 | next => obtain ⟨σ', H', I, q⟩ := h; exact ⟨σ', H', I.unwish, q⟩
 | brk => obtain ⟨σ', H', I, q⟩ := h; exact ⟨σ', H', I.unwish, q⟩
 | cont => obtain ⟨σ', H', I, q⟩ := h; exact ⟨σ', H', I.unwish, q⟩
 | ret u => obtain ⟨v, σ', H', I, r, q⟩ := h; exact ⟨v, σ', H', I.unwish, r, q⟩
theorem PE.nox {e : Expr} {t : TE} (h : PE X.nox e t) : PE X e t := λ pins s σ H Q I hw =>
 wpAny_mono (h pins s σ H Q (I.wish _) hw) (λ _ _ ⟨v, H', I', r, q⟩ => ⟨v, H', I'.unwish, r, q⟩) λ _ _ z => False.elim z
theorem PT.nox {e : Expr} {t : TT} (h : PT X.nox e t) : PT X e t := λ pins s σ H Q I hw =>
 wpAny_mono (h pins s σ H Q (I.wish _) hw) (λ _ _ ⟨H', I', q⟩ => ⟨H', I'.unwish, q⟩) λ _ _ z => False.elim z
theorem PSs.nox {st : List Stmt} {t : TS} (h : PSs X.nox st t) : PSs X st t := λ pins s σ H D I hw =>
 wpAny_mono (h pins s σ H D (I.wish _) hw) (λ _ _ q => q.unwish) λ _ _ z => False.elim z
end
section
variable {X : Cx} {st : Stmt} {rest : List Stmt} {t u : TS} {e : Expr} {te : TE} {pos : Pos}
def qg : TS := λ D σ H => D.nx σ H
def xj (t u : TS) : TS := λ D σ H => t { D with nx := u D } σ H
theorem Aw : PSs X [] qg := λ _ _ σ H _ I h => wpAny_execs_nil ⟨σ, H, I, h⟩
theorem Af (h1 : PS X st t) (h2 : PSs X rest u) : PSs X (st :: rest) (xj t u) := by
 intro pins s σ H D I h
 refine wpAny_execs_cons (thn (h1 pins s σ H { D with nx := u D } I h) λ f s1 q => ?_)
 cases f with
 |
  next =>
  obtain ⟨σ', H', I', q⟩ := q
  exact h2 pins s1 σ' H' D I' q
 | ret v => exact q
 | brk => exact q
 | cont => exact q
theorem Ai (h1 : PS X st t) : PSs X [st] t := by
 intro pins s σ H D I h
 refine wpAny_execs_cons (thn (h1 pins s σ H D I h) λ f s1 q => ?_)
 cases f with
 | next => exact wpAny_execs_nil q
 | ret v => exact q
 | brk => exact q
 | cont => exact q
theorem Inv.quiet {pins : List (Addr × Obj)} {σ : St} {H : Hp} {s : Shared} (I : Inv X pins σ H s) : interactive X.env = false := by simp [interactive, I.ok.kind]
def px (te : TE) : TS := λ D σ H => te σ H λ _ H1 => D.nx σ H1
theorem Jm (he : PE X e te) (hs : swapsWith e none pos.line X.env = pure false := by rfl) : PS X (.Expr e pos) (px te) := by
 intro pins s σ H D I h
 exact wpAny_Expr_any (thn (he pins s σ H _ I h) λ v s1 ⟨x, H1, I1, r1, q1⟩ => ⟨σ, H1, I1, q1⟩) I.quiet hs
def wg (te : TE) : TS := λ D σ H => te σ H (D.rt σ)
theorem As (he : PE X e te) : PS X (.Return (some e) pos) (wg te) := by
 intro pins s σ H D I h
 exact wpAny_Return_some (thn (he pins s σ H _ I h) λ v s1 ⟨x, H1, I1, r1, q1⟩ => ⟨x, σ, H1, I1, r1, q1⟩)
def vg (c : TT) (t u : TS) : TS := λ D σ H => c σ H λ b H1 => if b = true then t D σ H1 else u D σ H1
theorem Bv {c : Expr} {a b : List Stmt} {tc : TT} (hc : PT X c tc) (ha : PSs X a t) (hb : PSs X b u) : PS X (.If c a b pos) (vg tc t u) := by
 intro pins s σ H D I h
 refine wpAny_If (thn (hc pins s σ H _ I h) λ d s1 ⟨H1, I1, q1⟩ => ?_)
 cases d with
 | true => exact ha pins s1 σ H1 D I1 q1
 | false => exact hb pins s1 σ H1 D I1 q1
def mi : TS := λ _ _ _ => False
theorem az : PS X st mi := λ _ _ _ _ _ _ h => h.elim
end
abbrev TG := V -> St -> Hp -> (St -> Hp -> Prop) -> Prop
abbrev TGs := List V -> St -> Hp -> (St -> Hp -> Prop) -> Prop
def PG (X : Cx) (target : Expr) (t : TG) : Prop :=
 ∀ (pins : List (Addr × Obj)) (s : Shared) (σ : St) (H : Hp) (v : V) (u : Value) (Q : St -> Hp -> Prop), Inv X pins σ H s -> RelV v u -> t v σ H Q ->
  wpAny (model X.prog X.w) X.A (assign target X.env u) (λ _ s' => ∃ σ' H', Inv X pins σ' H' s' /\ Q σ' H') X.xe s
def PGs (X : Cx) (ts : List Expr) (t : TGs) : Prop :=
 ∀ (pins : List (Addr × Obj)) (s : Shared) (σ : St) (H : Hp) (vs : List V) (us : List Value) (Q : St -> Hp -> Prop), Inv X pins σ H s -> Vals vs us -> t vs σ H Q ->
  wpAny (model X.prog X.w) X.A (assignInOrder ((assignEach ts X.env).map (·.2)) us) (λ _ s' => ∃ σ' H', Inv X pins σ' H' s' /\ Q σ' H') X.xe s
section
variable {X : Cx} {pos : Pos}
def Nt (i : Nat) : TG := λ v σ H Q => Q (σ.set i (some v)) H
theorem Bh {i : Nat} {x : Str} (hN : X.N.Nodup) (hi : X.N[i]? = some x) (hx : Loc X.env.scope x) (hf : X.fn x = true ∨ X.env.scope.names.lookup x = some .local := by first | exact .inl rfl | exact .inr rfl | assumption) : PG X (.Name x pos) (Nt i) := by
 intro pins s σ H v u Q I r h
 exact wpAny_assign_Name (U6 I hN hi hx r (λ s' I' => ⟨_, H, I', h⟩) hf)
def uk : TGs := λ vs σ H Q => vs = [] /\ Q σ H
def gu (t : TG) (u : TGs) : TGs := λ vs σ H Q => ∃ v r, vs = v :: r /\ t v σ H λ σ' H' => u r σ' H' Q
theorem gg : PGs X [] uk := by
 intro pins s σ H vs us Q I r h
 obtain ⟨e, h⟩ := h
 subst e
 cases r
 exact assignInOrder_nil ⟨σ, H, I, h⟩
theorem Vy {e : Expr} {es : List Expr} {t : TG} {u : TGs} (h1 : PG X e t) (h2 : PGs X es u)
  (hs : (assignEach (e :: es) X.env).map (·.2) = assign e X.env :: (assignEach es X.env).map (·.2) := by rfl) : PGs X (e :: es) (gu t u) := by
 intro pins s σ H vs us Q I r h
 obtain ⟨v, vr, e1, h⟩ := h
 subst e1
 cases r with
 |
  cons r rr =>
  rw [hs]
  refine assignInOrder_cons (thn (h1 pins s σ H _ _ _ I r h) λ _ s1 ⟨σ1, H1, I1, q1⟩ => ?_)
  exact h2 pins s1 σ1 H1 _ _ Q I1 rr q1
def p7 (K : W.Frag) (n : Nat) (t : TGs) : TG := λ v σ H Q => ∃ a xs, v = .ref a /\ SqT K H a xs /\ xs.length = n /\ t xs σ H Q
theorem k6 {es : List Expr} {k : Nat} {t : TGs} {n : Nat} (hc : X.calm = true) (h : PGs X es t)
  (hn : (assignEach es X.env).length = n := by rfl) (hst : (assignEach es X.env).findIdx? (·.1) = none := by rfl) : PG X (.Tuple es k pos) (p7 X.K n t) := by
 intro pins s σ H v u Q I r hw
 obtain ⟨a, xs, e1, hq, hl, hw⟩ := hw
 subst e1
 cases r
 obtain ⟨its, rv, ht, hz⟩ := I.tuple hq
 refine assign_Tuple_tuple (I.ok.hd hc) ht (by simp [hn, ← hl, rv.length]) hst λ h' hx => ?_
 have I1 : Inv X pins σ H { s with heap := h' } := I.kept (t' := s.toks) λ b o e => hx b o (Nat.ne_of_lt (Heap.lt_size e)) e
 exact h pins _ σ H xs _ Q I1 (by simpa using rv) hw
def qk (te : TE) (g : TG) : TS := λ D σ H => te σ H λ x H1 => g x σ H1 D.nx
theorem A9 {i : Nat} {x : Str} {e : Expr} {te : TE} {pos' : Pos} (hN : X.N.Nodup) (hi : X.N[i]? = some x) (hx : Loc X.env.scope x) (he : PE X e te) (hs : swapsWith e (some (.Name x pos')) pos.line X.env = pure false := by rfl) (hf : X.fn x = true ∨ X.env.scope.names.lookup x = some .local := by first | exact .inl rfl | exact .inr rfl | assumption) :
  PS X (.Assign [.Name x pos'] e pos) (qk te (Nt i)) := by
 intro pins s σ H D I h
 refine wpAny_Assign_Name (thn (he pins s σ H _ I h) λ v s1 ⟨y, H1, I1, r1, q1⟩ => ?_) hs
 exact U6 I1 hN hi hx r1 (λ s2 I2 => ⟨_, H1, I2, q1⟩) hf
end
section
variable {X : Cx} {pos : Pos}
def k4 (c : TT) (tb : TS) : TS := λ D σ H => ∃ W : Nat -> St -> Hp -> Prop, (∃ m, W m σ H) /\ ∀ m σ H, W m σ H ->
 c σ H λ b H1 => if b = true then ∃ N : St -> Hp -> Prop, (∀ σ' H', N σ' H' -> ∃ m', m' < m /\ W m' σ' H') /\ tb { D with nx := N, ct := N, bk := D.nx } σ H1 else D.nx σ H1
theorem cf {c : Expr} {body : List Stmt} {tc : TT} {tb : TS} (hp : PassesOwn (model X.prog X.w) X.A X.env X.xe) (hc : PT X c tc) (hb : PSs X body tb) : PS X (.While c body [] pos) (k4 tc tb) := by
 intro pins s σ H D I h
 obtain ⟨W, ⟨m0, w0⟩, turn⟩ := h
 refine wpAny_While (codeAny_whileLoop (λ n s' => ∃ σ' H', Inv X pins σ' H' s' /\ W n σ' H') ?_ m0 ⟨σ, H, I, w0⟩)
 rintro n s1 ⟨σ1, H1, I1, w1⟩
 refine wpAny_passesOwn hp (thn (hc pins s1 σ1 H1 _ I1 (turn n σ1 H1 w1)) λ b s2 ⟨H2, I2, q2⟩ => ?_)
 cases b with
 |
  true =>
  obtain ⟨N, hN, q2⟩ := q2
  rw [if_pos rfl]
  refine wpAny_passesOwn hp (thn (hb pins s2 σ1 H2 _ I2 q2) λ f s3 q3 => ?_)
  cases f with
  |
   next =>
   obtain ⟨σ3, H3, I3, n3⟩ := q3
   obtain ⟨m', hm, w3⟩ := hN σ3 H3 n3
   exact ⟨m', hm, σ3, H3, I3, w3⟩
  |
   cont =>
   obtain ⟨σ3, H3, I3, n3⟩ := q3
   obtain ⟨m', hm, w3⟩ := hN σ3 H3 n3
   exact ⟨m', hm, σ3, H3, I3, w3⟩
  | brk => exact q3
  | ret v => exact q3
 |
  false =>
  rw [if_neg Bool.false_ne_true]
  exact wpAny_execs_nil ⟨σ1, H2, I2, q2⟩
end
structure It where
 go : Nat -> Hp -> Prop
 yld : Nat -> Hp -> V -> Hp -> Prop
 stop : Nat -> Hp -> Prop
def FpOk (X : Cx) (pins : List (Addr × Obj)) (H : Hp) (b : Addr) : Prop :=
 H b = none /\ b ≠ X.env.locals /\ b ∉ X.fs /\ (b ∈ X.ex ∨ X.s₀.heap.objs.size <= b) /\ (∀ x c, X.env.cells.lookup x = some c -> c ≠ b) /\ ∀ p ∈ X.pn ++ pins, p.1 ≠ b
theorem Inv.fpOk {X : Cx} {pins : List (Addr × Obj)} {σ : St} {H H' : Hp} {s : Shared} {b : Addr} (I : Inv X pins σ H s) (hb : s.heap.objs.size <= b) (hn : H' b = none) : FpOk X pins H' b := by
 refine ⟨hn, Nat.ne_of_gt (Nat.lt_of_lt_of_le I.lt hb), I.nofs hb, .inr (Nat.le_trans I.sz hb), λ x c e z => ?_, λ p hp z => ?_⟩
 ·
  obtain ⟨v, q⟩ := I.cell x c e
  exact absurd (Nat.lt_of_lt_of_le q.lt (by rw [z]; exact hb)) (Nat.lt_irrefl _)
 · exact absurd (Nat.lt_of_lt_of_le (Heap.lt_size (I.pin p hp).1) (by rw [z]; exact hb)) (Nat.lt_irrefl _)
structure Turn (P : Program) (w : World) (K : W.Frag) (tg : Expr) (J : It) (fp : List Addr) (it : Addr) (tn : Nat -> Heap -> Prop) : Prop where
 mem : it ∈ fp
 obj : ∀ i h, tn i h -> ∀ b ∈ fp, ∃ o, h.get? b = some o /\ ∀ v, o.data ≠ .cell v
 keep : ∀ i h h', tn i h -> (∀ b ∈ fp, ∀ o, h.get? b = some o -> h'.get? b = some o) -> tn i h'
 item : ∀ (X : Cx), X.prog = P -> X.w = w -> X.K = K -> X.calm = true -> ∀ (i : Nat) (pins : List (Addr × Obj)) (s : Shared) (σ : St) (H : Hp) (E : Value -> Shared -> Prop), Inv X pins σ H s -> (∀ b ∈ fp, FpOk X pins H b) -> tn i s.heap -> J.go i H ->
  wpAny (model P w) X.A (pyNext (.ref it)) (λ r s1 => ∃ u, r = some u /\
   wpAny (model P w) X.A (letOwnedTupleGo tg (.ref it) u) (λ _ s2 => ∃ x H', Inv X pins σ H' s2 /\ RelV x u /\ J.yld i H x H' /\ tn (i + 1) s2.heap /\ ∀ b ∈ fp, H' b = none) E s1) E s
 done : ∀ (X : Cx), X.prog = P -> X.w = w -> X.K = K -> X.calm = true -> ∀ (i : Nat) (pins : List (Addr × Obj)) (s : Shared) (σ : St) (H : Hp) (E : Value -> Shared -> Prop), Inv X pins σ H s -> (∀ b ∈ fp, FpOk X pins H b) -> tn i s.heap -> J.stop i H ->
  wpAny (model P w) X.A (pyNext (.ref it)) (λ r s1 => r = none /\ Inv X pins σ H s1) E s
 self : ∀ (A : Around) (i : Nat) (s : Shared) (Q : Value -> Shared -> Prop) (E : Value -> Shared -> Prop), tn i s.heap -> Q (.ref it) s -> wpAny (model P w) A (pyIter (.ref it)) Q E s
abbrev TI := St -> Hp -> (It -> Hp -> Prop) -> Prop
def PIE (X : Cx) (pins : List (Addr × Obj)) (σ : St) (tg : Expr) (R : It -> Hp -> Prop) (itv : Value) (s2 : Shared) : Prop :=
 ∃ (it : Addr) (fp : List Addr) (tn : Nat -> Heap -> Prop) (J : It) (H' : Hp), itv = .ref it /\ Inv X pins σ H' s2 /\ Turn X.prog X.w X.K tg J fp it tn /\ tn 0 s2.heap /\ (∀ b ∈ fp, FpOk X pins H' b) /\ R J H'
def PI (X : Cx) (tg iter : Expr) (wi : TI) : Prop :=
 ∀ (pins : List (Addr × Obj)) (s : Shared) (σ : St) (H : Hp) (R : It -> Hp -> Prop), Inv X pins σ H s -> wi σ H R ->
  wpAny (model X.prog X.w) X.A (eval iter X.env) (λ v s1 => wpAny (model X.prog X.w) X.A (pyIter v) (PIE X pins σ tg R) X.xe s1) X.xe s
theorem Z4 {M : Model} {A : Around} {E : Value -> Shared -> Prop} {s : Shared} {tg : Expr} {it : Addr} {u : Value} {o : Obj} {n : String} {vs : Array Value} {Q : Unit -> Shared -> Prop} (ho : s.heap.get? it = some o) (hc : o.cls = .type n) (hd : o.data = .fields vs)
  (hn : ["enumerate", "zip", "dict_itemiterator", "dict_reverseitemiterator", "odict_iterator", "itertools.zip_longest", "itertools.pairwise"].contains n = false) (hQ : Q () s) : wpAny M A (letOwnedTupleGo tg (.ref it) u) Q E s := by
 unfold letOwnedTupleGo
 cases tg <;> first
  | exact wpAny_pure hQ
  | (cases u <;> first
   | exact wpAny_pure hQ
   | (
    refine wpAny_bind (wpAny_load ho ?_)
    rw [hc, hd]
    show wpAny M A (if (["enumerate", "zip", "dict_itemiterator", "dict_reverseitemiterator", "odict_iterator", "itertools.zip_longest", "itertools.pairwise"].contains n && vs[0]? == some (rawInt _)) = true then _ else _) Q E s
    rw [if_neg (by intro h; rw [hn, Bool.false_and] at h; cases h)]
    exact wpAny_pure hQ))
def Itl (K : W.Frag) (a : Addr) : It :=
 ⟨λ i H => ∃ xs x, SqL K H a xs /\ xs[i]? = some x, λ i H x H' => H' = H /\ ∀ xs, SqL K H a xs -> xs[i]? = some x, λ i H => ∃ xs, SqL K H a xs /\ xs.length <= i⟩
def Itt (K : W.Frag) (a : Addr) : It :=
 ⟨λ i H => ∃ xs x, SqT K H a xs /\ xs[i]? = some x, λ i H x H' => H' = H /\ ∀ xs, SqT K H a xs -> xs[i]? = some x, λ i H => ∃ xs, SqT K H a xs /\ xs.length <= i⟩
def Itr (lo : Int) (n : Nat) : It := ⟨λ i _ => i < n, λ i H x H' => H' = H /\ x = .int (lo + i), λ i _ => n <= i⟩
theorem Xr {P : Program} {w : World} {K : W.Frag} {tg : Expr} (a it : Addr) : Turn P w K tg (Itl K a) [it] it (λ i h => h.IsListIter it a i) where
 mem := by simp
 obj := λ i h st b hb => by
  have e : b = it := by simpa using hb
  subst e
  obtain ⟨o, e, c, d⟩ := st
  exact ⟨o, e, λ v z => by rw [d] at z; cases z⟩
 keep := λ i h h' st k => st.at λ o e => k it (by simp) o e
 item := by
  intro X hP hw hK hc i pins s σ H E I hf st hg
  subst hP hw hK
  obtain ⟨xs, x, hq, hx⟩ := hg
  obtain ⟨its, rv, p, hz⟩ := I.list hq
  obtain ⟨u, hu, ru⟩ := rv.get hx
  obtain ⟨f0, f1, f2, f3, f4, f5⟩ := hf it (by simp)
  refine wpAny_pyNext_list_item st p.isList (x := u) (by simpa using hu) λ h' st' sb => ?_
  have I1 : Inv X pins σ H { s with heap := h' } := I.turned (t' := s.toks) (λ b o hb e => (sb.2 b hb).trans e) f0 f1 f3 f4 f5
  obtain ⟨o, e, c, d⟩ := id st'
  exact ⟨u, rfl, Z4 (s := { s with heap := h' }) e c d (by decide) ⟨x, H, I1, ru, ⟨rfl, λ ys hy => by rw [I.list_inj hy hq]; exact hx⟩, st', λ b hb => (hf b hb).1⟩⟩
 done := by
  intro X hP hw hK hc i pins s σ H E I hf st hg
  subst hP hw hK
  obtain ⟨xs, hq, hx⟩ := hg
  obtain ⟨its, rv, p, hz⟩ := I.list hq
  obtain ⟨f0, f1, f2, f3, f4, f5⟩ := hf it (by simp)
  have hl := rv.length
  exact wpAny_pyNext_list_end (I.ok.hd hc) st p.isList (by simp; omega) λ h' eb => ⟨rfl, I.turned (t' := s.toks) (λ b o hb e => eb b o hb e) f0 f1 f3 f4 f5⟩
 self := λ _ _ _ _ _ st h => wpAny_pyIter_listiter st h
theorem V7 {P : Program} {w : World} {K : W.Frag} {tg : Expr} (a it : Addr) : Turn P w K tg (Itt K a) [it] it (λ i h => h.IsTupleIter it a i) where
 mem := by simp
 obj := λ i h st b hb => by
  have e : b = it := by simpa using hb
  subst e
  obtain ⟨o, e, c, d⟩ := st
  exact ⟨o, e, λ v z => by rw [d] at z; cases z⟩
 keep := λ i h h' st k => st.at λ o e => k it (by simp) o e
 item := by
  intro X hP hw hK hc i pins s σ H E I hf st hg
  subst hP hw hK
  obtain ⟨xs, x, hq, hx⟩ := hg
  obtain ⟨its, rv, p, hz⟩ := I.tuple hq
  obtain ⟨u, hu, ru⟩ := rv.get hx
  obtain ⟨f0, f1, f2, f3, f4, f5⟩ := hf it (by simp)
  refine wpAny_pyNext_tuple_item st (show s.heap.IsTuple a its.toArray from p) (x := u) (by simpa using hu) λ h' st' sb => ?_
  have I1 : Inv X pins σ H { s with heap := h' } := I.turned (t' := s.toks) (λ b o hb e => (sb.2 b hb).trans e) f0 f1 f3 f4 f5
  obtain ⟨o, e, c, d⟩ := id st'
  exact ⟨u, rfl, Z4 (s := { s with heap := h' }) e c d (by decide) ⟨x, H, I1, ru, ⟨rfl, λ ys hy => by rw [I.tuple_inj hy hq]; exact hx⟩, st', λ b hb => (hf b hb).1⟩⟩
 done := by
  intro X hP hw hK hc i pins s σ H E I hf st hg
  subst hP hw hK
  obtain ⟨xs, hq, hx⟩ := hg
  obtain ⟨its, rv, p, hz⟩ := I.tuple hq
  obtain ⟨f0, f1, f2, f3, f4, f5⟩ := hf it (by simp)
  have hl := rv.length
  exact wpAny_pyNext_tuple_end (I.ok.hd hc) st (show s.heap.IsTuple a its.toArray from p) (by simp; omega) λ h' eb => ⟨rfl, I.turned (t' := s.toks) (λ b o hb e => eb b o hb e) f0 f1 f3 f4 f5⟩
 self := λ _ _ _ _ _ st h => wpAny_pyIter_tupleiter st h
theorem W8 {P : Program} {w : World} {K : W.Frag} {tg : Expr} (it : Addr) (lo : Int) (n : Nat) : Turn P w K tg (Itr lo n) [it] it (λ i h => IsRangeIter h it (lo + (i : Nat) * 1) ((n : Int) - (i : Nat)) 1) where
 mem := by simp
 obj := λ i h st b hb => by
  have e : b = it := by simpa using hb
  subst e
  exact ⟨_, st, λ v z => by
   have z' : Data.fields _ = Data.cell v := z
   cases z'⟩
 keep := λ i h h' st k => k it (by simp) _ st
 item := by
  intro X hP hw hK hc i pins s σ H E I hf st hg
  subst hP hw hK
  obtain ⟨f0, f1, f2, f3, f4, f5⟩ := hf it (by simp)
  have W := Walks.range (prog := X.prog) (w := X.w) (I.ok.hd hc) it lo 1 n
  refine W.item i s _ _ hg st λ v h' tk hv st' kk => ?_
  obtain ⟨t, rfl⟩ := hv
  have I1 : Inv X pins σ H { s with heap := h', toks := tk } := I.turned (λ b o hb e => kk b o (by simpa using hb) e) f0 f1 f3 f4 f5
  refine ⟨_, rfl, Z4 (s := { s with heap := h', toks := tk }) (n := "range_iterator") st' rfl rfl (by decide) ⟨.int (lo + i), H, I1, ⟨t, ?_⟩, ⟨rfl, rfl⟩, st', λ b hb => (hf b hb).1⟩⟩
  rw [Int.mul_one]
 done := by
  intro X hP hw hK hc i pins s σ H E I hf st hg
  subst hP hw hK
  obtain ⟨f0, f1, f2, f3, f4, f5⟩ := hf it (by simp)
  exact wpAny_pyNext_range_end (I.ok.hd hc) st (by have : n <= i := hg; omega) λ h' eb => ⟨rfl, I.turned (t' := s.toks) (λ b o hb e => eb b o hb e) f0 f1 f3 f4 f5⟩
 self := λ _ _ _ _ _ st h => wpAny_pyIter_rangeiter st h
section
variable {X : Cx} {tg : Expr}
def kn (K : W.Frag) (tl : TE) : TI := λ σ H R => tl σ H λ x H1 => ∃ a, x = .ref a /\ (∃ xs, SqL K H1 a xs) /\ R (Itl K a) H1
def sv (K : W.Frag) (tl : TE) : TI := λ σ H R => tl σ H λ x H1 => ∃ a, x = .ref a /\ (∃ xs, SqT K H1 a xs) /\ R (Itt K a) H1
theorem ip {l : Expr} {tl : TE} (hl : PE X l tl) : PI X tg l (kn X.K tl) := by
 intro pins s σ H R I h
 refine thn (hl pins s σ H _ I h) λ v s1 ⟨x, H1, I1, r1, q1⟩ => ?_
 obtain ⟨a, e, ⟨xs, hq⟩, q⟩ := q1
 subst e
 cases r1
 obtain ⟨its, rv, p, hz⟩ := I1.list hq
 refine wpAny_pyIter_list p.isList ?_
 refine ⟨s1.heap.objs.size, [s1.heap.objs.size], _, _, H1, rfl, I1.kept (t' := s1.toks) λ b o e => Heap.get?_push_of_some _ e, Xr a _, ⟨_, Heap.get?_push_size _ rfl, rfl, rfl⟩, λ b hb => ?_, q⟩
 have e : b = s1.heap.objs.size := by simpa using hb
 subst e
 exact I1.fpOk (Nat.le_refl _) (I1.hok.fresh (Nat.le_refl _))
theorem kf {l : Expr} {tl : TE} (hl : PE X l tl) : PI X tg l (sv X.K tl) := by
 intro pins s σ H R I h
 refine thn (hl pins s σ H _ I h) λ v s1 ⟨x, H1, I1, r1, q1⟩ => ?_
 obtain ⟨a, e, ⟨xs, hq⟩, q⟩ := q1
 subst e
 cases r1
 obtain ⟨its, rv, p, hz⟩ := I1.tuple hq
 refine wpAny_pyIter_tuple (show s1.heap.IsTuple a its.toArray from p) ?_
 refine ⟨s1.heap.objs.size, [s1.heap.objs.size], _, _, H1, rfl, I1.kept (t' := s1.toks) λ b o e => Heap.get?_push_of_some _ e, V7 a _, ⟨_, Heap.get?_push_size _ rfl, rfl, rfl⟩, λ b hb => ?_, q⟩
 have e : b = s1.heap.objs.size := by simpa using hb
 subst e
 exact I1.fpOk (Nat.le_refl _) (I1.hok.fresh (Nat.le_refl _))
theorem V0 {pins : List (Addr × Obj)} {σ : St} {H : Hp} {s : Shared} {R : It -> Hp -> Prop} {E : Value -> Shared -> Prop} {lo hi : Int} {t u v : Tok} {tk : Nat} (I : Inv X pins σ H s) (h1 : -(2 ^ 62) <= lo) (h2 : lo < 2 ^ 62) (h3 : -(2 ^ 62) <= hi) (h4 : hi < 2 ^ 62)
  (q : R (Itr lo (hi - lo).toNat) H) : wpAny (model X.prog X.w) X.A (pyIter (.ref s.heap.objs.size)) (PIE X pins σ tg R) E { s with heap := s.heap.push { cls := .type "range", data := .fields #[.int lo t, .int hi u, .int 1 v] }, toks := tk } := by
 refine wpAny_pyIter_range (IsRange.new ..) (small_one h1 h2 h3 h4) ?_
 have I1 : Inv X pins σ H { s with heap := s.heap.push { cls := .type "range", data := .fields #[.int lo t, .int hi u, .int 1 v] }, toks := tk } := I.kept λ b o e => Heap.get?_push_of_some _ e
 refine ⟨(s.heap.push { cls := .type "range", data := .fields #[.int lo t, .int hi u, .int 1 v] }).objs.size, [(s.heap.push { cls := .type "range", data := .fields #[.int lo t, .int hi u, .int 1 v] }).objs.size], _, _, H, rfl,
  I1.kept (t' := tk) λ b o e => Heap.get?_push_of_some _ e, W8 _ lo (hi - lo).toNat, ?_, λ b hb => ?_, q⟩
 ·
  have e1 : lo + ((0 : Nat) : Int) * 1 = lo := by simp
  have e2 : (((hi - lo).toNat : Nat) : Int) - ((0 : Nat) : Int) = Builtin.Range.rangeSize lo hi 1 := by rw [rangeSize_one]; split <;> omega
  show IsRangeIter _ _ (lo + ((0 : Nat) : Int) * 1) ((((hi - lo).toNat : Nat) : Int) - ((0 : Nat) : Int)) 1
  rw [e1, e2]
  exact Heap.get?_push_size _ rfl
 ·
  have e : b = (s.heap.push { cls := .type "range", data := .fields #[.int lo t, .int hi u, .int 1 v] }).objs.size := by simpa using hb
  subst e
  exact I1.fpOk (Nat.le_refl _) (I1.hok.fresh (Nat.le_refl _))
def ph (ta : TA) : TI := λ σ H R => ta σ H λ vs H1 => ∃ j : Int, vs = [.int j] /\ -(2 ^ 62) <= j /\ j < 2 ^ 62 /\ R (Itr 0 j.toNat) H1
def rk (ta : TA) : TI := λ σ H R => ta σ H λ vs H1 => ∃ i j : Int, vs = [.int i, .int j] /\ (-(2 ^ 62) <= i /\ i < 2 ^ 62 /\ -(2 ^ 62) <= j /\ j < 2 ^ 62) /\ R (Itr i (j - i).toNat) H1
theorem Kd {a : Expr} {ta : TA} {p pos : Pos} (hg : Gl X "range") (hm : X.mg "range" = none) (ha : PA X [a] ta) (hs : starEach [a] X.env = [(false, eval a X.env)] := by rfl) : PI X tg (.Call (.Name "range" p) [a] [] pos) (ph ta) := by
 intro pins s σ H R I h
 refine Call_ (Oe I hg hm boot_range (PyProof.Rows.callWith_type1 (thn (ha pos pins s σ H _ I h) λ us s1 ⟨vs, H1, I1, r1, q1⟩ => ?_) hs rfl))
 obtain ⟨j, e, q1, q2, q⟩ := q1
 subst e
 cases r1 with
 |
  cons r rr =>
  cases rr
  obtain ⟨t, rfl⟩ := r
  exact call_range_1 (V0 I1 (by omega) (by omega) q1 q2 (by simpa using q))
theorem Xx {a b : Expr} {ta : TA} {p pos : Pos} (hg : Gl X "range") (hm : X.mg "range" = none) (ha : PA X [a, b] ta) (hs : starEach [a, b] X.env = [(false, eval a X.env), (false, eval b X.env)] := by rfl) (hs2 : starEach [b] X.env = [(false, eval b X.env)] := by rfl) :
  PI X tg (.Call (.Name "range" p) [a, b] [] pos) (rk ta) := by
 intro pins s σ H R I h
 refine Call_ (Oe I hg hm boot_range (PyProof.Rows.callWith_type1 (thn (ha pos pins s σ H _ I h) λ us s1 ⟨vs, H1, I1, r1, q1⟩ => ?_) (by rw [hs, hs2]) (by rw [hs2]; rfl)))
 obtain ⟨i, j, e, ⟨q1, q2, q3, q4⟩, q⟩ := q1
 subst e
 cases r1 with
 |
  cons r rr =>
  cases rr with
  |
   cons r' rr =>
   cases rr
   obtain ⟨t, rfl⟩ := r
   obtain ⟨t', rfl⟩ := r'
   exact call_range_2 (V0 I1 q1 q2 q3 q4 q)
def xh (wi : TI) (g : TG) (tb : TS) : TS := λ D σ H => wi σ H λ J H1 => ∃ W : Nat -> Nat -> St -> Hp -> Prop, (∃ m, W 0 m σ H1) /\ ∀ i m σ H, W i m σ H ->
 (J.stop i H /\ D.nx σ H) ∨ (J.go i H /\ ∃ N : St -> Hp -> Prop, (∀ σ' H', N σ' H' -> ∃ m', m' < m /\ W (i + 1) m' σ' H') /\ ∀ x H', J.yld i H x H' -> g x σ H' λ σ2 H2 => tb { D with nx := N, ct := N, bk := D.nx } σ2 H2)
def O5 (fp : List Addr) (h : Heap) : List (Addr × Obj) := fp.filterMap λ b => (h.get? b).map λ o => (b, o)
theorem C0 {fp : List Addr} {h : Heap} {b : Addr} {o : Obj} (hb : b ∈ fp) (e : h.get? b = some o) : (b, o) ∈ O5 fp h := List.mem_filterMap.mpr ⟨b, hb, by rw [e]; rfl⟩
theorem Xd {fp : List Addr} {h : Heap} {p : Addr × Obj} (hp : p ∈ O5 fp h) : p.1 ∈ fp /\ h.get? p.1 = some p.2 := by
 obtain ⟨b, hb, e⟩ := List.mem_filterMap.mp hp
 cases q : h.get? b with
 | none => rw [q] at e; cases e
 |
  some o =>
  rw [q] at e
  have e' : (b, o) = p := Option.some.inj e
  subst e'
  exact ⟨hb, q⟩
theorem Inv.pinned {pins : List (Addr × Obj)} {σ : St} {H : Hp} {s : Shared} {fp : List Addr} (I : Inv X pins σ H s) (hf : ∀ b ∈ fp, FpOk X pins H b) (ho : ∀ b ∈ fp, ∃ o, s.heap.get? b = some o /\ ∀ v, o.data ≠ .cell v) : Inv X (pins ++ O5 fp s.heap) σ H s :=
 I.pins_of λ p hp => (List.mem_append.mp hp).elim (λ z => I.pin p (List.mem_append_right _ z)) λ z => by
  obtain ⟨hb, e⟩ := Xd z
  obtain ⟨f0, f1, f2, _⟩ := hf p.1 hb
  obtain ⟨o, e', d⟩ := ho p.1 hb
  rw [e] at e'; cases e'
  exact ⟨e, f0, f1, f2, d⟩
theorem Inv.unpinned {pins pl : List (Addr × Obj)} {σ : St} {H : Hp} {s : Shared} (I : Inv X (pins ++ pl) σ H s) : Inv X pins σ H s := I.pins_of λ p hp => I.pin p (List.mem_append_right _ (List.mem_append_left _ hp))
theorem Oy {iter : Expr} {body : List Stmt} {wi : TI} {g : TG} {tb : TS} {pos : Pos} (hp : PassesOwn (model X.prog X.w) X.A X.env X.xe) (hc : X.calm = true) (hi : PI X tg iter wi) (hg : PG X tg g) (hb : PSs X body tb)
  (hs : ∀ x, foldedSetIterable iter X.env x = pure x := by intro _; rfl) : PS X (.For tg iter body [] pos) (xh wi g tb) := by
 intro pins s σ H D I h
 refine wpAny_For (thn (hi pins s σ H _ I h) λ v s1 h1 => thn h1 λ itv s2 h2 => ?_) hs
 obtain ⟨it, fp, tn, J, H2, e, I2, T, st2, f2, W, ⟨m0, w0⟩, turn⟩ := h2
 subst e
 -- what stays true of the iterator's objects through the loop
 have stat : ∀ {H' : Hp}, (∀ b ∈ fp, H' b = none) -> ∀ b ∈ fp, FpOk X pins H' b := λ hn b hb => ⟨hn b hb, (f2 b hb).2⟩
 refine codeAny_forLoop_any (λ n s' => ∃ i σ' H', Inv X pins σ' H' s' /\ tn i s'.heap /\ (∀ b ∈ fp, H' b = none) /\ W i n σ' H') ?_ m0 ⟨0, σ, H2, I2, st2, λ b hb => (f2 b hb).1, w0⟩
 rintro n s3 ⟨i, σ3, H3, I3, st3, fr3, w3⟩
 rcases turn i n σ3 H3 w3 with ⟨stop, qn⟩ | ⟨go, N, hN, step⟩
 ·
  refine wpAny_passesOwn hp (thn (T.done X rfl rfl rfl hc i pins s3 σ3 H3 X.xe I3 (stat fr3) st3 stop) λ r s4 ⟨hr, I4⟩ => ?_)
  subst hr
  exact wpAny_execs_nil ⟨σ3, H3, I4, qn⟩
 ·
  refine wpAny_passesOwn hp (thn (T.item X rfl rfl rfl hc i pins s3 σ3 H3 X.xe I3 (stat fr3) st3 go) λ r s4 ⟨u, hr, h4⟩ => ?_)
  subst hr
  refine wpAny_passesOwn hp (thn h4 λ _ s5 ⟨x, H5, I5, r5, y5, st5, fr5⟩ => ?_)
  have I5' := I5.pinned (stat fr5) (T.obj _ _ st5)
  refine wpAny_passesOwn hp (thn (hg _ s5 σ3 H5 x u _ I5' r5 (step x H5 y5)) λ _ s6 ⟨σ6, H6, I6, q6⟩ => ?_)
  refine wpAny_passesOwn hp (thn (hb _ s6 σ6 H6 _ I6 q6) λ f s7 q7 => ?_)
  have again : ∀ {σ7 : St} {H7 : Hp}, Inv X (pins ++ O5 fp s5.heap) σ7 H7 s7 -> N σ7 H7 -> ∃ m, m < n /\ ∃ i σ' H', Inv X pins σ' H' s7 /\ tn i s7.heap /\ (∀ b ∈ fp, H' b = none) /\ W i m σ' H' := λ {σ7 H7} I7 n7 => by
   obtain ⟨m', hm, w7⟩ := hN σ7 H7 n7
   refine ⟨m', hm, i + 1, σ7, H7, I7.unpinned, T.keep _ _ _ st5 λ b hb o e => (I7.pin (b, o) (List.mem_append_right _ (List.mem_append_right _ (C0 hb e)))).1, λ b hb => ?_, w7⟩
   obtain ⟨o, e, d⟩ := T.obj _ _ st5 b hb
   exact (I7.pin (b, o) (List.mem_append_right _ (List.mem_append_right _ (C0 hb e)))).2.1
  cases f with
  | next => obtain ⟨σ7, H7, I7, n7⟩ := q7; exact again I7 n7
  | cont => obtain ⟨σ7, H7, I7, n7⟩ := q7; exact again I7 n7
  | brk => obtain ⟨σ7, H7, I7, q7⟩ := q7; exact ⟨σ7, H7, I7.unpinned, q7⟩
  | ret v => obtain ⟨x7, σ7, H7, I7, r7, q7⟩ := q7; exact ⟨x7, σ7, H7, I7.unpinned, r7, q7⟩
end
abbrev R2 := V -> V -> Hp -> VK -> Prop
def OpR (X : Cx) (f : Value -> Value -> Sem Value) (r : R2) : Prop :=
 ∀ (pins : List (Addr × Obj)) (s : Shared) (σ : St) (H : Hp) (x y : V) (v u : Value) (Q : VK), Inv X pins σ H s -> RelV x v -> RelV y u -> r x y H Q ->
  wpAny (model X.prog X.w) X.A (f v u) (EP X pins σ Q) X.xe s
def UnR (X : Cx) (f : Value -> Sem Value) (r : V -> Hp -> VK -> Prop) : Prop :=
 ∀ (pins : List (Addr × Obj)) (s : Shared) (σ : St) (H : Hp) (x : V) (v : Value) (Q : VK), Inv X pins σ H s -> RelV x v -> r x H Q ->
  wpAny (model X.prog X.w) X.A (f v) (EP X pins σ Q) X.xe s
def CallR (X : Cx) (f : Value) (r : List V -> Hp -> VK -> Prop) : Prop :=
 ∀ (pins : List (Addr × Obj)) (s : Shared) (σ : St) (H : Hp) (xs : List V) (us : List Value) (Q : VK), Inv X pins σ H s -> Vals xs us -> r xs H Q ->
  wpAny (model X.prog X.w) X.A (call f us) (EP X pins σ Q) X.xe s
def vh (X : Cx) (r : V -> Hp -> (Bool -> Hp -> Prop) -> Prop) : Prop :=
 ∀ (pins : List (Addr × Obj)) (s : Shared) (σ : St) (H : Hp) (x : V) (v : Value) (Q : Bool -> Hp -> Prop), Inv X pins σ H s -> RelV x v -> r x H Q ->
  wpAny (model X.prog X.w) X.A (truthy v) (TP X pins σ Q) X.xe s
def tOp (r : R2) (ta tb : TE) : TE := λ σ H Q => ta σ H λ x H1 => tb σ H1 λ y H2 => r x y H2 Q
def tUn (r : V -> Hp -> VK -> Prop) (ta : TE) : TE := λ σ H Q => ta σ H λ x H1 => r x H1 Q
def rI (C : Int -> Int -> Prop) (g : Int -> Int -> V) : R2 := λ x y H Q => ∃ i j, x = .int i /\ y = .int j /\ C i j /\ Q (g i j) H
def rI0 (g : Int -> Int -> V) : R2 := λ x y H Q => ∃ i j, x = .int i /\ y = .int j /\ Q (g i j) H
def rU (g : Int -> V) : V -> Hp -> VK -> Prop := λ x H Q => ∃ i, x = .int i /\ Q (g i) H
section
variable {X : Cx} {a b c : Expr} {ta tb tc : TE} {pos : Pos}
theorem p8 (ha : PE X a ta) (hb : PE X b tb) {pins : List (Addr × Obj)} {s : Shared} {σ : St} {H : Hp} {R : V -> V -> Hp -> Prop} (I : Inv X pins σ H s)
  (h : ta σ H λ x H1 => tb σ H1 λ y H2 => R x y H2) {Q : Value -> Shared -> Prop} {f : Value -> Value -> Sem Value}
  (hf : ∀ v u s2 x y H2, Inv X pins σ H2 s2 -> RelV x v -> RelV y u -> R x y H2 -> wpAny (model X.prog X.w) X.A (f v u) Q X.xe s2) :
  wpAny (model X.prog X.w) X.A (eval a X.env) (λ v s₁ => wpAny (model X.prog X.w) X.A (eval b X.env) (λ u s₂ => wpAny (model X.prog X.w) X.A (f v u) Q X.xe s₂) X.xe s₁) X.xe s := by
 refine thn (ha pins s σ H _ I h) λ v s1 ⟨x, H1, I1, r1, q1⟩ => ?_
 refine thn (hb pins s1 σ H1 _ I1 q1) λ u s2 ⟨y, H2, I2, r2, q2⟩ => ?_
 exact hf v u s2 x y H2 I2 r1 r2 q2
theorem Bf {op : Operator} {r : R2} (ho : OpR X (binaryOp op) r) (ha : PE X a ta) (hb : PE X b tb) : PE X (.BinOp a op b pos) (tOp r ta tb) := by
 intro pins s σ H Q I h
 exact wpAny_BinOp (p8 ha hb I h λ v u s2 x y H2 I2 rx ry q => ho pins s2 σ H2 x y v u Q I2 rx ry q)
theorem mq {op : UnaryOp} {r : V -> Hp -> VK -> Prop} (ho : UnR X (unaryOp op) r) (ha : PE X a ta) : PE X (.UnaryOp op a pos) (tUn r ta) := by
 intro pins s σ H Q I h
 exact UnaryOp_ (thn (ha pins s σ H _ I h) λ v s1 ⟨x, H1, I1, r1, q1⟩ => ho pins s1 σ H1 x v Q I1 r1 q1)
theorem opI {f : Value -> Value -> Sem Value} {C : Int -> Int -> Prop} {g : Int -> Int -> Int}
  (rule : ∀ (i j : Int) (t u : Tok) (s : Shared) (Q : Value -> Shared -> Prop) (E : Value -> Shared -> Prop), C i j -> Q (.int (g i j) s.toks) { s with toks := s.toks + 1 } -> wpAny (model X.prog X.w) X.A (f (.int i t) (.int j u)) Q E s) :
  OpR X f (rI C λ i j => .int (g i j)) := by
 intro pins s σ H x y v u Q I rx ry h
 obtain ⟨i, j, rfl, rfl, hc, q⟩ := h
 obtain ⟨t, rfl⟩ := rx
 obtain ⟨t', rfl⟩ := ry
 exact rule i j t t' s _ _ hc ⟨.int (g i j), H, I.tok _, ⟨_, rfl⟩, q⟩
theorem va {f : Value -> Value -> Sem Value} {g : Int -> Int -> Int}
  (rule : ∀ (i j : Int) (t u : Tok) (s : Shared) (Q : Value -> Shared -> Prop) (E : Value -> Shared -> Prop), Q (.int (g i j) s.toks) { s with toks := s.toks + 1 } -> wpAny (model X.prog X.w) X.A (f (.int i t) (.int j u)) Q E s) :
  OpR X f (rI0 λ i j => .int (g i j)) := by
 intro pins s σ H x y v u Q I rx ry h
 obtain ⟨i, j, rfl, rfl, q⟩ := h
 obtain ⟨t, rfl⟩ := rx
 obtain ⟨t', rfl⟩ := ry
 exact rule i j t t' s _ _ ⟨.int (g i j), H, I.tok _, ⟨_, rfl⟩, q⟩
theorem oy {f : Value -> Value -> Sem Value} {g : Int -> Int -> Bool}
  (rule : ∀ (i j : Int) (t u : Tok) (s : Shared) (Q : Value -> Shared -> Prop) (E : Value -> Shared -> Prop), Q (.bool (g i j)) s -> wpAny (model X.prog X.w) X.A (f (.int i t) (.int j u)) Q E s) :
  OpR X f (rI0 λ i j => .bl (g i j)) := by
 intro pins s σ H x y v u Q I rx ry h
 obtain ⟨i, j, rfl, rfl, q⟩ := h
 obtain ⟨t, rfl⟩ := rx
 obtain ⟨t', rfl⟩ := ry
 exact rule i j t t' s _ _ ⟨.bl (g i j), H, I, rfl, q⟩
def xw (i j : Int) : Prop := 0 < j /\ j < 1073741824
def vj (i j : Int) : Prop := 0 <= j /\ j <= 1000000 /\ i.natAbs < 2 ^ 64
def CMul (i j : Int) : Prop := (-(2 ^ 64) < i /\ i < 2 ^ 64) ∨ (-(2 ^ 64) < j /\ j < 2 ^ 64)
theorem CMul.ok {i j : Int} (h : CMul i j) : IntMulOk i j := by
 rcases h with ⟨h1, h2⟩ | ⟨h1, h2⟩
 · exact .of_left (intBits_le_64 h1 h2)
 · exact .of_right (intBits_le_64 h1 h2)
theorem Cr : OpR X (binaryOp .Add) (rI0 λ i j => .int (i + j)) := va λ _ _ _ _ _ _ _ q => add_int q
theorem Om : OpR X (binaryOp .Sub) (rI0 λ i j => .int (i - j)) := va λ _ _ _ _ _ _ _ q => sub_int q
theorem Gj : OpR X (binaryOp .Mult) (rI CMul λ i j => .int (i * j)) := opI λ _ _ _ _ _ _ _ hc q => mul_int q hc.ok
theorem Hz : OpR X (binaryOp .FloorDiv) (rI xw λ i j => .int (i / j)) := opI λ i j _ _ _ _ _ hc q => by
 have h1 : (0 : Int) < j := hc.1
 have h2 : j < 1073741824 := hc.2
 exact floordiv_int (by omega) (by rw [Int.fdiv_eq_ediv_of_nonneg i (by omega)]; exact q) (.inl (PyProof.noPylong_small (by omega)))
theorem En : OpR X (binaryOp .Mod) (rI (λ _ j => 0 < j) λ i j => .int (i % j)) := opI λ i j _ _ _ _ _ hc q => by
 have h1 : (0 : Int) < j := hc
 exact mod_int' (by omega) (by rw [Int.fmod_eq_emod_of_nonneg i (by omega)]; exact q)
theorem Vh : OpR X (binaryOp .Pow) (rI vj λ i j => .int (i ^ j.toNat)) := opI λ _ _ _ _ _ _ _ hc q => pow_int_small hc.1 hc.2.1 hc.2.2 q
theorem unI {f : Value -> Sem Value} {g : Int -> Int}
  (rule : ∀ (i : Int) (t : Tok) (s : Shared) (Q : Value -> Shared -> Prop) (E : Value -> Shared -> Prop), Q (.int (g i) s.toks) { s with toks := s.toks + 1 } -> wpAny (model X.prog X.w) X.A (f (.int i t)) Q E s) :
  UnR X f (rU λ i => .int (g i)) := by
 intro pins s σ H x v Q I rx h
 obtain ⟨i, rfl, q⟩ := h
 obtain ⟨t, rfl⟩ := rx
 exact rule i t s _ _ ⟨.int (g i), H, I.tok _, ⟨_, rfl⟩, q⟩
theorem Yc : UnR X (unaryOp .USub) (rU λ i => .int (-i)) := unI λ _ _ _ _ _ q => neg_int q
end
def oo : V -> V -> Bool
 | .non, .non => true | .non, .int _ => true | .int _, .non => true | .non, .bl _ => true | .bl _, .non => true | .non, .str _ => true | .str _, .non => true
 | .int _, .int _ => true | .bl _, .bl _ => true | .str _, .str _ => true | .byt _, .byt _ => true
 | .int _, .str _ => true | .str _, .int _ => true | .bl _, .str _ => true | .str _, .bl _ => true
 | _, _ => false
def rEq : R2 := λ x y H Q => oo x y = true /\ Q (.bl (decide (x = y))) H
def rNe : R2 := λ x y H Q => oo x y = true /\ Q (.bl (!decide (x = y))) H
theorem Xp {i j : Int} : decide (V.int i = V.int j) = (i == j) := by
 rw [Bool.eq_iff_iff]
 simp
theorem fj {i j : Bool} : decide (V.bl i = V.bl j) = (i == j) := by
 rw [Bool.eq_iff_iff]
 simp
theorem Zs {i j : Str} : decide (V.str i = V.str j) = (i == j) := by
 rw [Bool.eq_iff_iff]
 simp
theorem Yb {i j : Array UInt8} : decide (V.byt i = V.byt j) = (i.toList == j.toList) := by
 rw [Bool.eq_iff_iff]
 cases i
 cases j
 simp
section
variable {X : Cx} {a b c : Expr} {ta tb tc : TE} {pos : Pos}
theorem Bq {pins : List (Addr × Obj)} {σ : St} {H : Hp} {s : Shared} {Q : VK} {k k' : Bool} (I : Inv X pins σ H s) (q : Q (.bl k) H) (e : k = k') : EP X pins σ Q (.bool k') s := by
 subst e
 exact ⟨.bl k, H, I, rfl, q⟩
theorem Cg : OpR X (compareOp .Eq) rEq := by
 intro pins s σ H x y v u Q I rx ry h
 obtain ⟨hs, q⟩ := h
 cases x with
 |
  non =>
  cases rx
  cases y with
  | non => cases ry; exact PySem.EqNone.eq_none_none (Bq I q (by simp))
  | bl j => cases ry; exact PySem.EqNone.eq_none_bool (Bq I q (by simp))
  | int j => obtain ⟨t', rfl⟩ := ry; exact PySem.EqNone.eq_none_int (Bq I q (by simp))
  | str j => obtain ⟨t', rfl⟩ := ry; exact PySem.EqNone.eq_none_str (Bq I q (by simp))
  | _ => exact absurd (show false = true from hs) Bool.false_ne_true
 |
  bl i =>
  cases rx
  cases y with
  | non => cases ry; exact PySem.EqNone.eq_bool_none (Bq I q (by simp))
  | bl j => cases ry; exact eq_bool (Bq I q fj)
  | str j => obtain ⟨t', rfl⟩ := ry; exact PySem.EqMixed.eq_bool_str (Bq I q (by simp))
  | _ => exact absurd (show false = true from hs) Bool.false_ne_true
 |
  int i =>
  obtain ⟨t, rfl⟩ := rx
  cases y with
  | non => cases ry; exact PySem.EqNone.eq_int_none (Bq I q (by simp))
  | int j => obtain ⟨t', rfl⟩ := ry; exact eq_int (Bq I q Xp)
  | str j => obtain ⟨t', rfl⟩ := ry; exact PySem.EqMixed.eq_int_str (Bq I q (by simp))
  | _ => exact absurd (show false = true from hs) Bool.false_ne_true
 |
  str i =>
  obtain ⟨t, rfl⟩ := rx
  cases y with
  | non => cases ry; exact PySem.EqNone.eq_str_none (Bq I q (by simp))
  | bl j => cases ry; exact PySem.EqMixed.eq_str_bool (Bq I q (by simp))
  | int j => obtain ⟨t', rfl⟩ := ry; exact PySem.EqMixed.eq_str_int (Bq I q (by simp))
  | str j => obtain ⟨t', rfl⟩ := ry; exact eq_str (Bq I q Zs)
  | _ => exact absurd (show false = true from hs) Bool.false_ne_true
 |
  byt i =>
  obtain ⟨t, rfl⟩ := rx
  cases y with
  | byt j => obtain ⟨t', rfl⟩ := ry; exact W.eq_bytes (Bq I q Yb)
  | _ => exact absurd (show false = true from hs) Bool.false_ne_true
 | _ => cases y <;> exact absurd (show false = true from hs) Bool.false_ne_true
theorem Pf : OpR X (compareOp .NotEq) rNe := by
 intro pins s σ H x y v u Q I rx ry h
 obtain ⟨hs, q⟩ := h
 cases x with
 |
  non =>
  cases rx
  cases y with
  | non => cases ry; exact PySem.EqNone.ne_none_none (Bq I q (by simp))
  | bl j => cases ry; exact PySem.EqNone.ne_none_bool (Bq I q (by simp))
  | int j => obtain ⟨t', rfl⟩ := ry; exact PySem.EqNone.ne_none_int (Bq I q (by simp))
  | str j => obtain ⟨t', rfl⟩ := ry; exact PySem.EqNone.ne_none_str (Bq I q (by simp))
  | _ => exact absurd (show false = true from hs) Bool.false_ne_true
 |
  bl i =>
  cases rx
  cases y with
  | non => cases ry; exact PySem.EqNone.ne_bool_none (Bq I q (by simp))
  | bl j => cases ry; exact ne_bool (Bq I q (congrArg not fj))
  | str j => obtain ⟨t', rfl⟩ := ry; exact PySem.EqMixed.ne_bool_str (Bq I q (by simp))
  | _ => exact absurd (show false = true from hs) Bool.false_ne_true
 |
  int i =>
  obtain ⟨t, rfl⟩ := rx
  cases y with
  | non => cases ry; exact PySem.EqNone.ne_int_none (Bq I q (by simp))
  | int j => obtain ⟨t', rfl⟩ := ry; exact ne_int (Bq I q (congrArg not Xp))
  | str j => obtain ⟨t', rfl⟩ := ry; exact PySem.EqMixed.ne_int_str (Bq I q (by simp))
  | _ => exact absurd (show false = true from hs) Bool.false_ne_true
 |
  str i =>
  obtain ⟨t, rfl⟩ := rx
  cases y with
  | non => cases ry; exact PySem.EqNone.ne_str_none (Bq I q (by simp))
  | bl j => cases ry; exact PySem.EqMixed.ne_str_bool (Bq I q (by simp))
  | int j => obtain ⟨t', rfl⟩ := ry; exact PySem.EqMixed.ne_str_int (Bq I q (by simp))
  | str j => obtain ⟨t', rfl⟩ := ry; exact ne_str (Bq I q (congrArg not Zs))
  | _ => exact absurd (show false = true from hs) Bool.false_ne_true
 |
  byt i =>
  obtain ⟨t, rfl⟩ := rx
  cases y with
  | byt j => obtain ⟨t', rfl⟩ := ry; exact W.ne_bytes (Bq I q (congrArg not Yb))
  | _ => exact absurd (show false = true from hs) Bool.false_ne_true
 | _ => cases y <;> exact absurd (show false = true from hs) Bool.false_ne_true
theorem Tq : OpR X (compareOp .Lt) (rI0 λ i j => .bl (decide (i < j))) := oy λ _ _ _ _ _ _ _ q => lt_int q
theorem qy : OpR X (compareOp .LtE) (rI0 λ i j => .bl (decide (i <= j))) := oy λ _ _ _ _ _ _ _ q => le_int q
theorem Ts : OpR X (compareOp .Gt) (rI0 λ i j => .bl (decide (j < i))) := oy λ _ _ _ _ _ _ _ q => gt_int q
theorem lj : OpR X (compareOp .GtE) (rI0 λ i j => .bl (decide (j <= i))) := oy λ _ _ _ _ _ _ _ q => ge_int q
theorem Xu : OpR X (compareOp .Lt) (λ x y H Q => ∃ i j, x = .str i /\ y = .str j /\ Q (.bl (decide (i.cps.toList < j.cps.toList))) H) := by
 intro pins s σ H x y v u Q I rx ry h
 obtain ⟨i, j, rfl, rfl, q⟩ := h
 obtain ⟨t, rfl⟩ := rx
 obtain ⟨t', rfl⟩ := ry
 exact lt_str (Bq I q rfl)
theorem Yh : OpR X (compareOp .In) (λ x y H Q => ∃ i j, x = .str i /\ y = .str j /\ Q (.bl (!(Builtin.Str.occurrences j i 0 j.length 1).isEmpty)) H) := by
 intro pins s σ H x y v u Q I rx ry h
 obtain ⟨i, j, rfl, rfl, q⟩ := h
 obtain ⟨t, rfl⟩ := rx
 obtain ⟨t', rfl⟩ := ry
 exact in_str (Bq I q rfl)
theorem Rh : OpR X (compareOp .Is) (λ x y H Q => y = .non /\ Q (.bl (decide (x = .non))) H) := by
 intro pins s σ H x y v u Q I rx ry h
 obtain ⟨rfl, q⟩ := h
 cases ry
 refine is_none_gen (Bq I q ?_)
 cases x <;> first
  | (cases rx; rfl)
  | (obtain ⟨t, rfl⟩ := rx; rfl)
theorem Yx : OpR X (compareOp .IsNot) (λ x y H Q => y = .non /\ Q (.bl (!decide (x = .non))) H) := by
 intro pins s σ H x y v u Q I rx ry h
 obtain ⟨rfl, q⟩ := h
 cases ry
 refine isnot_none_gen (Bq I q ?_)
 cases x <;> first
  | (cases rx; rfl)
  | (obtain ⟨t, rfl⟩ := rx; rfl)
theorem OpR.or {f : Value -> Value -> Sem Value} {r r' : R2} (h : OpR X f r) (h' : OpR X f r') : OpR X f (λ x y H Q => r x y H Q ∨ r' x y H Q) := by
 intro pins s σ H x y v u Q I rx ry q
 rcases q with q | q
 · exact h pins s σ H x y v u Q I rx ry q
 · exact h' pins s σ H x y v u Q I rx ry q
theorem Ar (b : Expr) {op : CmpOp} (h : op ≠ .In := by decide) (h2 : op ≠ .NotIn := by decide) : behindInMarks op b = false := by
 have e1 : (op == CmpOp.In) = false := by cases op <;> first | rfl | exact absurd rfl h
 have e2 : (op == CmpOp.NotIn) = false := by cases op <;> first | rfl | exact absurd rfl h2
 cases b <;> simp [behindInMarks, e1, e2]
theorem B5 {op : CmpOp} {r : R2} (ho : OpR X (compareOp op) r) (ha : PE X a ta) (hb : PE X b tb) (hm : behindInMarks op b = false) : PE X (.Compare a [op] [b] pos) (tOp r ta tb) := by
 intro pins s σ H Q I h
 exact wpAny_Compare1 (p8 ha hb I h λ v u s2 x y H2 I2 rx ry q => ho pins s2 σ H2 x y v u Q I2 rx ry q) hm
def me (t : TE) : TT := λ σ H Q => t σ H λ x H' => ∃ k, x = .bl k /\ Q k H'
theorem Am {op : CmpOp} {r : R2} (ho : OpR X (compareOp op) r) (ha : PE X a ta) (hb : PE X b tb) (hm : behindInMarks op b = false) : PT X (.Compare a [op] [b] pos) (me (tOp r ta tb)) := by
 intro pins s σ H Q I h
 refine wpAny_isTrue_Compare1 (thn (ha pins s σ H _ I h) λ v s1 ⟨x, H1, I1, r1, q1⟩ => thn (hb pins s1 σ H1 _ I1 q1) λ u s2 ⟨y, H2, I2, r2, q2⟩ =>
  thn (ho pins s2 σ H2 x y v u _ I2 r1 r2 q2) λ c s3 ⟨z, H3, I3, r3, k, e, q3⟩ => ?_) hm
 subst e
 cases r3
 exact wpAny_truthy_bool ⟨H3, I3, q3⟩
def d7 (r r' : R2) (ta tb tc : TE) : TE := λ σ H Q => ta σ H λ x H1 => tb σ H1 λ y H2 => r x y H2 λ z H3 => ∃ k, z = .bl k /\
 (if k = true then tc σ H3 λ w' H4 => r' y w' H4 Q else Q (.bl false) H3)
theorem Z5 {op op' : CmpOp} {r r' : R2} (ho : OpR X (compareOp op) r) (ho' : OpR X (compareOp op') r') (ha : PE X a ta) (hb : PE X b tb) (hc : PE X c tc)
  (hm : lastMarks [op, op'] [b, c] = false := by with_unfolding_all rfl) : PE X (.Compare a [op, op'] [b, c] pos) (d7 r r' ta tb tc) := by
 intro pins s σ H Q I h
 refine Compare_chain (thn (ha pins s σ H _ I h) λ v s1 ⟨x, H1, I1, r1, q1⟩ => chain_link (thn (hb pins s1 σ H1 _ I1 q1) λ u s2 ⟨y, H2, I2, r2, q2⟩ =>
  thn (ho pins s2 σ H2 x y v u _ I2 r1 r2 q2) λ d s3 ⟨z, H3, I3, r3, k, e, q3⟩ => ?_)) hm
 subst e
 cases r3
 refine wpAny_truthy_bool ?_
 cases k with
 | false => exact ite_ff ⟨.bl false, H3, I3, rfl, q3⟩
 | true => exact ite_tt (chain_last (thn (hc pins s3 σ H3 _ I3 q3) λ w' s4 ⟨z', H4, I4, r4, q4⟩ => ho' pins s4 σ H4 y z' u w' Q I4 r2 r4 q4))
theorem aa {op op' : CmpOp} {r r' : R2} (ho : OpR X (compareOp op) r) (ho' : OpR X (compareOp op') r') (ha : PE X a ta) (hb : PE X b tb) (hc : PE X c tc)
  (hm : lastMarks [op, op'] [b, c] = false := by with_unfolding_all rfl) : PT X (.Compare a [op, op'] [b, c] pos) (me (d7 r r' ta tb tc)) := by
 intro pins s σ H Q I h
 refine isTrue_chain (thn (ha pins s σ H _ I h) λ v s1 ⟨x, H1, I1, r1, q1⟩ => test_link (thn (hb pins s1 σ H1 _ I1 q1) λ u s2 ⟨y, H2, I2, r2, q2⟩ =>
  thn (ho pins s2 σ H2 x y v u _ I2 r1 r2 q2) λ d s3 ⟨z, H3, I3, r3, k, e, q3⟩ => ?_)) hm
 subst e
 cases r3
 refine wpAny_truthy_bool ?_
 cases k with
 |
  false =>
  obtain ⟨k', e', q'⟩ := q3
  cases e'
  exact ite_ff ⟨H3, I3, q'⟩
 |
  true =>
  refine ite_tt (test_last (thn (hc pins s3 σ H3 _ I3 q3) λ w' s4 ⟨z', H4, I4, r4, q4⟩ => thn (ho' pins s4 σ H4 y z' u w' _ I4 r2 r4 q4) λ d' s5 ⟨z2, H5, I5, r5, k2, e2, q5⟩ => ?_))
  subst e2
  cases r5
  exact wpAny_truthy_bool ⟨H5, I5, q5⟩
def sx (K : W.Frag) (x : V) (H : Hp) (k : Bool) : Prop :=
 match x with
 | .non => k = false
 | .bl b => k = b
 | .int i => k = (i != 0)
 | .str y => y.length <= sizeLine /\ k = ((y.length : Int) != 0)
 | .byt y => y.size <= sizeLine /\ k = ((y.size : Int) != 0)
 | .ref p => (∃ xs, SqL K H p xs /\ k = !xs.isEmpty) ∨ (∃ xs, SqT K H p xs /\ k = !xs.isEmpty) ∨ ∃ kvs, H p = some (.dK kvs) /\ k = !kvs.isEmpty
 | _ => False
theorem Wm {κ : Type} {kvs : List (κ × V)} {vs : List (κ × Value)} (r : KV kvs vs) : (!vs.isEmpty) = !kvs.isEmpty := by
 cases r <;> rfl
theorem Oq {xs : List V} {its : List Value} (r : Vals xs its) : (!its.toArray.isEmpty) = !xs.isEmpty := by
 cases r <;> simp
theorem O1 : (sizeLine : Nat) < 2 ^ 63 := by rw [sizeLine_eq]; decide
theorem mh : vh X (λ x H Q => ∃ k, sx X.K x H k /\ Q k H) := by
 intro pins s σ H x v Q I rx h
 obtain ⟨k, e, q⟩ := h
 have hl := O1
 have hs : sizeLine = 16777216 := sizeLine_eq
 cases x with
 |
  non =>
  cases rx
  have e' : k = false := e
  subst e'
  exact truthy_none ⟨H, I, q⟩
 |
  bl b =>
  cases rx
  have e' : k = b := e
  subst e'
  exact wpAny_truthy_bool ⟨H, I, q⟩
 |
  int i =>
  obtain ⟨t, rfl⟩ := rx
  have e' : k = (i != 0) := e
  subst e'
  exact PySem.P.truthy_int ⟨H, I, q⟩
 |
  str y =>
  obtain ⟨t, rfl⟩ := rx
  obtain ⟨hy, e'⟩ : y.length <= sizeLine /\ k = ((y.length : Int) != 0) := e
  subst e'
  exact PySem.P.truthy_str (by omega) ⟨H, I.tok _, q⟩
 |
  byt y =>
  obtain ⟨t, rfl⟩ := rx
  obtain ⟨hy, e'⟩ : y.size <= sizeLine /\ k = ((y.size : Int) != 0) := e
  subst e'
  exact W.truthy_bytes (by omega) ⟨H, I.tok _, q⟩
 |
  ref p =>
  cases rx
  have e' : (∃ xs, SqL X.K H p xs /\ k = !xs.isEmpty) ∨ (∃ xs, SqT X.K H p xs /\ k = !xs.isEmpty) ∨ ∃ kvs, H p = some (.dK kvs) /\ k = !kvs.isEmpty := e
  rcases e' with ⟨xs, hx, e'⟩ | ⟨xs, hx, e'⟩ | ⟨kvs, hx, e'⟩
  ·
   subst e'
   obtain ⟨its, r, pl, hz⟩ := I.list hx
   have hlen := r.length
   exact wpAny_truthy_list pl.isList (by simp only [List.size_toArray]; omega) ⟨H, I.tok _, by rw [Oq r]; exact q⟩
  ·
   subst e'
   obtain ⟨its, r, pl, hz⟩ := I.tuple hx
   have hlen := r.length
   exact truthy_tuple pl (by simp only [List.size_toArray]; omega) ⟨H, I.tok _, by rw [Oq r]; exact q⟩
  ·
   subst e'
   obtain ⟨hz, hS, vs, r, m⟩ : kvs.length <= sizeLine /\ (p == sysModules) = false /\ ∃ vs, KV kvs vs /\ s.heap.DictOf (Bg X.prog X.w) p vs := I.hok p _ hx
   have hlen : kvs.length = vs.length := Paired.length r
   exact wpAny_truthy_dict hS m (by omega) ⟨H, I.tok _, by rw [Wm r]; exact q⟩
 | _ => exact (show False from e).elim
theorem Vp (ha : PE X a ta) (he : ∀ whole, isTrue a X.env whole = (do let v ← whole; standAt a.pos; holding [v] (truthy v))) :
  PT X a (λ σ H Q => ta σ H λ x H' => ∃ k, sx X.K x H' k /\ Q k H') := by
 intro pins s σ H Q I h
 exact isTrue_plain (thn (ha pins s σ H _ I h) λ v s1 ⟨x, H1, I1, r1, q1⟩ => mh pins s1 σ H1 x v Q I1 r1 q1) (he _)
theorem Fd : OpR X (binaryOp .Add) (λ x y H Q => ∃ i j, x = .str i /\ y = .str j /\ i.length + j.length <= sizeLine /\ Q (.str (i ++ j)) H) := by
 intro pins s σ H x y v u Q I rx ry h
 obtain ⟨i, j, rfl, rfl, hz, q⟩ := h
 obtain ⟨t, rfl⟩ := rx
 obtain ⟨t', rfl⟩ := ry
 exact add_str (λ t' tk => ⟨.str (i ++ j), H, I.tok _, ⟨_, rfl⟩, q⟩) hz
theorem vals1 {x : V} {us : List Value} (r : Vals [x] us) : ∃ u, us = [u] /\ RelV x u := by
 cases r with
 | cons r1 r2 => cases r2; exact ⟨_, rfl, r1⟩
theorem vals2 {x y : V} {us : List Value} (r : Vals [x, y] us) : ∃ u w', us = [u, w'] /\ RelV x u /\ RelV y w' := by
 cases r with
 |
  cons r1 r2 =>
  cases r2 with
  | cons r3 r4 => cases r4; exact ⟨_, _, rfl, r1, r3⟩
theorem Xy (hc : X.calm = true) : CallR X (.builtin "max") (λ xs H Q => ∃ i j, xs = [.int i, .int j] /\ Q (.int (if j > i then j else i)) H) := by
 intro pins s σ H xs us Q I r h
 obtain ⟨i, j, rfl, q⟩ := h
 obtain ⟨u, w', rfl, ⟨t, rfl⟩, ⟨t', rfl⟩⟩ := vals2 r
 refine max_two_ints (I.ok.hd hc) λ h' tk k => ⟨_, H, I.kept k, ?_, q⟩
 by_cases hj : j > i
 · rw [if_pos hj, if_pos hj]; exact ⟨_, rfl⟩
 · rw [if_neg hj, if_neg hj]; exact ⟨_, rfl⟩
theorem Mp (hc : X.calm = true) : CallR X (.builtin "min") (λ xs H Q => ∃ i j, xs = [.int i, .int j] /\ Q (.int (if j < i then j else i)) H) := by
 intro pins s σ H xs us Q I r h
 obtain ⟨i, j, rfl, q⟩ := h
 obtain ⟨u, w', rfl, ⟨t, rfl⟩, ⟨t', rfl⟩⟩ := vals2 r
 refine min_two_ints (I.ok.hd hc) λ h' tk k => ⟨_, H, I.kept k, ?_, q⟩
 by_cases hj : j < i
 · rw [if_pos hj, if_pos hj]; exact ⟨_, rfl⟩
 · rw [if_neg hj, if_neg hj]; exact ⟨_, rfl⟩
end
structure ObjM (h : Heap) (x dx C : Addr) (mA : Str -> Option Value) : Prop where
 obj : h.get? x = some (W.instObj C dx)
 ns : h.Ns1 dx mA
 ne : dx ≠ x
theorem Y0 {h : Heap} {dx : Addr} {mA : Str -> Option Value} (n : h.Ns1 dx mA) : ∃ od, h.get? dx = some od /\ ∀ name, W.lookIn name od = some (mA name) := by
 obtain ⟨o, es, ep, ho, hd, hk, _, hm⟩ := n
 refine ⟨o, ho, λ name => ?_⟩
 have e := hm name
 unfold nsFind findBy at e
 rw [← Array.find?_toList] at e
 unfold W.lookIn
 rw [hd]
 dsimp only
 split
 ·
  rename_i y q
  rw [q] at e
  exact congrArg some e
 ·
  rename_i q
  rw [q] at e
  have a : es.toList.any (·.refKey) = false := by
   rw [List.any_eq_false]
   intro y hy
   obtain ⟨z, t, hkey⟩ := hk y (Array.mem_toList_iff.mp hy)
   simp [DictEntry.refKey, hkey]
  have a' : ¬ es.toList.any (·.refKey) = true := by rw [a]; exact Bool.false_ne_true
  rw [if_neg a']
  exact congrArg some e
theorem ObjM.look {h : Heap} {x dx C : Addr} {mA : Str -> Option Value} (I : ObjM h x dx C mA) : ∃ od, W.InstAt h x (W.instObj C dx) C (some od) /\ ∀ name, W.lookIn name od = some (mA name) :=
 let ⟨od, ho, hl⟩ := Y0 I.ns
 ⟨od, ⟨I.obj, rfl, rfl, ho⟩, hl⟩
section
variable {prog : Program} {w : World} {A : Around} {E : Value -> Shared -> Prop} {s : Shared} {K : W.Frag} {x dx C f : Addr} {mA : Str -> Option Value} {name : Str} {v : Value}
theorem get_map {expr : Bool} {Q : Value -> Shared -> Prop} (X : K.In s.heap) (I : ObjM s.heap x dx C mA) (hg : W.plainGet K C name = true) (hh : W.hasDictIn K C = true)
  (ha : W.findIn K (.ref C) name = some none) (hv : mA name = some v) (hv' : W.handedIn v = true) (h : Q v { s with toks := s.toks + 1 }) :
  wpAny (model prog w) A (getAttr (.ref x) name expr) Q E s := by
 obtain ⟨od, J, hl⟩ := I.look
 exact W.get_value X J (W.plainGet_of hg).1 (W.findObj_own hh ha rfl (by rw [hl, hv])) hv' h
theorem cz {pl : Sem Bool} {Q : Value × List Value -> Shared -> Prop} (X : K.In s.heap) (I : ObjM s.heap x dx C mA) (hg : W.plainGet K C name = true)
  (hf : W.findIn K (.ref C) name = some (some (.ref f))) (ht : W.isFn K (.ref f) = true) (hv : mA name = none) (h : Q (.ref f, [.ref x]) s) :
  wpAny (model prog w) A (getMethod (.ref x) name pl) Q E s := by
 obtain ⟨od, J, hl⟩ := I.look
 exact W.method_fn X J (W.plainGet_of hg).1 (W.plainGet_of hg).2 hf (beq_iff_eq.mp ht) (by show (W.lookIn name od).map (·.isSome) = some false; rw [hl, hv]; rfl) h
theorem i8 {ns : List Str} {Q : Unit -> Shared -> Prop} (X : K.In s.heap) (I : ObjM s.heap x dx C mA)
  (hs : W.findIn K (.ref C) "__setattr__" = some (some (.builtin "object.__setattr__"))) (hp : W.plainOver K C = true) (ht : W.takerIn K C name = some none) (hh : W.hasDictIn K C = true)
  (hw : PySem.Within mA ns) (hsz : ns.length <= sizeLine)
  (h : ∀ h', ObjM h' x dx C (λ y => if y = name then some v else mA y) -> Heap.SameBut dx s.heap h' -> Q () { s with heap := h', toks := s.toks + 2 }) :
  wpAny (model prog w) A (setAttr (.ref x) name v) Q E s := by
 obtain ⟨od, J, hl⟩ := I.look
 refine W.set_plain X J hs (W.osa_open (s := { s with toks := s.toks + 1 }) (r := none) X J hp ht λ b => ?_)
 obtain ⟨cd, hc, hd'⟩ := W.any_some hh
 have hx : s.heap.get? x = some ⟨.ref C, some dx, .plain, #[]⟩ := I.obj
 refine wpAny_bind (wpAny_pure (wpAny_bind (wpAny_bind (wpAny_loadPart hx (wpAny_bind (W.Looks.here (s := { s with toks := s.toks + 1 }) (W.looks_clsIn X hc) ?_))))))
 rw [hd']
 refine wpAny_pure (a := some dx) (wpAny_bind (wpAny_pure (wpAny_bind ?_)))
 refine wpAny_nsSet1 (s := { s with toks := s.toks + 1 }) I.ns λ h' hn2 hs2 => ?_
 obtain ⟨oD, esD, epD, hoD, hdD, hcD⟩ := hn2.count (PySem.Within.cons name v hw)
 refine wpAny_bind (wpAny_lookBehind hoD (by rw [hdD]; exact pastItsLine_dict (Nat.le_trans hcD (by rw [List.length_cons]; omega))) ?_)
 exact wpAny_pure (h _ ⟨(hs2.2 _ (Ne.symm I.ne)).trans I.obj, hn2, I.ne⟩ hs2)
theorem Z3 {R : Result -> Shared -> Prop} {vs : List Value} {kw : List (Str × Value)} (X : K.In s.heap) (hm : W.makesIn K C = true)
  (hi : W.findIn K (.ref C) "__init__" = some (some (.ref f))) (hf : W.typeIn K (.ref f) = some (.type "function"))
  (h : codeAny (model prog w) (A.under (.builtin "type.__call__" ⟨.ref C :: vs, kw⟩)) (.call (.ref f) ⟨.ref (s.heap.objs.size + 1) :: vs, kw⟩) (W.InitBack (s.heap.objs.size + 1) R)
   { s with heap := (s.heap.push W.emptyDict).push (W.instObj C s.heap.objs.size) }) :
  codeAny (model prog w) A (.call (.ref C) ⟨vs, kw⟩) R s := by
 obtain ⟨hh, g, d, t, os⟩ := s
 exact W.make_core (W.makes_of X hm) (W.looks_findIn X hi) (λ self => W.bind_fn X self hf) (.inl rfl) h
end
def La (f : Str) (v : V) : List (Str × V) -> List (Str × V)
 | [] => [(f, v)]
 | (g, x) :: r => if g = f then (g, v) :: r else (g, x) :: La f v r
theorem Nb (f g : Str) (v : V) : ∀ fs : List (Str × V), (La f v fs).lookup g = if g = f then some v else fs.lookup g
 |
  [] => by
  show List.lookup g [(f, v)] = _
  by_cases h : g = f
  ·
   have hb : (g == f) = true := beq_iff_eq.mpr h
   simp only [List.lookup, hb, if_pos h]
  ·
   have hb : (g == f) = false := beq_eq_false_iff_ne.mpr h
   simp only [List.lookup, hb, if_neg h]
 |
  (k, x) :: r => by
  have ih := Nb f g v r
  rw [show La f v ((k, x) :: r) = (if k = f then (k, v) :: r else (k, x) :: La f v r) from rfl]
  by_cases hk : k = f
  ·
   rw [if_pos hk]
   by_cases h : g = k
   ·
    have hb : (g == k) = true := beq_iff_eq.mpr h
    simp only [List.lookup, hb, if_pos (h.trans hk)]
   ·
    have hb : (g == k) = false := beq_eq_false_iff_ne.mpr h
    simp only [List.lookup, hb, if_neg (λ e : g = f => h (e.trans hk.symm))]
  ·
   rw [if_neg hk]
   by_cases h : g = k
   ·
    have hb : (g == k) = true := beq_iff_eq.mpr h
    simp only [List.lookup, hb, if_neg (λ e : g = f => hk (h.symm.trans e))]
   ·
    have hb : (g == k) = false := beq_eq_false_iff_ne.mpr h
    simp only [List.lookup, hb]
    exact ih
theorem My (f : Str) (v : V) : ∀ fs : List (Str × V), f ∈ (La f v fs).map (·.1) /\ ∀ g, g ∈ fs.map (·.1) -> g ∈ (La f v fs).map (·.1)
 | [] => ⟨by simp [La], λ g h => by simp at h⟩
 |
  (k, x) :: r => by
  obtain ⟨i1, i2⟩ := My f v r
  rw [show La f v ((k, x) :: r) = (if k = f then (k, v) :: r else (k, x) :: La f v r) from rfl]
  by_cases hk : k = f
  ·
   rw [if_pos hk]
   subst hk
   exact ⟨by simp, λ g h => by simpa using h⟩
  ·
   rw [if_neg hk]
   refine ⟨?_, λ g h => ?_⟩
   ·
    rw [List.map_cons]
    exact List.mem_cons_of_mem _ i1
   ·
    rw [List.map_cons] at h ⊢
    rcases List.mem_cons.mp h with e | e
    · exact List.mem_cons.mpr (.inl e)
    · exact List.mem_cons_of_mem _ (i2 g e)
theorem Mj (f : Str) (v : V) : ∀ fs : List (Str × V), (La f v fs).length <= fs.length + 1
 | [] => by simp [La]
 |
  (k, x) :: r => by
  have ih := Mj f v r
  rw [show La f v ((k, x) :: r) = (if k = f then (k, v) :: r else (k, x) :: La f v r) from rfl]
  by_cases hk : k = f
  · rw [if_pos hk, List.length_cons, List.length_cons]; omega
  · rw [if_neg hk, List.length_cons, List.length_cons]; omega
theorem RelO.some_of {v : V} {o : Option Value} (r : RelO (some v) o) : ∃ u, o = some u /\ RelV v u := by
 cases o with
 | none => exact (show False from r).elim
 | some u => exact ⟨u, rfl, r⟩
theorem RelO.none_of {o : Option Value} (r : RelO none o) : o = none := by
 cases o with
 | none => rfl
 | some u => exact (show False from r).elim
theorem W9 {v : V} {u : Value} (r : RelV v u) : W.handedIn u = true := by
 cases v with
 | non => cases (show u = Value.none from r); rfl
 | bl b => cases (show u = Value.bool b from r); rfl
 | int i => obtain ⟨t, e⟩ := (show ∃ t, u = Value.int i t from r); cases e; rfl
 | str x => obtain ⟨t, e⟩ := (show ∃ t, u = Value.str x t from r); cases e; rfl
 | byt b => obtain ⟨t, e⟩ := (show ∃ t, u = Value.bytes b t from r); cases e; rfl
 | flt b => obtain ⟨t, e⟩ := (show ∃ t, u = Value.float b t from r); cases e; rfl
 | ref a => cases (show u = Value.ref a from r); rfl
 | ty n => cases (show u = Value.type n from r); rfl
section
variable {P : Program} {w : World} {H H' : Hp} {h h' : Heap} {a C dx : Addr} {fs fs' : List (Str × V)}
theorem Ql (hok : HOk P w H h) (e : H a = some (.ins C dx fs)) : ∃ mA, ObjM h a dx C mA /\ (∀ f, RelO (fs.lookup f) (mA f)) /\ PySem.Within mA (fs.map (·.1)) /\ fs.length <= 1000 /\ H dx = some (.own a) := by
 obtain ⟨d, z, ne, ob, mA, n, r, q⟩ := (show ObjOk P w H h a (.ins C dx fs) from hok a _ e)
 exact ⟨mA, ⟨ob, n, ne⟩, r, q, z, d⟩
end
structure Cls (K : W.Frag) (C : Addr) : Prop where
 pg : W.plainGet K C Str.empty = true
 hd : W.hasDictIn K C = true
 po : W.plainOver K C = true
 sa : W.findIn K (.ref C) "__setattr__" = some (some (.builtin "object.__setattr__"))
theorem Cls.get {K : W.Frag} {C : Addr} (c : Cls K C) (f : Str) : W.plainGet K C f = true := c.pg
def NoAttr (K : W.Frag) (C : Addr) (f : Str) : Prop := W.findIn K (.ref C) f = some none
theorem NoAttr.taker {K : W.Frag} {C : Addr} {f : Str} (n : NoAttr K C f) : W.takerIn K C f = some none := by
 unfold W.takerIn
 rw [show W.findIn K (.ref C) f = some none from n]
 rfl
structure Con (K : W.Frag) (C : Addr) (f : Str) (v : V) (u : Value) : Prop where
 at_ : W.findIn K (.ref C) f = some (some u)
 rel : RelV v u
 get : W.specialIn K u "__get__" = some none
 cp : W.copiedNames.contains f = false
structure Meth (K : W.Frag) (C : Addr) (m : Str) (f : Addr) : Prop where
 at_ : W.findIn K (.ref C) m = some (some (.ref f))
 fn : W.isFn K (.ref f) = true
 kp : W.keepIn K (.ref f) = true
section
variable {X : Cx} {pins : List (Addr × Obj)} {σ : St} {H : Hp} {s : Shared} {a C dx : Addr} {fs : List (Str × V)} {f : Str} {v : V} {A : Around} {E : Value -> Shared -> Prop}
theorem Wf {b : Bool} {Q : Value -> Shared -> Prop} (I : Inv X pins σ H s) (e : H a = some (.ins C dx fs)) (c : Cls X.K C) (n : NoAttr X.K C f) (l : fs.lookup f = some v)
  (h : ∀ u s', Inv X pins σ H s' -> RelV v u -> Q u s') : wpAny (model X.prog X.w) A (getAttr (.ref a) f b) Q E s := by
 obtain ⟨mA, O, r, _, _, _⟩ := Ql I.hok e
 obtain ⟨u, hu, ru⟩ := RelO.some_of (v := v) (o := mA f) (by rw [← l]; exact r f)
 exact get_map I.kIn O (c.get f) c.hd n hu (W9 ru) (h u _ (I.tok _) ru)
theorem O7 {m : Str} {g : Addr} {pl : Sem Bool} {Q : Value × List Value -> Shared -> Prop} (I : Inv X pins σ H s) (e : H a = some (.ins C dx fs)) (c : Cls X.K C) (k : Meth X.K C m g) (l : fs.lookup m = none)
  (h : Q (.ref g, [.ref a]) s) : wpAny (model X.prog X.w) A (getMethod (.ref a) m pl) Q E s := by
 obtain ⟨mA, O, r, _, _, _⟩ := Ql I.hok e
 have hn : mA m = none := RelO.none_of (by rw [← l]; exact r m)
 exact cz I.kIn O (c.get m) k.at_ k.fn hn h
theorem W6 {y : V} {u : Value} {Q : Unit -> Shared -> Prop} (I : Inv X pins σ H s) (e : H a = some (.ins C dx fs)) (c : Cls X.K C) (n : NoAttr X.K C f) (hl : fs.length < 1000) (ry : RelV y u)
  (h : ∀ s', Inv X pins σ (upd H a (.ins C dx (La f y fs))) s' -> Q () s') : wpAny (model X.prog X.w) A (setAttr (.ref a) f u) Q E s := by
 obtain ⟨mA, O, r, wi, _, ho⟩ := Ql I.hok e
 have hz : (fs.map (·.1)).length <= sizeLine := by rw [List.length_map, sizeLine_eq]; omega
 refine i8 I.kIn O c.sa c.po n.taker c.hd wi hz λ h' O' sb => h _ ?_
 have hd : ∃ o, h'.get? dx = some o := let ⟨o, _, _, e', _⟩ := O'.ns; ⟨o, e'⟩
 refine I.write (x := a) (e := dx) (by rw [e]; exact True.intro) (.inr ho) (λ b q hb z => (sb.2 b hb).trans z) hd ?_
 refine ⟨by rw [Al O.ne]; exact ho, ?_, O.ne, O'.obj, _, O'.ns, λ g => ?_, λ g hg => ?_⟩
 · have := Mj f y fs; omega
 ·
  show RelO ((La f y fs).lookup g) (if g = f then some u else mA g)
  rw [Nb]
  by_cases q : g = f
  · rw [if_pos q, if_pos q]; exact ry
  · rw [if_neg q, if_neg q]; exact r g
 ·
  by_cases q : g = f
  · rw [q]; exact (My f y fs).1
  ·
   refine (My f y fs).2 g (wi g λ z => hg ?_)
   show (if g = f then some u else mA g) = none
   rw [if_neg q]; exact z
theorem Inv.made (I : Inv X pins σ H s) : Inv X pins σ (upd (upd H s.heap.objs.size (.own (s.heap.objs.size + 1))) (s.heap.objs.size + 1) (.ins C s.heap.objs.size []))
  { s with heap := (s.heap.push W.emptyDict).push (W.instObj C s.heap.objs.size) } := by
 have e1 : (s.heap.push W.emptyDict).get? s.heap.objs.size = some W.emptyDict := Heap.get?_push_size s.heap rfl
 have e2 : ((s.heap.push W.emptyDict).push (W.instObj C s.heap.objs.size)).get? (s.heap.objs.size + 1) = some (W.instObj C s.heap.objs.size) := by
  have := Heap.get?_push_size (s.heap.push W.emptyDict) (o := W.instObj C s.heap.objs.size) rfl
  rwa [Heap.size_push] at this
 have e3 : (s.heap.push W.emptyDict).Ns s.heap.objs.size (λ _ => none) := ⟨W.emptyDict, #[], _, e1, rfl, (λ e he => absurd he (by simp)), λ _ => rfl⟩
 have I1 := I.laid (a := s.heap.objs.size) (o := .own (s.heap.objs.size + 1)) (h' := s.heap.push W.emptyDict) (t' := s.toks) (λ b u q => Heap.get?_push_of_some _ q) (Nat.le_refl _) ⟨_, e1⟩
 refine I1.laid (a := s.heap.objs.size + 1) (o := .ins C s.heap.objs.size []) (t' := s.toks) (λ b u q => Heap.get?_push_of_some _ q) (Nat.le_of_eq (Heap.size_push _ _)) ?_
 have ne : s.heap.objs.size ≠ s.heap.objs.size + 1 := Nat.ne_of_lt (Nat.lt_succ_self _)
 refine ⟨by rw [Al ne, Ae], Nat.zero_le _, ne, e2, λ _ => none, (Heap.Ns1.of_empty e3).at λ o q => Heap.get?_push_of_some _ q, λ _ => True.intro, λ y hy => absurd rfl hy⟩
theorem ie {prog : Program} {w : World} {env : Env} {e : Expr} {f : Str} {pos : Pos} {s : Shared} {Q : Value -> Shared -> Prop} (hb : attributeBase e f env (eval e env) = eval e env)
  (h : wpAny (model prog w) A (eval e env) (λ o s₁ => wpAny (model prog w) A (getAttr o f true) Q E s₁) E s) : wpAny (model prog w) A (eval (.Attribute e f pos) env) Q E s :=
 Attribute_any_ h (by rw [arm_eval_Attribute, hb])
end
def vc (K : W.Frag) (ta : TE) (f : Str) : TE := λ σ H Q => ta σ H λ x H1 => ∃ a C dx fs v, x = .ref a /\ H1 a = some (.ins C dx fs) /\ Cls K C /\ NoAttr K C f /\ fs.lookup f = some v /\ Q v H1
def sy (K : W.Frag) (ta tv : TE) (f : Str) : TS := λ D σ H => tv σ H λ y H1 => ta σ H1 λ x H2 => ∃ a C dx fs, x = .ref a /\ H2 a = some (.ins C dx fs) /\ Cls K C /\ NoAttr K C f /\ fs.length < 1000 /\
 D.nx σ (upd H2 a (.ins C dx (La f y fs)))
section
variable {X : Cx} {o e value : Expr} {f : Str} {pos pos' tpos : Pos} {ta tv : TE}
theorem nv (he : PE X e ta) (hb : attributeBase e f X.env (eval e X.env) = eval e X.env) : PE X (.Attribute e f pos) (vc X.K ta f) := by
 intro pins s σ H Q I h
 refine ie hb (thn (he pins s σ H _ I h) λ u s1 ⟨x, H1, I1, rx, a, C, dx, fs, v, ex, ea, c, n, l, q⟩ => ?_)
 subst ex
 obtain rfl : u = Value.ref a := rx
 exact Wf I1 ea c n l λ u' s2 I2 ru => ⟨v, H1, I2, ru, q⟩
theorem lg (ha : PE X o ta) (hv : PE X value tv) (hs : swapsWith value (some (.Attribute o f pos')) pos.line X.env = pure false) : PS X (.Assign [.Attribute o f pos'] value pos) (sy X.K ta tv f) := by
 intro pins s σ H D I h
 refine plainObj_wpAny_Assign_Attribute (thn (hv pins s σ H _ I h) λ u s1 ⟨y, H1, I1, ry, q⟩ => thn (ha pins s1 σ H1 _ I1 q) λ ov s2 ⟨x, H2, I2, rx, a, C, dx, fs, ex, ea, c, n, l, q2⟩ => ?_) hs
 subst ex
 obtain rfl : ov = Value.ref a := rx
 exact W6 I2 ea c n l ry λ s3 I3 => ⟨σ, _, I3, q2⟩
end
section
variable {X : Cx} {pins : List (Addr × Obj)} {σ : St} {H : Hp} {s : Shared} {A : Around} {E : Value -> Shared -> Prop} {Q : Value -> Shared -> Prop} {c : Value} {b : Bool}
inductive Dm (K : W.Frag) (H : Hp) : V -> Value -> Prop where
 | non : Dm K H .non (.type "NoneType")
 | bl (x : Bool) : Dm K H (.bl x) (.type "bool")
 | int (i : Int) : Dm K H (.int i) (.type "int")
 | str (x : Str) : Dm K H (.str x) (.type "str")
 | flt (x : UInt64) : Dm K H (.flt x) (.type "float")
 | lst {a : Addr} {xs : List V} (e : H a = some (.lst xs)) : Dm K H (.ref a) (.type "list")
 | frz {a : Addr} {o : Obj} {xs : List V} (e : H a = some (.frz o (.lst xs))) : Dm K H (.ref a) (.type "list")
 | tup {a : Addr} {xs : List V} (e : H a = some (.tup xs)) : Dm K H (.ref a) (.type "tuple")
 | dK {a : Addr} {kvs : List (Key × V)} (e : H a = some (.dK kvs)) : Dm K H (.ref a) (.type "dict")
 | dT {a : Addr} {kvs : List (List Key × V)} (e : H a = some (.dT kvs)) : Dm K H (.ref a) (.type "dict")
 | ins {a C dx : Addr} {fs : List (Str × V)} (e : H a = some (.ins C dx fs)) (cl : Cls K C) (ha : W.findIn K (.ref C) "__class__" = some (some (.builtin "object.__class__")))
  (hn : W.specialIn K (.builtin "object.__class__") "__get__" = some (some (.builtin "getset_descriptor.__get__"))) (htk : W.takesIn K (.builtin "object.__class__") = some true)
  (hm : W.mroIn K C (.type "object") = some true) : Dm K H (.ref a) (.ref C)
theorem Xf {x : V} {u t : Value} (I : Inv X pins σ H s) (rx : RelV x u) (ty : Dm X.K H x t) (e : W.kitOne X.K t c = some b) (h : ∀ tk, Q (.bool b) { s with toks := tk }) :
  wpAny (model X.prog X.w) A (call (.builtin "isinstance") [u, c]) Q E s := by
 cases ty with
 | non => cases (show u = Value.none from rx); exact W.kia_one W.kitx_none I.kIn True.intro e (λ z => nomatch z) h
 | bl y => cases (show u = Value.bool y from rx); exact W.kia_one W.kitx_bool I.kIn True.intro e (λ z => nomatch z) h
 | int i => obtain ⟨t, q⟩ := (show ∃ t, u = Value.int i t from rx); cases q; exact W.kia_one W.kitx_int I.kIn True.intro e (λ z => nomatch z) h
 | str y => obtain ⟨t, q⟩ := (show ∃ t, u = Value.str y t from rx); cases q; exact W.kia_one W.kitx_str I.kIn True.intro e (λ z => nomatch z) h
 | flt y => obtain ⟨t, q⟩ := (show ∃ t, u = Value.float y t from rx); cases q; exact W.kia_one W.kitx_float I.kIn True.intro e (λ z => nomatch z) h
 |
  @lst a xs ea =>
  cases (show u = Value.ref a from rx)
  obtain ⟨_, _, n, _, h1⟩ := (show ObjOk X.prog X.w H s.heap a (.lst xs) from I.hok a _ ea)
  exact W.kia_one W.kitx_list I.kIn ⟨_, h1, rfl⟩ e (λ z => nomatch z) h
 |
  @frz a ob xs ea =>
  cases (show u = Value.ref a from rx)
  obtain ⟨_, _, _, n, _, h1⟩ := (show ObjOk X.prog X.w H s.heap a (.frz ob (.lst xs)) from I.hok a _ ea)
  exact W.kia_one W.kitx_list I.kIn ⟨_, h1, rfl⟩ e (λ z => nomatch z) h
 |
  @tup a xs ea =>
  cases (show u = Value.ref a from rx)
  obtain ⟨_, _, _, p⟩ := (show ObjOk X.prog X.w H s.heap a (.tup xs) from I.hok a _ ea)
  obtain ⟨o, h1, h2, _⟩ := p
  exact W.kia_one W.kitx_tuple I.kIn ⟨o, h1, h2⟩ e (λ z => nomatch z) h
 |
  @dK a kvs ea =>
  cases (show u = Value.ref a from rx)
  obtain ⟨_, _, vs, _, p⟩ := (show ObjOk X.prog X.w H s.heap a (.dK kvs) from I.hok a _ ea)
  obtain ⟨o, es, ep, h1, h2, _⟩ := p
  exact W.kia_one W.kitx_dict I.kIn ⟨o, h1, h2.1⟩ e (λ z => nomatch z) h
 |
  @dT a kvs ea =>
  cases (show u = Value.ref a from rx)
  obtain ⟨_, _, xs, _, o, es, ep, h1, h2, _⟩ := (show ObjOk X.prog X.w H s.heap a (.dT kvs) from I.hok a _ ea)
  exact W.kia_one W.kitx_dict I.kIn ⟨o, h1, h2.1⟩ e (λ z => nomatch z) h
 |
  @ins a C dx fs ea cl ha hn htk hm =>
  cases (show u = Value.ref a from rx)
  obtain ⟨mA, O, _⟩ := Ql I.hok ea
  obtain ⟨od, J, _⟩ := O.look
  exact W.kia_one (W.kitx_own (cl.get _) cl.hd ha hn htk hm) I.kIn J e (λ z => nomatch z) h
end
structure Room (cm : Bool) (k : Nat) (A : Around) : Prop where
 hd : cm = true -> A.handled = none
 dp : A.depth + 3 * k + 5 < recursionLimit
 un : A.units + 16 * k + 200 < cLine
theorem Room.mono {cm : Bool} {j k : Nat} {A : Around} (r : Room cm k A) (h : j <= k) : Room cm j A := ⟨r.hd, by have := r.dp; omega, by have := r.un; omega⟩
theorem Room.deeper {cm : Bool} {k : Nat} {A : Around} (r : Room cm (k + 1) A) (env : Env) : Room cm k (A.deeper env) :=
 ⟨r.hd, by have := r.dp; show A.depth + 1 + 3 * k + 5 < _; omega, by have := r.un; show A.units + 3 + 16 * k + 200 < _; omega⟩
theorem Room.in1 {cm : Bool} {k : Nat} {A : Around} (r : Room cm (k + 1) A) : Room cm k A.in1 :=
 ⟨r.hd, by have := r.dp; show A.depth + 3 * k + 5 < _; omega, by have := r.un; show A.units + 1 + 16 * k + 200 < _; omega⟩
theorem Wo {A : Around} {C : Addr} {us : List Value} {kw : List (Str × Value)} : (A.under (.builtin "type.__call__" ⟨.ref C :: us, kw⟩)).depth = A.depth + 1 := by
 first | rfl | simp [Around.under, Code.weight, Code.isCreation, Code.isGuard, Code.isCaller, Code.frames, Code.isFrame, guardIds]
theorem Wl {A : Around} {C : Addr} {us : List Value} {kw : List (Str × Value)} : (A.under (.builtin "type.__call__" ⟨.ref C :: us, kw⟩)).units = A.units + 1 := by
 first | rfl | simp [Around.under, Code.cUnits, Code.frames, Code.isFrame]
theorem Room.make {cm : Bool} {k : Nat} {A : Around} (r : Room cm (k + 1) A) (C : Addr) (us : List Value) (kw : List (Str × Value)) : Room cm k (A.under (.builtin "type.__call__" ⟨.ref C :: us, kw⟩)) :=
 ⟨r.hd, by have := r.dp; rw [Wo]; omega, by have := r.un; rw [Wl]; omega⟩
theorem Room.depth {cm : Bool} {k : Nat} {A : Around} (r : Room cm k A) : A.depth < recursionLimit := by have := r.dp; omega
theorem Room.units {cm : Bool} {k : Nat} {A : Around} (r : Room cm k A) : A.units + 64 < cLine := by have := r.un; omega
def mf : TA := λ _ H Q => Q [] H
def bc (ta : TE) (tr : TA) : TA := λ σ H Q => ta σ H λ x H1 => tr σ H1 λ xs H2 => Q (x :: xs) H2
section
variable {X : Cx} {e : Expr} {es : List Expr} {te : TE} {t : TA} {pos : Pos}
theorem Ad : PA X [] mf := λ _ _ _ _ H Q I h => Calls.spliced_nil ⟨[], H, I, .nil, h⟩
theorem Aa (ha : PE X e te) (hr : PA X es t) (hs : starEach (e :: es) X.env = (false, eval e X.env) :: starEach es X.env := by rfl) : PA X (e :: es) (bc te t) := by
 intro pos pins s σ H Q I h
 rw [hs]
 show wpAny _ _ (spliced ((false, eval e X.env) :: backTo pos (starEach es X.env))) _ _ s
 refine Calls.spliced_cons (thn (ha pins s σ H _ I h) λ u s1 ⟨x, H1, I1, r1, q1⟩ => ?_)
 exact thn (hr pos pins s1 σ H1 _ I1 q1) λ us s2 ⟨xs, H2, I2, r2, q2⟩ => ⟨x :: xs, H2, I2, .cons r1 r2, q2⟩
def vf (t : TA) : TE := λ σ H Q => t σ H λ xs H1 => xs.length <= sizeLine /\ ∀ p, H1 p = none -> Q (.ref p) (upd H1 p (.tup xs))
def vz (t : TA) : TE := λ σ H Q => t σ H λ xs H1 => xs.length <= sizeLine /\ ∀ p, H1 p = none -> Q (.ref p) (upd H1 p (.lst xs))
theorem Bp {x1} (h : PA X es t) : PE X (.Tuple es x1 pos) (vf t) := by
 intro pins s σ H Q I hq
 refine wpAny_Tuple_spliced (thn (h pos pins s σ H _ I hq) λ us s1 ⟨xs, H1, I1, r, z, q⟩ => ⟨by rw [← r.length]; exact z, ?_⟩)
 have hf : H1 s1.heap.objs.size = none := I1.hok.fresh (Nat.le_refl _)
 refine ⟨.ref s1.heap.objs.size, upd H1 s1.heap.objs.size (.tup xs), I1.laid (t' := s1.toks) (λ b u e => Heap.get?_push_of_some _ e) (Nat.le_refl _) ?_, rfl, q _ hf⟩
 exact ⟨z, us, r, ⟨_, Heap.get?_push_size _ rfl, rfl, _, rfl⟩⟩
theorem F1 (h : PA X es t) : PE X (.List es pos) (vz t) := by
 intro pins s σ H Q I hq
 refine wpAny_List_spliced (thn (h pos pins s σ H _ I hq) λ us s1 ⟨xs, H1, I1, r, z, q⟩ => ⟨by rw [← r.length]; exact z, ?_⟩)
 have hf : H1 s1.heap.objs.size = none := I1.hok.fresh (Nat.le_refl _)
 refine ⟨.ref s1.heap.objs.size, upd H1 s1.heap.objs.size (.lst xs), I1.laid (t' := s1.toks) (λ b u e => Heap.get?_push_of_some _ e) (Nat.le_refl _) ?_, rfl, q _ hf⟩
 exact ⟨z, us, 0, r, Heap.get?_push_size _ rfl⟩
end
abbrev Sp := List V -> Hp -> VK -> XK -> Prop
abbrev CXT := List Env -> Hp -> Shared -> XK -> Value -> Shared -> Prop
structure Env0 (P : Program) (w : World) (K : W.Frag) (mg : Str -> Option Value) (base : Heap) (A : Around) (outer : List Env) (s : Shared) (H : Hp) : Prop where
 frames : A.frames = some outer
 mod : Mod K mg base
 bs : ∀ b o, base.get? b = some o -> s.heap.get? b = some o /\ H b = none
 bsz : base.objs.size <= s.heap.objs.size
 funs : s.heap.FunFrames base outer
 frf : ∀ b ∈ frs outer, H b = none
 hok : HOk P w H s.heap
 bare : AllBare s.gens
def CE (outer : List Env) (P : Program) (w : World) (H : Hp) (s : Shared) (Q : VK) (u : Value) (s' : Shared) : Prop :=
 ∃ v H', s'.os = s.os /\ AllBare s'.gens /\ Un (frs outer) [] H H' s.heap s'.heap /\ HOk P w H' s'.heap /\ RelV v u /\ Q v H'
def CR (CX : CXT) (outer : List Env) (P : Program) (w : World) (H : Hp) (s : Shared) (Q : VK) (E : XK) (r : Result) (s' : Shared) : Prop :=
 match r with
 | .ok (.ret u) => CE outer P w H s Q u s'
 | .ok _ => False
 | .error e => CX outer H s E e s'
structure FnOk (P : Program) (w : World) (K : W.Frag) (mg : Str -> Option Value) (base : Heap) (CX : CXT) (cm : Bool) (k : Nat) (f : Addr) (fd : FuncData) (ps : List Str) (sp : Sp) : Prop where
 len : ∀ vs H Q E, sp vs H Q E -> vs.length = ps.length
 run : ∀ (A : Around) (outer : List Env) (s : Shared) (H : Hp) (args : Args) (us : List Value) (vs : List V) (Q : VK) (E : XK), Room cm k A -> Env0 P w K mg base A outer s H -> BindsTo s fd args (ps.zip us) -> Vals vs us -> sp vs H Q E ->
  codeAny (model P w) A (.call (.ref f) args) (CR CX outer P w H s Q E) s
theorem FnOk.mono {cm : Bool} {P : Program} {w : World} {K : W.Frag} {mg : Str -> Option Value} {base : Heap} {CX : CXT} {j k : Nat} {f : Addr} {fd : FuncData} {ps : List Str} {sp : Sp} (F : FnOk P w K mg base CX cm j f fd ps sp) (h : j <= k) :
 FnOk P w K mg base CX cm k f fd ps sp := ⟨F.len, λ A outer s H args us vs Q E hr => F.run A outer s H args us vs Q E (hr.mono h)⟩
theorem FnOk.imp {cm : Bool} {P : Program} {w : World} {K : W.Frag} {mg : Str -> Option Value} {base : Heap} {CX : CXT} {k : Nat} {f : Addr} {fd : FuncData} {ps : List Str} {sp sp' : Sp} (F : FnOk P w K mg base CX cm k f fd ps sp)
  (h : ∀ vs H Q E, sp' vs H Q E -> sp vs H Q E) : FnOk P w K mg base CX cm k f fd ps sp' :=
 ⟨λ vs H Q E q => F.len vs H Q E (h _ _ _ _ q), λ A outer s H args us vs Q E hr he hb hv hs => F.run A outer s H args us vs Q E hr he hb hv (h _ _ _ _ hs)⟩
theorem Env0.make {P : Program} {w : World} {K : W.Frag} {mg : Str -> Option Value} {base : Heap} {A : Around} {outer : List Env} {s : Shared} {H : Hp} (e : Env0 P w K mg base A outer s H) (C : Addr) (us : List Value) (kw : List (Str × Value)) :
 Env0 P w K mg base (A.under (.builtin "type.__call__" ⟨.ref C :: us, kw⟩)) outer s H := ⟨by first | exact e.frames | (simpa [Around.under, Code.envs, Code.isFrame, pushEnvs] using e.frames), e.mod, e.bs, e.bsz, e.funs, e.frf, e.hok, e.bare⟩
theorem Env0.in1 {P : Program} {w : World} {K : W.Frag} {mg : Str -> Option Value} {base : Heap} {A : Around} {outer : List Env} {s : Shared} {H : Hp} (e : Env0 P w K mg base A outer s H) :
 Env0 P w K mg base A.in1 outer s H := ⟨e.frames, e.mod, e.bs, e.bsz, e.funs, e.frf, e.hok, e.bare⟩
section
variable {X : Cx} {pins : List (Addr × Obj)} {σ : St} {H : Hp} {s s' : Shared}
theorem Inv.env0 (I : Inv X pins σ H s) : Env0 X.prog X.w X.K X.mg X.base X.A X.stack s H :=
 ⟨I.ok.frames, I.ok.mod, I.bs, Nat.le_trans I.ok.bsz I.sz, I.stack, I.stkFree, I.hok, I.bare⟩
theorem Inv.after {Q : VK} {u : Value} (I : Inv X pins σ H s) (h : CE X.stack X.prog X.w H s Q u s') : EP X pins σ Q u s' := by
 obtain ⟨v, H', os, bare, un, hok, r, q⟩ := h
 obtain ⟨hh, g, d, t, os'⟩ := s'
 obtain rfl : os' = s.os := os
 exact ⟨v, H', I.call (h' := hh) (g' := g) (d' := d) (t' := t) (ch := []) un hok bare (λ b z => absurd z (by simp)), r, q⟩
end
def n6 (sp : Sp) (dvs : List V) (E : XK) (t : TA) : TE := λ σ H Q => t σ H λ vs H1 => sp (vs ++ dvs) H1 Q E
def jk (C : Addr) (sp : Sp) (dvs : List V) (E : XK) (t : TA) : TE := λ σ H Q => t σ H λ vs H1 => ∀ x dx, H1 x = none -> H1 dx = none -> dx ≠ x ->
 sp (.ref x :: (vs ++ dvs)) (upd (upd H1 dx (.own x)) x (.ins C dx [])) (λ v H2 => v = .non /\ Q (.ref x) H2) E
def Binds (K : W.Frag) (fd : FuncData) (ps : List Str) (ds : List Value) : Prop :=
 ∀ (s : Shared) (us : List Value), K.In s.heap -> (us ++ ds).length = ps.length -> BindsTo s fd ⟨us, []⟩ (ps.zip (us ++ ds))
theorem Binds.all {K : W.Frag} {fd : FuncData} {ps : List Str} (h : ∀ us : List Value, us.length = ps.length -> bindArgs fd ⟨us, []⟩ = pure (ps.zip us)) : Binds K fd ps [] := λ s us _ hl => by
 rw [List.append_nil] at hl ⊢
 exact .of_eq (h us hl)
def Passes (CX : CXT) (X : Cx) (E : XK) : Prop := ∀ (pins : List (Addr × Obj)) (σ : St) (H : Hp) (s : Shared) (e : Value) (s' : Shared), Inv X pins σ H s -> CX X.stack H s E e s' -> X.xe e s'
section
variable {X : Cx} {CX : CXT} {cm : Bool} {k : Nat} {f C : Addr} {fd : FuncData} {ps : List Str} {sp : Sp} {dvs : List V} {ds : List Value} {E : XK} {x m : Str} {p pos apos : Pos} {e o : Expr} {es : List Expr} {ta : TE} {t : TA}
theorem Yj {pins : List (Addr × Obj)} {σ : St} {H : Hp} {s : Shared} {Q : VK} {us : List Value} {vs : List V} (F : FnOk X.prog X.w X.K X.mg X.base CX cm k f fd ps sp) (hr : Room cm k X.A) (hb : Binds X.K fd ps ds) (hd : Vals dvs ds) (hx : Passes CX X E)
  (I : Inv X pins σ H s) (r : Vals vs us) (h : sp (vs ++ dvs) H Q E) : wpAny (model X.prog X.w) X.A (call (.ref f) us) (EP X pins σ Q) X.xe s := by
 have r2 : Vals (vs ++ dvs) (us ++ ds) := r.append hd
 have hl : (us ++ ds).length = ps.length := by rw [← r2.length]; exact F.len _ _ _ _ h
 refine wpAny_call (codeAny_mono (F.run X.A X.stack s H ⟨us, []⟩ (us ++ ds) (vs ++ dvs) Q E hr I.env0 (hb s us I.kIn hl) r2 h) λ r s' hq => ?_)
 cases r with
 | error e => exact hx pins σ H s e s' I hq
 |
  ok fl =>
  cases fl with
  | ret u => exact I.after hq
  | next => exact False.elim hq
  | brk => exact False.elim hq
  | cont => exact False.elim hq
theorem Ak (F : FnOk X.prog X.w X.K X.mg X.base CX cm k f fd ps sp) (hr : Room cm k X.A) (hg : Gl X x) (hm : X.mg x = some (.ref f)) (hk : W.keepIn X.K (.ref f) = true) (hb : Binds X.K fd ps ds) (hd : Vals dvs ds) (hx : Passes CX X E)
  (ha : PA X (e :: es) t) (hdb : (x == ("__debug__" : Str)) = false := by decide) (he : starEach (e :: es) X.env = (false, eval e X.env) :: starEach es X.env := by rfl) (hpl : (backTo pos (starEach es X.env)).any (·.1) = false := by rfl) :
  PE X (.Call (.Name x p) (e :: es) [] pos) (n6 sp dvs E t) := by
 intro pins s σ H Q I h
 refine wpAny_Call_Name_kw (Md I hg hm ?_ hdb)
 refine W.callWith_K (h₀ := X.base) I.ok.mod.kin hk (thn (ha pos pins s σ H _ I h) λ us s1 ⟨vs, H1, I1, r, q⟩ => ⟨I1.kIn, ?_⟩) he hpl
 exact Yj F hr hb hd hx I1 r q
structure Mk (K : W.Frag) (C f : Addr) : Prop where
 makes : W.makesIn K C = true
 init : W.findIn K (.ref C) "__init__" = some (some (.ref f))
 fn : W.isFn K (.ref f) = true
 kp : W.keepIn K (.ref C) = true
theorem Vb {pins : List (Addr × Obj)} {σ : St} {H : Hp} {s : Shared} {Q : VK} {us : List Value} {vs : List V} (M : Mk X.K C f) (F : FnOk X.prog X.w X.K X.mg X.base CX cm k f fd ps sp) (hr : Room cm (k + 1) X.A) (hb : Binds X.K fd ps ds) (hd : Vals dvs ds)
  (hx : Passes CX X E) (I : Inv X pins σ H s) (r : Vals vs us)
  (h : ∀ x dx, H x = none -> H dx = none -> dx ≠ x -> sp (.ref x :: (vs ++ dvs)) (upd (upd H dx (.own x)) x (.ins C dx [])) (λ v H2 => v = .non /\ Q (.ref x) H2) E) :
  wpAny (model X.prog X.w) X.A (call (.ref C) us) (EP X pins σ Q) X.xe s := by
 have hq := h (s.heap.objs.size + 1) s.heap.objs.size (I.hok.fresh (Nat.le_succ _)) (I.hok.fresh (Nat.le_refl _)) (Nat.ne_of_lt (Nat.lt_succ_self _))
 have I2 := Inv.made (C := C) I
 have r2 : Vals (V.ref (s.heap.objs.size + 1) :: (vs ++ dvs)) (Value.ref (s.heap.objs.size + 1) :: (us ++ ds)) := .cons rfl (r.append hd)
 have hl : (Value.ref (s.heap.objs.size + 1) :: us ++ ds).length = ps.length := by
  have e := r2.length
  rw [F.len _ _ _ _ hq] at e
  exact e.symm
 refine wpAny_call (Z3 (f := f) I.kIn M.makes M.init (beq_iff_eq.mp M.fn) (codeAny_mono (F.run _ X.stack _ _ ⟨Value.ref (s.heap.objs.size + 1) :: us, []⟩ (Value.ref (s.heap.objs.size + 1) :: (us ++ ds)) _ _ E (hr.make C us [])
  (I2.env0.make C us []) (hb _ (Value.ref (s.heap.objs.size + 1) :: us) I2.kIn hl) r2 hq) λ r s' hq' => ?_))
 cases r with
 | error e => exact hx pins σ _ _ e s' I2 hq'
 |
  ok fl =>
  cases fl with
  |
   ret u =>
   obtain ⟨v, H', I3, rv, ev, q3⟩ := I2.after hq'
   subst ev
   exact ⟨rv, ⟨V.ref (s.heap.objs.size + 1), H', I3, rfl, q3⟩⟩
  | next => exact False.elim hq'
  | brk => exact False.elim hq'
  | cont => exact False.elim hq'
theorem ja (M : Mk X.K C f) (F : FnOk X.prog X.w X.K X.mg X.base CX cm k f fd ps sp) (hr : Room cm (k + 1) X.A) (hg : Gl X x) (hm : X.mg x = some (.ref C)) (hb : Binds X.K fd ps ds) (hd : Vals dvs ds) (hx : Passes CX X E)
  (ha : PA X (e :: es) t) (hdb : (x == ("__debug__" : Str)) = false := by decide) (he : starEach (e :: es) X.env = (false, eval e X.env) :: starEach es X.env := by rfl) (hpl : (backTo pos (starEach es X.env)).any (·.1) = false := by rfl) :
  PE X (.Call (.Name x p) (e :: es) [] pos) (jk C sp dvs E t) := by
 intro pins s σ H Q I h
 refine wpAny_Call_Name_kw (Md I hg hm ?_ hdb)
 refine W.callWith_K (h₀ := X.base) I.ok.mod.kin M.kp (thn (ha pos pins s σ H _ I h) λ us s1 ⟨vs, H1, I1, r, q⟩ => ⟨I1.kIn, ?_⟩) he hpl
 exact Vb M F hr hb hd hx I1 r q
theorem ah (M : Mk X.K C f) (F : FnOk X.prog X.w X.K X.mg X.base CX cm k f fd ps sp) (hr : Room cm (k + 1) X.A) (hg : Gl X x) (hm : X.mg x = some (.ref C)) (hb : Binds X.K fd ps ds) (hd : Vals dvs ds) (hx : Passes CX X E)
  (hdb : (x == ("__debug__" : Str)) = false := by decide) : PE X (.Call (.Name x p) [] [] pos) (jk C sp dvs E mf) := by
 intro pins s σ H Q I h
 refine wpAny_Call_Name_kw (Md I hg hm ?_ hdb)
 exact W.callWith_K0 I.kIn M.kp (Vb (us := []) M F hr hb hd hx I .nil h)
end
def PK (X : Cx) (kws : List Keyword) (t : TA) : Prop :=
 ∀ (pos : Pos) (pins : List (Addr × Obj)) (s : Shared) (σ : St) (H : Hp) (Q : List V -> Hp -> Prop), Inv X pins σ H s -> t σ H Q -> wpAny (model X.prog X.w) X.A (evalAll ((backToKw pos (keywordEach kws X.env)).map (·.2))) (AP X pins σ Q) X.xe s
section
variable {X : Cx} {CX : CXT} {cm : Bool} {k : Nat} {f C : Addr} {fd : FuncData} {ps ks : List Str} {sp : Sp} {E : XK} {x m : Str} {p pos apos kpos : Pos} {e o : Expr} {es : List Expr} {kws : List Keyword} {te ta : TE} {t tk : TA} {nm : Option Str}
theorem j4 : PK X [] mf := λ _ _ _ _ H Q I h => wpAny_evalAll_nil ⟨[], H, I, .nil, h⟩
theorem jc (ha : PE X e te) (hr : PK X kws t) : PK X (⟨nm, e, kpos⟩ :: kws) (bc te t) := by
 intro pos pins s σ H Q I h
 show wpAny _ _ (evalAll ((do let v ← eval e X.env; standAt pos; pure v) :: (backToKw pos (keywordEach kws X.env)).map (·.2))) _ _ s
 refine wpAny_evalAll_cons (wpAny_bind (thn (ha pins s σ H _ I h) λ u s1 ⟨x, H1, I1, r1, q1⟩ => wpAny_bind (wpAny_standAt (wpAny_pure ?_))))
 exact thn (hr pos pins s1 σ H1 _ I1 q1) λ us s2 ⟨xs, H2, I2, r2, q2⟩ => ⟨x :: xs, H2, I2, .cons r1 r2, q2⟩
structure su (K : W.Frag) (fd : FuncData) (ps ks : List Str) (g : List Value -> List Value -> List Value) (gV : List V -> List V -> List V) : Prop where
 to : ∀ (s : Shared) (us ws : List Value), K.In s.heap -> (g us ws).length = ps.length -> BindsTo s fd ⟨us, ks.zip ws⟩ (ps.zip (g us ws))
 rel : ∀ {vs : List V} {us : List Value} {zs : List V} {ws : List Value}, Vals vs us -> Vals zs ws -> Vals (gV vs zs) (g us ws)
variable {g : List Value -> List Value -> List Value} {gV : List V -> List V -> List V}
end
structure Ax (N P : List Str) (sc : Scope) : Prop where
 kind : sc.kind = .function
 co : sc.isCoroutine = false
 gen : sc.isGenerator = false
 nd : N.Nodup
 pre : N.take P.length = P
 par : ∀ x ∈ P, sc.names.lookup x = some .local ∨ sc.names.lookup x = some .cell
 nofree : ∀ y ∈ sc.names, y.2 ≠ .free
theorem Rb {kindOf : Str -> Option NameKind} {x : Str} : ∀ {binds : List (Str × Value)} {m : Str -> Option Value}, (∀ v, (x, v) ∉ binds) -> bindL kindOf binds m x = m x
 | [], _, _ => rfl
 |
  (n, v) :: r, m, h => by
  unfold bindL
  rw [Rb λ w hw => h w (List.mem_cons_of_mem _ hw)]
  split
  ·
   have : x ≠ n := by rintro rfl; exact h v List.mem_cons_self
   simp [this]
  · rfl
theorem Sx {kindOf : Str -> Option NameKind} {x : Str} : ∀ {binds : List (Str × Value)} {m : Str -> Option Value}, (∀ v, (x, v) ∉ binds) -> bindC kindOf binds m x = m x
 | [], _, _ => rfl
 |
  (n, v) :: r, m, h => by
  unfold bindC
  rw [Sx λ w hw => h w (List.mem_cons_of_mem _ hw)]
  split
  · rfl
  ·
   have : x ≠ n := by rintro rfl; exact h v List.mem_cons_self
   simp [this]
theorem Sy {kindOf : Str -> Option NameKind} {x : Str} {v : Value} : ∀ {P : List Str} {vs : List Value} {i : Nat} {m : Str -> Option Value}, P.Nodup -> P[i]? = some x -> vs[i]? = some v -> kindOf x = some .local ->
  bindL kindOf (P.zip vs) m x = some v
 | [], _, _, _, _, h, _, _ => by simp at h
 | _ :: _, [], _, _, _, _, h, _ => by simp at h
 |
  p :: P, w :: vs, 0, m, nd, h1, h2, hk => by
  simp at h1 h2; subst h1; subst h2
  show bindL kindOf ((p, w) :: P.zip vs) m p = _
  unfold bindL
  rw [Rb λ v hv => (List.nodup_cons.mp nd).1 (List.of_mem_zip hv).1, if_pos hk]
  simp
 |
  p :: P, w :: vs, i + 1, m, nd, h1, h2, hk => by
  show bindL kindOf ((p, w) :: P.zip vs) m x = _
  unfold bindL
  exact Sy (i := i) (List.nodup_cons.mp nd).2 (by simpa using h1) (by simpa using h2) hk
theorem Sb {kindOf : Str -> Option NameKind} {x : Str} {v : Value} : ∀ {P : List Str} {vs : List Value} {i : Nat} {m : Str -> Option Value}, P.Nodup -> P[i]? = some x -> vs[i]? = some v -> kindOf x ≠ some .local ->
  bindC kindOf (P.zip vs) m x = some v
 | [], _, _, _, _, h, _, _ => by simp at h
 | _ :: _, [], _, _, _, _, h, _ => by simp at h
 |
  p :: P, w :: vs, 0, m, nd, h1, h2, hk => by
  simp at h1 h2; subst h1; subst h2
  show bindC kindOf ((p, w) :: P.zip vs) m p = _
  unfold bindC
  rw [Sx λ v hv => (List.nodup_cons.mp nd).1 (List.of_mem_zip hv).1, if_neg hk]
  simp
 |
  p :: P, w :: vs, i + 1, m, nd, h1, h2, hk => by
  show bindC kindOf ((p, w) :: P.zip vs) m x = _
  unfold bindC
  exact Sb (i := i) (List.nodup_cons.mp nd).2 (by simpa using h1) (by simpa using h2) hk
def start (N : List Str) (vs : List V) : St := vs.map some ++ List.replicate (N.length - vs.length) none
def c9 (CX : CXT) (cm : Bool) (P : Program) (w : World) (K : W.Frag) (mg : Str -> Option Value) (base : Heap) (N : List Str) (qual : Str) (scope : Scope) (f : Addr) (cd : Value) (A : Around) (outer : List Env) (s : Shared) (H : Hp) (E : XK) : Cx where
 prog := P
 w := w
 K := K
 mg := mg
 base := base
 A := A.deeper (envOfC qual scope s.heap.objs.size f cd)
 N := N
 s₀ := s
 H₀ := H
 env := envOfC qual scope s.heap.objs.size f cd
 outer := outer
 stack := envOfC qual scope s.heap.objs.size f cd :: outer
 ex := []
 calm := cm
 fn := λ _ => true
 pn := []
 xe := λ e s' => wpAny (model P w) (A.deeper (envOfC qual scope s.heap.objs.size f cd)) (leaving (envOfC qual scope s.heap.objs.size f cd) e) (λ _ s'' => CX outer H s E e s'') (λ e' s'' => CX outer H s E e' s'') s'
theorem U0 {sc : Scope} {n : Nat} {x : Str} (h : sc.names.lookup x = some .cell) : ∃ c, (cellsFrom n sc.names []).lookup x = some c := by
 have q := W.cellsFrom_some sc.names n [] (.inl h)
 exact Option.isSome_iff_exists.mp q
theorem Xo {cm : Bool} {CX : CXT} {P : Program} {w : World} {K : W.Frag} {mg : Str -> Option Value} {base : Heap} {N ps : List Str} {qual : Str} {scope : Scope} {f : Addr} {cd : Value} {A : Around} {outer : List Env} {s s1 : Shared} {H : Hp} {E : XK} {us : List Value} {vs : List V}
  (S : Ax N ps scope) (hd : cm = true -> A.handled = none) (e0 : Env0 P w K mg base A outer s H) (hl : vs.length = ps.length) (r : Vals vs us)
  (x : InCallC s s.heap.objs.size (bindL (envOfC qual scope s.heap.objs.size f cd).kindOf (ps.zip us) λ _ => none) (cellsFrom (s.heap.objs.size + 1) scope.names []) (bindC (envOfC qual scope s.heap.objs.size f cd).kindOf (ps.zip us) λ _ => none) s1) :
  Inv (c9 CX cm P w K mg base N qual scope f cd A outer s H E) [] (start N vs) H s1 := by
 have hpl : ps.length <= N.length := by have := congrArg List.length S.pre; rw [List.length_take] at this; omega
 obtain ⟨h1, tk, rfl, hk⟩ := x.done
 have noA : ∀ b : Addr, b ∉ (c9 CX cm P w K mg base N qual scope f cd A outer s H E).ex := λ b z => absurd (show b ∈ ([] : List Addr) from z) (by simp)
 refine ⟨⟨e0.mod, S.kind, rfl, rfl, Nat.le_refl _, λ y z c h1 h2 => ?_, λ y hy => ?_, λ y c _ h => ?_, hd, Around.frames_deeper e0.frames, .inr ⟨rfl, rfl⟩, λ b z => absurd z (noA b), e0.bs, e0.bsz, λ b _ _ => noA b, λ b z => absurd z (noA b), e0.funs, e0.frf⟩,
  rfl, e0.bare, Un.kept hk, ⟨_, x.toInCall.ns, λ i y v h1 h2 h3 => ?_⟩, λ y c h => ⟨_, x.cell y c h⟩, e0.hok.fresh (Nat.le_refl _), λ y c h => ?_, λ p hp => absurd (show p ∈ ([] : List (Addr × Obj)) from hp) (by simp), e0.hok.kept hk, ?_⟩
 · exact name_of_addr x.apart (PySem.mem_of_lookup h1) (PySem.mem_of_lookup h2)
 ·
  have hy : scope.names.lookup y = some .cell ∨ scope.names.lookup y = some .free := hy
  rcases hy with hy | hy
  · exact U0 hy
  · exact absurd rfl (S.nofree _ (PySem.mem_of_lookup hy))
 · exact Nat.le_of_lt (x.above y c (PySem.mem_of_lookup h))
 ·
  have hi : i < vs.length := by
   unfold start at h2
   by_cases hi : i < vs.length
   · exact hi
   ·
    rw [List.getElem?_append_right (by simpa using hi)] at h2
    rw [List.getElem?_replicate] at h2
    split at h2 <;> cases h2
  have ha : vs[i]? = some v := by
   unfold start at h2
   rw [List.getElem?_append_left (by simpa using hi), List.getElem?_map] at h2
   cases e : vs[i]? with
   | none => rw [e] at h2; cases h2
   | some a => rw [e] at h2; cases h2; rfl
  obtain ⟨u, hu, rv⟩ := r.get ha
  have hp : ps[i]? = some y := by
   rw [← S.pre, List.getElem?_take_of_lt (by omega)]; exact h1
  have ndP : ps.Nodup := by rw [← S.pre]; exact S.nd.sublist (List.take_sublist _ _)
  refine ⟨u, rv, ?_⟩
  rcases S.par y (List.mem_of_getElem? hp) with k | k
  · exact .inl ⟨k, Sy ndP hp hu k⟩
  ·
   obtain ⟨c, e⟩ := U0 (n := s.heap.objs.size + 1) k
   refine .inr ⟨.inl k, c, e, ?_⟩
   have q := x.cell y c e
   rw [Sb ndP hp hu (by show scope.names.lookup y ≠ _; rw [k]; decide)] at q
   exact q
 · exact e0.hok.fresh (Nat.le_of_lt (x.above y c (PySem.mem_of_lookup h)))
 ·
  unfold start
  show _ = N.length
  rw [List.length_append, List.length_map, List.length_replicate]
  omega
theorem kr {cm : Bool} {CX : CXT} {P : Program} {w : World} {K : W.Frag} {mg : Str -> Option Value} {base : Heap} {k : Nat} {f : Addr} {name qual : Str} {params : Arguments} {body : List Stmt} {scope : Scope} {dV kV doc pm cdv ct oc : Value} {an od : Option Addr}
  {osl : Array (Option Value)} {N ps : List Str} {sp : Sp} (lk : K.lookup f = some ⟨oc, od, .func (W.fnOf name qual params body scope dV kV doc pm an cdv ct), osl⟩) (hcd : W.codeIn K cdv qual = true) (S : Ax N ps scope)
  (len : ∀ vs H Q E, sp vs H Q E -> vs.length = ps.length)
  (hbody : ∀ (A : Around) (outer : List Env) (s : Shared) (H : Hp) (vs : List V) (Q : VK) (E : XK), Room cm k (A.deeper (envOfC qual scope s.heap.objs.size f cdv)) -> sp vs H Q E ->
   ∃ t, PSs (c9 CX cm P w K mg base N qual scope f cdv A outer s H E) body t /\ t { nx := λ _ H' => Q .non H', rt := λ _ => Q } (start N vs) H) :
  FnOk P w K mg base CX cm (k + 1) f (W.fnOf name qual params body scope dV kV doc pm an cdv ct) ps sp := by
 refine ⟨len, λ A outer s H args us vs Q E hr e0 hb r hsp => ?_⟩
 have hl := len _ _ _ _ hsp
 have KX : K.In s.heap := e0.mod.kin.keeps λ b o e => (e0.bs b o e).1
 have lim : s.heap.NoLimit := e0.mod.nolimit.keeps λ b o e => (e0.bs b o e).1
 have hkind : ∀ y ∈ ps.zip us, scope.names.lookup y.1 = some .local ∨ (scope.names.lookup y.1 = some .cell /\ ((cellsFrom (s.heap.objs.size + 1) scope.names []).lookup y.1).isSome = true) := λ ⟨n, v⟩ hy => by
  rcases S.par n (List.of_mem_zip hy).1 with q | q
  · exact .inl q
  · exact .inr ⟨q, W.cellsFrom_some _ _ _ (.inl q)⟩
 refine codeAny_call_function hr.depth (KX _ _ lk) rfl S.co S.gen rfl (W.codeRec_of KX hcd) (hb _ _ _ _ ?_)
 refine wpAny_newFunctionEnv_cells S.kind hkind λ env he s1 x => ?_
 subst he
 refine ⟨lim.keeps x.toInCall.keep, codeAny_func ?_⟩
 obtain ⟨t, ht, hq⟩ := hbody A outer s H vs Q E (hr.deeper _) hsp
 have I : Inv (c9 CX cm P w K mg base N qual scope f cdv A outer s H E) [] (start N vs) H s1 := Xo S hr.hd e0 hl r x
 refine wpAny_mono (ht [] s1 (start N vs) H _ I hq) (λ fl s' hs => ?_) λ e s' hs => hs
 have fin : ∀ {σ' : St} {H' : Hp} {v : V} {u : Value}, Inv (c9 CX cm P w K mg base N qual scope f cdv A outer s H E) [] σ' H' s' -> RelV v u -> Q v H' -> CE outer P w H s Q u s' :=
  λ {σ' H' v u} J rv q => ⟨v, H', J.os, J.bare, J.base, J.hok, rv, q⟩
 cases fl with
 |
  ret u =>
  obtain ⟨v, σ', H', J, rv, q⟩ := hs
  exact fin J rv q
 |
  next =>
  obtain ⟨σ', H', J, q⟩ := hs
  exact fin (v := V.non) (u := Value.none) J rfl q
 |
  brk =>
  obtain ⟨_, _, _, q⟩ := hs
  exact False.elim q
 |
  cont =>
  obtain ⟨_, _, _, q⟩ := hs
  exact False.elim q
section
variable {X : Cx} {x : Str} {p pos : Pos} {e : Expr} {es : List Expr} {t : TA} {id T : String} {r : List V -> Hp -> VK -> Prop}
def tCB (r : List V -> Hp -> VK -> Prop) (t : TA) : TE := λ σ H Q => t σ H λ vs H1 => r vs H1 Q
theorem Aj (hc : CallR X (.builtin id) r) (hg : Gl X x) (hm : X.mg x = none) (hv : bootBuiltins x = some (.builtin id)) (ha : PA X (e :: es) t) (hn : x ≠ "__name__" := by decide) (hdb : (x == ("__debug__" : Str)) = false := by decide)
  (he : starEach (e :: es) X.env = (false, eval e X.env) :: starEach es X.env := by rfl) (hpl : (backTo pos (starEach es X.env)).any (·.1) = false := by rfl) : PE X (.Call (.Name x p) (e :: es) [] pos) (tCB r t) := by
 intro pins s σ H Q I h
 refine wpAny_Call_Name_kw (Oe I hg hm hv ?_ hn hdb)
 exact PyProof.Rows.callWith_builtin1 (thn (ha pos pins s σ H _ I h) λ us s1 ⟨vs, H1, I1, r1, q1⟩ => hc pins s1 σ H1 vs us Q I1 r1 q1) he hpl
theorem Df (hc : CallR X (.type T) r) (hg : Gl X x) (hm : X.mg x = none) (hv : bootBuiltins x = some (.type T)) (ha : PA X (e :: es) t) (hn : x ≠ "__name__" := by decide) (hdb : (x == ("__debug__" : Str)) = false := by decide)
  (he : starEach (e :: es) X.env = (false, eval e X.env) :: starEach es X.env := by rfl) (hpl : (backTo pos (starEach es X.env)).any (·.1) = false := by rfl) : PE X (.Call (.Name x p) (e :: es) [] pos) (tCB r t) := by
 intro pins s σ H Q I h
 refine wpAny_Call_Name_kw (Oe I hg hm hv ?_ hn hdb)
 exact PyProof.Rows.callWith_type1 (thn (ha pos pins s σ H _ I h) λ us s1 ⟨vs, H1, I1, r1, q1⟩ => hc pins s1 σ H1 vs us Q I1 r1 q1) he hpl
end
end L2
namespace HT
open PySem PyProof.Rows
section
open PySem.SeqAt
open PySem.AutoSeq1 (wpAny_loadPart')
open PySem.MeetsSeq PySem.MeetsSeq2 PySem.MeetsSeq3
end
section
variable {prog : Program} {w : World} {A : Around} {E : Value -> Shared -> Prop} {s : Shared}
def sIx (n d : Nat) : Option Int -> Nat
 | none => d
 | some v => if v < 0 then (v + (n : Int)).toNat else min v.toNat n
theorem kl (n d : Nat) (hd : d <= n) (o : Option Int) : sIx n d o <= n := by
 cases o with
 | none => exact hd
 |
  some v =>
  show (if v < 0 then (v + (n : Int)).toNat else min v.toNat n) <= n
  by_cases hv : v < 0
  · rw [if_pos hv]; omega
  · rw [if_neg hv]; exact Nat.min_le_right _ _
theorem Z0 (v : Int) (n d : Nat) : (if v < 0 then max (v + (n : Int)) 0 else min v (n : Int)) = ((sIx n d (some v) : Nat) : Int) := by
 show (if v < 0 then max (v + (n : Int)) 0 else min v (n : Int)) = (((if v < 0 then (v + (n : Int)).toNat else min v.toNat n) : Nat) : Int)
 by_cases hv : v < 0
 · simp only [if_pos hv]; omega
 · simp only [if_neg hv]; omega
theorem Wg (lo hi : Option Int) (n : Nat) : Builtin.Slice.sliceAdjust lo hi 1 (n : Int) = (((sIx n 0 lo : Nat) : Int), ((sIx n n hi : Nat) : Int)) := by
 have h1 : ¬ ((1 : Int) < 0) := by omega
 unfold Builtin.Slice.sliceAdjust
 simp only [h1, if_false]
 refine Prod.ext ?_ ?_
 ·
  cases lo with
  | none => rfl
  | some v => exact Z0 v n 0
 ·
  cases hi with
  | none => rfl
  | some v => exact Z0 v n n
theorem Wq (i j : Nat) : Builtin.Slice.slicePlaces (i : Int) (j : Int) 1 = j - i := by
 unfold Builtin.Slice.slicePlaces
 have h1 : (1 : Int) > 0 := by omega
 simp only [h1, if_true, Int.ediv_one]
 split <;> omega
theorem Oo {v : Value} {o : Option Int} {Q : Option Int -> Shared -> Prop} (p : IsPart v o) (h : Q o s) : wpAny (model prog w) A (Builtin.Slice.slicePartIndex v) Q E s := by
 cases p with
 | none => exact slicePart_none h
 | int i t => exact slicePart_int h
theorem Hv {sl : Addr} {vl vu : Value} {lo hi : Option Int} {n : Nat} {Q : Int × Int × Nat -> Shared -> Prop} (hs : s.heap.IsSliceOf sl vl vu .none) (pl : IsPart vl lo) (pu : IsPart vu hi)
  (h : Q (((sIx n 0 lo : Nat) : Int), 1, sIx n n hi - sIx n 0 lo) s) : wpAny (model prog w) A (Builtin.Slice.sliceApplied (.ref sl) (pure (n : Int))) Q E s := by
 obtain ⟨os, hos, hcs, hds⟩ := id hs
 unfold Builtin.Slice.sliceApplied Builtin.Slice.sliceFields
 refine wpAny_bind (wpAny_bind (wpAny_field hos hds (x := vl) rfl (wpAny_bind (wpAny_field hos hds (x := vu) rfl (wpAny_bind (wpAny_field hos hds (x := .none) rfl (wpAny_pure ?_)))))))
 refine wpAny_bind (slicePart_none ?_)
 show wpAny _ _ (if ((1 : Int) == 0) = true then _ else _) _ _ s
 rw [if_neg (by decide)]
 refine wpAny_bind (Oo pl (wpAny_bind (Oo pu (wpAny_bind (wpAny_pure ?_)))))
 show wpAny _ _ (match Builtin.Slice.sliceAdjust lo hi 1 (n : Int) with | (lo, hi) => pure (lo, (1 : Int), Builtin.Slice.slicePlaces lo hi 1)) _ _ s
 rw [Wg lo hi n]
 show wpAny _ _ (pure (((sIx n 0 lo : Nat) : Int), (1 : Int), Builtin.Slice.slicePlaces ((sIx n 0 lo : Nat) : Int) ((sIx n n hi : Nat) : Int) 1)) _ _ s
 rw [Wq]
 exact wpAny_pure h
theorem cg (xs : Array Value) (i k : Nat) : ((List.range k).filterMap λ (m : Nat) => xs[((i : Int) + (m : Int) * 1).toNat]?).toArray = ((xs.toList.drop i).take k).toArray := by
 have e : (λ (m : Nat) => xs[((i : Int) + (m : Int) * 1).toNat]?) = λ m => xs[i + m]? := by
  funext m
  have : ((i : Int) + (m : Int) * 1).toNat = i + m := by omega
  rw [this]
 rw [e]
 have := pick_run xs i k
 rw [List.filterMap_map] at this
 have e2 : ((λ x => xs[x]?) ∘ λ x => i + x) = λ m => xs[i + m]? := rfl
 rw [e2] at this
 rw [this]
theorem K1 {t sl : Addr} {items : Array Value} {vl vu : Value} {lo hi : Option Int} {Q : Value -> Shared -> Prop} (ht : IsTup s.heap t items) (hs : s.heap.IsSliceOf sl vl vu .none) (pl : IsPart vl lo) (pu : IsPart vu hi)
  (hw : ¬ (sIx items.size 0 lo = 0 /\ sIx items.size items.size hi = items.size))
  (h : Q (.ref s.heap.objs.size) { s with heap := s.heap.push { cls := .type "tuple", data := .seq ((items.toList.drop (sIx items.size 0 lo)).take (sIx items.size items.size hi - sIx items.size 0 lo)).toArray } })
  (hsz : items.size <= sizeLine) : wpAny (model prog w) A (getItem (.ref t) (.ref sl)) Q E s := by
 have htake : sizeOk (.seq ((items.toList.drop (sIx items.size 0 lo)).take (sIx items.size items.size hi - sIx items.size 0 lo)).toArray) := by
  show ((items.toList.drop (sIx items.size 0 lo)).take (sIx items.size items.size hi - sIx items.size 0 lo)).toArray.size <= sizeLine
  rw [List.size_toArray, List.length_take, List.length_drop, Array.length_toList]
  omega
 have hj : sIx items.size items.size hi <= items.size := kl _ _ (Nat.le_refl _) hi
 obtain ⟨os, hos, hcs, hds⟩ := id hs
 have hTs : s.TypeIs (.ref sl) "slice" := ⟨os, hos, hcs⟩
 unfold getItem
 try with_reducible refine wpAny_holding ?_
 first | refine wpAny_bind (wpAny_pure ?_) | skip
 refine wpAny_bind (wpAny_sequenceKey ht.typeIs (by decide) ?_)
 refine wpAny_bind (wpAny_callSpecial?_slot (name := Str.ofString "__getitem__") ht.typeIs PyProof.Rows.slot_tuple_getitem
  (wpAny_call_entry PyProof.Rows.slot_tuple_getitem ht.typeIs entry_tuple_getitem ?_ (args_tuple_getitem _ _)))
 show wpAny _ _ (Builtin.Tuple.tupleItemsOf (.ref t) >>= _) _ _ s
 refine wpAny_bind (tupleItemsOf_ ht ?_)
 refine wpAny_bind (wpAny_typeOf hTs ?_)
 rw [if_pos (by decide)]
 refine wpAny_bind (Hv hs pl pu ?_)
 have hno : ¬ ((((sIx items.size 0 lo : Nat) : Int) == 0 && (1 : Int) == 1 && (sIx items.size items.size hi - sIx items.size 0 lo) == items.size) = true) := by
  intro q
  rw [Bool.and_eq_true, Bool.and_eq_true] at q
  have q1 : ((sIx items.size 0 lo : Nat) : Int) = 0 := eq_of_beq q.1.1
  have q2 : sIx items.size items.size hi - sIx items.size 0 lo = items.size := eq_of_beq q.2
  exact hw ⟨by omega, by omega⟩
 show wpAny _ _ (if (((sIx items.size 0 lo : Nat) : Int) == 0 && (1 : Int) == 1 && (sIx items.size items.size hi - sIx items.size 0 lo) == items.size) = true then _ else _) _ _ s
 rw [if_neg hno, cg]
 first
  | exact wpAny_bind (m := Builtin.Tuple.tupleExact _) (wpAny_newObj_type (wpAny_pure ⟨_, rfl, wpAny_pure h⟩) htake)
  | exact wpAny_bind (m := Builtin.Tuple.tupleExact _) (wpAny_newObj_type (wpAny_bind (wpAny_pure (wpAny_pure ⟨_, rfl, wpAny_pure h⟩))) htake)
  | exact wpAny_bind (wpAny_bind (m := Builtin.Tuple.tupleExact _) (wpAny_newObj_type (wpAny_pure (wpAny_pure ⟨_, rfl, wpAny_pure h⟩)) htake))
  | exact wpAny_bind (wpAny_bind (m := Builtin.Tuple.tupleExact _) (wpAny_newObj_type (wpAny_pure ⟨_, rfl, wpAny_pure h⟩) htake))
end
end HT
namespace L2
open PySem PySem.Spec PyProof.Rows
abbrev TO := St -> Hp -> (Option Int -> Hp -> Prop) -> Prop
def PO (X : Cx) (e : Option Expr) (t : TO) : Prop :=
 ∀ (pins : List (Addr × Obj)) (s : Shared) (σ : St) (H : Hp) (Q : Option Int -> Hp -> Prop), Inv X pins σ H s -> t σ H Q ->
  wpAny (model X.prog X.w) X.A (evalPart e X.env) (λ u s' => ∃ o H', Inv X pins σ H' s' /\ IsPart u o /\ Q o H') X.xe s
def i4 : TO := λ _ H Q => Q none H
def si (t : TE) : TO := λ σ H Q => t σ H λ x H1 => ∃ i, x = .int i /\ Q (some i) H1
theorem intsAre_of {ns : List Int} : ∀ {us : List Value}, Vals (ns.map V.int) us -> IntsAre us ns := by
 induction ns with
 | nil => intro us r; rw [List.map_nil] at r; cases r; exact .nil
 |
  cons n ns ih =>
  intro us r
  rw [List.map_cons] at r
  cases r with
  |
   cons r1 r2 =>
   obtain ⟨t, e⟩ := r1
   subst e
   exact .cons n t (ih r2)
section
variable {X : Cx} {e : Expr} {te : TE} {lo hi : Option Expr} {tl th : TO} {pos p2 : Pos}
theorem X1 : PO X none i4 := by
 intro pins s σ H Q I h
 rw [evalPart_none]
 exact wpAny_pure ⟨none, H, I, .none, h⟩
theorem F3 (h : PE X e te) : PO X (some e) (si te) := by
 intro pins s σ H Q I hw
 rw [evalPart_some]
 refine thn (h pins s σ H _ I hw) λ u s1 ⟨x, H1, I1, r1, q1⟩ => ?_
 obtain ⟨i, rfl, q⟩ := q1
 obtain ⟨t, rfl⟩ := r1
 exact ⟨some i, H1, I1, .int i t, q⟩
def SlR (X : Cx) (r : V -> Option Int -> Option Int -> Hp -> VK -> Prop) : Prop :=
 ∀ (pins : List (Addr × Obj)) (s : Shared) (σ : St) (H : Hp) (x : V) (v vl vu : Value) (lo hi : Option Int) (sl : Addr) (Q : VK), Inv X pins σ H s -> RelV x v -> s.heap.IsSliceOf sl vl vu .none -> IsPart vl lo -> IsPart vu hi -> r x lo hi H Q ->
  ∃ T id, typeLookup (.type T) "__getitem__" = pure (some (.builtin id)) /\ s.TypeIs v T /\ wpAny (model X.prog X.w) X.A (getItem v (.ref sl)) (EP X pins σ Q) X.xe s
theorem SlR.or {r r' : V -> Option Int -> Option Int -> Hp -> VK -> Prop} (h : SlR X r) (h' : SlR X r') : SlR X (λ x lo hi H Q => r x lo hi H Q ∨ r' x lo hi H Q) := by
 intro pins s σ H x v vl vu lo hi sl Q I rx hs pl pu q
 rcases q with q | q
 · exact h pins s σ H x v vl vu lo hi sl Q I rx hs pl pu q
 · exact h' pins s σ H x v vl vu lo hi sl Q I rx hs pl pu q
def tSl (r : V -> Option Int -> Option Int -> Hp -> VK -> Prop) (te : TE) (tl th : TO) : TE := λ σ H Q => te σ H λ x H1 => tl σ H1 λ l H2 => th σ H2 λ u H3 => r x l u H3 Q
theorem Iy {r : V -> Option Int -> Option Int -> Hp -> VK -> Prop} (hr : SlR X r) (he : PE X e te) (hl : PO X lo tl) (hu : PO X hi th) : PE X (.Subscript e (.Slice lo hi none p2) pos) (tSl r te tl th) := by
 intro pins s σ H Q I h
 refine Subscript_ (thn (he pins s σ H _ I h) λ v s1 ⟨x, H1, I1, r1, q1⟩ => ?_)
 refine wpAny_Slice (thn (hl pins s1 σ H1 _ I1 q1) λ vl s2 ⟨l, H2, I2, pl, q2⟩ => thn (hu pins s2 σ H2 _ I2 q2) λ vu s3 ⟨u, H3, I3, pu, q3⟩ => ?_)
 rw [evalPart_none]
 refine wpAny_pure ?_
 have I4 : Inv X pins σ H3 { s3 with heap := s3.heap.push { cls := .type "slice", data := .fields #[vl, vu, .none] } } := I3.kept (t' := s3.toks) λ b ob q => Heap.get?_push_of_some _ q
 obtain ⟨T, id, hT, ht, hg⟩ := hr pins { s3 with heap := s3.heap.push { cls := .type "slice", data := .fields #[vl, vu, .none] } } σ H3 x v vl vu l u s3.heap.objs.size Q I4 r1 (Heap.IsSliceOf.new ..) pl pu q3
 show wpAny (model X.prog X.w) X.A (subscriptTail e (.Slice lo hi none p2) v (.ref s3.heap.objs.size)) (EP X pins σ Q) X.xe { s3 with heap := s3.heap.push { cls := .type "slice", data := .fields #[vl, vu, .none] } }
 exact tail_any (ops := [.ref s3.heap.objs.size, v]) ht hT hg (by with_unfolding_all rfl)
def Wx (xs : List V) (lo hi : Option Int) : List V := (xs.drop (HT.sIx xs.length 0 lo)).take (HT.sIx xs.length xs.length hi - HT.sIx xs.length 0 lo)
theorem Ms (xs : List V) (lo hi : Option Int) : (Wx xs lo hi).length <= xs.length := by
 unfold Wx
 rw [List.length_take, List.length_drop]
 omega
def vp (K : W.Frag) : V -> Option Int -> Option Int -> Hp -> VK -> Prop := λ x lo hi H Q => ∃ a xs, x = .ref a /\ SqT K H a xs /\
 ¬ (HT.sIx xs.length 0 lo = 0 /\ HT.sIx xs.length xs.length hi = xs.length) /\ ∀ p, H p = none -> Q (.ref p) (upd H p (.tup (Wx xs lo hi)))
theorem l7 : SlR X (vp X.K) := by
 intro pins s σ H x v vl vu lo hi sl Q I rx hs pl pu h
 obtain ⟨a, xs, rfl, hx, hw, q⟩ := h
 cases rx
 obtain ⟨its, r, ht, hz⟩ := I.tuple hx
 have hlen : its.toArray.size = xs.length := by rw [List.size_toArray]; exact r.length.symm
 refine ⟨"tuple", _, PyProof.Rows.slot_tuple_getitem.lookup, ht.typeIs, ?_⟩
 refine HT.K1 ht hs pl pu (by rw [hlen]; exact hw) ?_ (by rw [hlen]; exact hz)
 rw [hlen]
 refine ⟨.ref s.heap.objs.size, _, I.laid (t' := s.toks) (o := .tup (Wx xs lo hi)) (λ b ob q => Heap.get?_push_of_some _ q) (Nat.le_refl _) ?_, rfl, q _ (I.hok.fresh (Nat.le_refl _))⟩
 exact ⟨Nat.le_trans (Ms xs lo hi) hz, _, (r.drop (HT.sIx xs.length 0 lo)).take (HT.sIx xs.length xs.length hi - HT.sIx xs.length 0 lo), IsTup.new _ _⟩
end
def ixN (n : Nat) (i : Int) : Option Nat := if 0 <= i then (if i < n then some i.toNat else none) else if -(n : Int) <= i then some (i + n).toNat else none
def atI {α : Type} (xs : List α) (i : Int) : Option α := (ixN xs.length i).bind λ j => xs[j]?
theorem gr {n : Nat} {i : Int} {j : Nat} (h : ixN n i = some j) : seqIndex? i n = some j /\ j < n /\ -(n : Int) <= i /\ i < n := by
 unfold ixN at h
 by_cases h0 : 0 <= i
 ·
  rw [if_pos h0] at h
  by_cases h1 : i < n
  ·
   rw [if_pos h1] at h
   have e : i.toNat = j := Option.some.inj h
   exact ⟨by rw [seqIndex_of h0 h1, e], by omega, by omega, h1⟩
  · rw [if_neg h1] at h; cases h
 ·
  rw [if_neg h0] at h
  by_cases h1 : -(n : Int) <= i
  ·
   rw [if_pos h1] at h
   have e : (i + n).toNat = j := Option.some.inj h
   exact ⟨by rw [seqIndex_neg (by omega) h1, e], by omega, h1, by omega⟩
  · rw [if_neg h1] at h; cases h
theorem T7 {α : Type} {xs : List α} {i : Int} {v : α} (h : atI xs i = some v) : ∃ j, seqIndex? i xs.length = some j /\ xs[j]? = some v /\ j < xs.length /\ -(xs.length : Int) <= i /\ i < xs.length := by
 unfold atI at h
 cases e : ixN xs.length i with
 | none => rw [e] at h; cases h
 |
  some j =>
  rw [e] at h
  obtain ⟨h1, h2, h3, h4⟩ := gr e
  exact ⟨j, h1, h, h2, h3, h4⟩
theorem Bb {α : Type} {xs : List α} {j : Nat} {v : α} (h : xs[j]? = some v) : atI xs (j : Int) = some v := by
 have hj : j < xs.length := (List.getElem?_eq_some_iff.mp h).1
 have e : ixN xs.length (j : Int) = some j := by
  unfold ixN
  rw [if_pos (by omega), if_pos (by omega)]; simp
 unfold atI; rw [e]; exact h
theorem bg {α : Type} (xs : List α) (v : α) : atI (xs ++ [v]) (-1) = some v := by
 have hl : (xs ++ [v]).length = xs.length + 1 := by simp
 have e : ixN (xs ++ [v]).length (-1) = some xs.length := by
  unfold ixN
  rw [hl, if_neg (by decide), if_pos (by omega)]
  congr 1
  omega
 unfold atI
 rw [e]
 show (xs ++ [v])[xs.length]? = some v
 simp
def Tr (b : Expr) : Prop := ∀ o i, subscripted b false o i = operate [o, i] (getItem o i)
def IxR (X : Cx) (r : R2) : Prop :=
 ∀ (value slice : Expr) (pins : List (Addr × Obj)) (s : Shared) (σ : St) (H : Hp) (x y : V) (v u : Value) (Q : VK), Inv X pins σ H s -> RelV x v -> RelV y u -> r x y H Q ->
  subscripted slice false v u = operate [v, u] (getItem v u) -> wpAny (model X.prog X.w) X.A (subscriptTail value slice v u) (EP X pins σ Q) X.xe s
def MtR (X : Cx) (id : String) (r : V -> List V -> Hp -> VK -> Prop) : Prop :=
 ∀ (pins : List (Addr × Obj)) (s : Shared) (σ : St) (H : Hp) (x : V) (xs : List V) (v : Value) (us : List Value) (Q : VK), Inv X pins σ H s -> RelV x v -> Vals xs us -> r x xs H Q ->
  wpAny (model X.prog X.w) X.A (call (.builtin id) (v :: us)) (EP X pins σ Q) X.xe s
section
variable {X : Cx} {a b : Expr} {ta tb : TE} {pos : Pos}
theorem IxR.or {r r' : R2} (h : IxR X r) (h' : IxR X r') : IxR X (λ x y H Q => r x y H Q ∨ r' x y H Q) := by
 intro value slice pins s σ H x y v u Q I rx ry q hs
 rcases q with q | q
 · exact h value slice pins s σ H x y v u Q I rx ry q hs
 · exact h' value slice pins s σ H x y v u Q I rx ry q hs
theorem MtR.or {id : String} {r r' : V -> List V -> Hp -> VK -> Prop} (h : MtR X id r) (h' : MtR X id r') : MtR X id (λ x xs H Q => r x xs H Q ∨ r' x xs H Q) := by
 intro pins s σ H x xs v us Q I rx rs q
 rcases q with q | q
 · exact h pins s σ H x xs v us Q I rx rs q
 · exact h' pins s σ H x xs v us Q I rx rs q
theorem Ap {r : R2} (hr : IxR X r) (ha : PE X a ta) (hb : PE X b tb) (hs : Tr b) : PE X (.Subscript a b pos) (tOp r ta tb) := by
 intro pins s σ H Q I h
 exact Subscript_ (p8 ha hb I h λ v u s2 x y H2 I2 rx ry q => hr a b pins s2 σ H2 x y v u Q I2 rx ry q (hs _ _))
def qd (K : W.Frag) : R2 := λ x y H Q => ∃ p xs i v, x = .ref p /\ y = .int i /\ SqL K H p xs /\ atI xs i = some v /\ Q v H
def pw (K : W.Frag) : R2 := λ x y H Q => ∃ p xs i v, x = .ref p /\ y = .int i /\ SqT K H p xs /\ atI xs i = some v /\ Q v H
def ug : R2 := λ x y H Q => ∃ z i c, x = .str z /\ y = .int i /\ z.length <= sizeLine /\ atI z.cps.toList i = some c /\ Q (.str ⟨#[c]⟩) H
theorem Yz : IxR X (qd X.K) := by
 intro value slice pins s σ H x y v u Q I rx ry h hs
 obtain ⟨p, xs, i, z, rfl, rfl, hq, he, q⟩ := h
 cases rx
 obtain ⟨t, rfl⟩ := ry
 obtain ⟨its, r, pl, hz⟩ := I.list hq
 obtain ⟨j, h1, h2, h3, h4, h5⟩ := T7 he
 obtain ⟨w, ew, rw'⟩ := r.get h2
 have hl := r.length
 have hn := O1
 have fin : EP X pins σ Q w s := ⟨z, H, I, rw', q⟩
 by_cases h0 : 0 <= i
 ·
  have hj : i.toNat = j := by
   rw [seqIndex_of h0 h5] at h1
   exact Option.some.inj h1
  exact item_listR pl.isList h0 (by omega) (by rw [hj]; simpa using ew) fin hs
 ·
  have hj : (i + (its.toArray.size : Int)).toNat = j := by
   rw [seqIndex_neg (by omega) h4] at h1
   rw [List.size_toArray, ← hl]
   exact Option.some.inj h1
  exact subscriptTail_builtinR (x := w) pl.isList.typeIs slot_list_getitem.lookup
   (wpAny_getItem_list_neg (Q := λ r s' => r = w /\ EP X pins σ Q r s') pl.isList (by omega) (by rw [List.size_toArray] <;> omega) (by omega) (by rw [hj]; simpa using ew) ⟨rfl, fin⟩) hs
theorem dv : IxR X (pw X.K) := by
 intro value slice pins s σ H x y v u Q I rx ry h hs
 obtain ⟨p, xs, i, z, rfl, rfl, hq, he, q⟩ := h
 cases rx
 obtain ⟨t, rfl⟩ := ry
 obtain ⟨its, r, pl, hz⟩ := I.tuple hq
 obtain ⟨j, h1, h2, h3, h4, h5⟩ := T7 he
 obtain ⟨w, ew, rw'⟩ := r.get h2
 have hl := r.length
 have hn := O1
 have fin : EP X pins σ Q w s := ⟨z, H, I, rw', q⟩
 exact subscriptTail_builtinR (x := w) pl.typeIs slot_tuple_getitem.lookup
  (getItem_tuple (j := j) (Q := λ r s' => r = w /\ EP X pins σ Q r s') pl (by omega) (by omega) (by rw [List.size_toArray, ← hl]; exact h1) (by simpa using ew) ⟨rfl, fin⟩) hs
theorem Vx : IxR X ug := by
 intro value slice pins s σ H x y v u Q I rx ry h hs
 obtain ⟨z, i, c, rfl, rfl, hz, he, q⟩ := h
 obtain ⟨t, rfl⟩ := rx
 obtain ⟨t', rfl⟩ := ry
 obtain ⟨j, h1, h2, h3, h4, h5⟩ := T7 he
 have hl : z.cps.toList.length = z.length := by simp [Str.length]
 rw [hl] at h1 h4 h5
 have hn := O1
 exact tail_any (typeIs_str s z t) slot_str_getitem.lookup (getItem_str (c := c) (by
  have e1 : decide (i < -(2 ^ 63 : Int)) = false := decide_eq_false (by omega)
  have e2 : decide (i ≥ 2 ^ 63) = false := decide_eq_false (by omega)
  rw [e1, e2, Bool.or_false]) (by rw [h1]; simpa using h2) ⟨.str ⟨#[c]⟩, H, I.tok _, ⟨_, rfl⟩, q⟩) hs
def rIx (K : W.Frag) : R2 := λ x y H Q => qd K x y H Q ∨ pw K x y H Q ∨ ug x y H Q
theorem kh : IxR X (rIx X.K) := Yz.or (dv.or Vx)
theorem Inv.lst {pins : List (Addr × Obj)} {σ : St} {H : Hp} {s : Shared} {p : Addr} {xs : List V} (I : Inv X pins σ H s) (h : H p = some (.lst xs)) :
  ∃ (its : List Value) (n : Nat), Vals xs its /\ s.heap.get? p = some { cls := .type "list", data := .seq its.toArray n } /\ xs.length <= sizeLine := by
 obtain ⟨z, its, n, r, e⟩ := I.hok p _ h
 exact ⟨its, n, r, e, z⟩
theorem Ss (lo hi : Option Int) (n : Nat) : (sliceBounds lo hi none n).1 = ((HT.sIx n 0 lo : Nat) : Int) /\ (sliceBounds lo hi none n).2.1 = ((HT.sIx n n hi : Nat) : Int) /\ (sliceBounds lo hi none n).2.2 = 1 := by
 refine ⟨?_, ?_, rfl⟩
 ·
  cases lo with
  | none => simp [sliceBounds, HT.sIx]
  |
   some i =>
   simp only [sliceBounds, HT.sIx, Option.getD_none, show (1 : Int) > 0 by decide, if_true]
   by_cases h : i < 0
   · simp only [h, if_true] <;> omega
   · simp only [h, if_false] <;> omega
 ·
  cases hi with
  | none => simp [sliceBounds, HT.sIx]
  |
   some i =>
   simp only [sliceBounds, HT.sIx, Option.getD_none, show (1 : Int) > 0 by decide, if_true]
   by_cases h : i < 0
   · simp only [h, if_true] <;> omega
   · simp only [h, if_false] <;> omega
theorem Pz (its : List Value) (lo hi : Option Int) : slicePick its.toArray lo hi none = ((its.drop (HT.sIx its.length 0 lo)).take (HT.sIx its.length its.length hi - HT.sIx its.length 0 lo)).toArray := by
 obtain ⟨h1, h2, h3⟩ := Ss lo hi its.toArray.size
 unfold slicePick
 rw [h1, h2, h3]
 simp only [sliceRange_one, pick_run, List.size_toArray] <;> rfl
def uo (K : W.Frag) : V -> Option Int -> Option Int -> Hp -> VK -> Prop := λ x lo hi H Q => ∃ a xs, x = .ref a /\ SqL K H a xs /\ ∀ p, H p = none -> Q (.ref p) (upd H p (.lst (Wx xs lo hi)))
theorem i5 : SlR X (uo X.K) := by
 intro pins s σ H x v vl vu lo hi sl Q I rx hs pl pu h
 obtain ⟨a, xs, rfl, hx, q⟩ := h
 cases rx
 obtain ⟨its, r, ht, hz⟩ := I.list hx
 have hlen := r.length
 refine ⟨"list", _, slot_list_getitem.lookup, ht.isList.typeIs, ?_⟩
 refine wpAny_getItem_list_slice ht.isList hs pl pu .none (by simp) ?_ (by rw [List.size_toArray] <;> omega)
 rw [Pz, ← hlen]
 refine ⟨.ref s.heap.objs.size, _, I.laid (t' := s.toks) (o := .lst (Wx xs lo hi)) (λ b ob q => Heap.get?_push_of_some _ q) (Nat.le_refl _) ?_, rfl, q _ (I.hok.fresh (Nat.le_refl _))⟩
 exact ⟨Nat.le_trans (Ms xs lo hi) hz, _, 0, (r.drop (HT.sIx xs.length 0 lo)).take (HT.sIx xs.length xs.length hi - HT.sIx xs.length 0 lo), Heap.get?_push_size _ rfl⟩
def Qi : V -> Bool
 | .non => true
 | .bl _ => true
 | .int _ => true
 | .str _ => true
 | _ => false
def eqV : V -> V -> Bool
 | .non, .non => true
 | .bl a, .bl b => a == b
 | .bl a, .int b => (if a then 1 else 0) == b
 | .int a, .bl b => a == (if b then 1 else 0)
 | .int a, .int b => a == b
 | .str a, .str b => a == b
 | _, _ => false
theorem nj {A : Around} {s : Shared} {y x : V} {u v : Value} (ry : RelV y u) (rx : RelV x v) (fy : Qi y = true) (fx : Qi x = true) : SeqAt.EqAt A s u v (eqV y x) := by
 cases y with
 |
  non =>
  cases ry
  cases x with
  | non => cases rx; exact SeqAt.EqAt.same _
  | bl b => cases rx; exact SeqAt.EqAt.none_bool b
  | int b => obtain ⟨t, rfl⟩ := rx; exact SeqAt.EqAt.none_int b t
  | str b => obtain ⟨t, rfl⟩ := rx; exact SeqAt.EqAt.none_str b t
  | _ => exact absurd (show false = true from fx) Bool.false_ne_true
 |
  bl a =>
  cases ry
  cases x with
  | non => cases rx; exact SeqAt.EqAt.bool_none a
  | bl b => cases rx; exact SeqAt.EqAt.bool_bool a b
  | int b => obtain ⟨t, rfl⟩ := rx; exact SeqAt.EqAt.bool_int a b t
  | str b => obtain ⟨t, rfl⟩ := rx; exact SeqAt.EqAt.bool_str a b t
  | _ => exact absurd (show false = true from fx) Bool.false_ne_true
 |
  int a =>
  obtain ⟨t', rfl⟩ := ry
  cases x with
  | non => cases rx; exact SeqAt.EqAt.int_none a t'
  | bl b => cases rx; exact SeqAt.EqAt.int_bool a t' b
  | int b => obtain ⟨t, rfl⟩ := rx; exact SeqAt.EqAt.int_int a t' b t
  | str b => obtain ⟨t, rfl⟩ := rx; exact SeqAt.EqAt.int_str a t' b t
  | _ => exact absurd (show false = true from fx) Bool.false_ne_true
 |
  str a =>
  obtain ⟨t', rfl⟩ := ry
  cases x with
  | non => cases rx; exact SeqAt.EqAt.str_none a t'
  | bl b => cases rx; exact SeqAt.EqAt.str_bool a t' b
  | int b => obtain ⟨t, rfl⟩ := rx; exact SeqAt.EqAt.str_int a t' b t
  | str b => obtain ⟨t, rfl⟩ := rx; exact SeqAt.EqAt.str_str a t' b t
  | _ => exact absurd (show false = true from fx) Bool.false_ne_true
 | _ => exact absurd (show false = true from fy) Bool.false_ne_true
def eqU (x : V) (u : Value) : Bool := match u with
 | .none => eqV .non x
 | .bool b => eqV (.bl b) x
 | .int i _ => eqV (.int i) x
 | .str z _ => eqV (.str z) x
 | _ => false
theorem fc {x y : V} {u : Value} (r : RelV y u) (f : Qi y = true) : eqU x u = eqV y x := by
 cases y with
 | non => cases r; rfl
 | bl b => cases r; rfl
 | int i => obtain ⟨t, rfl⟩ := r; rfl
 | str z => obtain ⟨t, rfl⟩ := r; rfl
 | _ => exact absurd (show false = true from f) Bool.false_ne_true
theorem Mz {x : V} : ∀ {xs : List V} {us : List Value}, Vals xs us -> xs.all Qi = true -> us.any (eqU x) = xs.any λ y => eqV y x
 | _, _, .nil, _ => rfl
 |
  y :: xs, u :: us, .cons r t, f => by
  rw [List.all_cons, Bool.and_eq_true] at f
  rw [List.any_cons, List.any_cons, fc r f.1, Mz t f.2]
theorem Kg {A : Around} {s : Shared} {x : V} {v : Value} (rx : RelV x v) (fx : Qi x = true) : ∀ {xs : List V} {us : List Value}, Vals xs us -> xs.all Qi = true -> ∀ u ∈ us, SeqAt.EqAt A s u v (eqU x u)
 | _, _, .nil, _ => λ u hu => by cases hu
 |
  y :: xs, u :: us, .cons r t, f => λ u' hu => by
  rw [List.all_cons, Bool.and_eq_true] at f
  rcases List.mem_cons.mp hu with rfl | hu
  · rw [fc r f.1]; exact nj r rx f.1 fx
  · exact Kg rx fx t f.2 u' hu
def inV (x : V) (xs : List V) : Bool := xs.any λ y => eqV y x
def rIn (K : W.Frag) (neg : Bool) : R2 := λ x y H Q => ∃ p xs, y = .ref p /\ (SqL K H p xs ∨ SqT K H p xs) /\ Qi x = true /\ xs.all Qi = true /\ Q (.bl (if neg then !inV x xs else inV x xs)) H
theorem Y6 : OpR X (compareOp .In) (rIn X.K false) := by
 intro pins s σ H x y v u Q I rx ry h
 obtain ⟨p, xs, rfl, hq, fx, fs, q⟩ := h
 cases ry
 rcases hq with hq | hq
 ·
  obtain ⟨its, r, pl, hz⟩ := I.list hq
  refine SeqAt.in_listAt (eqU x) pl.isList (λ w hw => Kg rx fx r fs w (by simpa using hw)) ⟨.bl _, H, I, rfl, ?_⟩
  rw [show its.toArray.any (eqU x) = its.any (eqU x) by simp, Mz r fs]
  exact q
 ·
  obtain ⟨its, r, pl, hz⟩ := I.tuple hq
  refine SeqAt.in_tupleAt (eqU x) pl (λ w hw => Kg rx fx r fs w (by simpa using hw)) ⟨.bl _, H, I, rfl, ?_⟩
  rw [show its.toArray.any (eqU x) = its.any (eqU x) by simp, Mz r fs]
  exact q
theorem Sz : OpR X (compareOp .NotIn) (rIn X.K true) := by
 intro pins s σ H x y v u Q I rx ry h
 obtain ⟨p, xs, rfl, hq, fx, fs, q⟩ := h
 cases ry
 rcases hq with hq | hq
 ·
  obtain ⟨its, r, pl, hz⟩ := I.list hq
  refine SeqAt.notIn_listAt (eqU x) pl.isList (λ w hw => Kg rx fx r fs w (by simpa using hw)) ⟨.bl _, H, I, rfl, ?_⟩
  rw [show its.toArray.any (eqU x) = its.any (eqU x) by simp, Mz r fs]
  exact q
 ·
  obtain ⟨its, r, pl, hz⟩ := I.tuple hq
  refine SeqAt.notIn_tupleAt (eqU x) pl (λ w hw => Kg rx fx r fs w (by simpa using hw)) ⟨.bl _, H, I, rfl, ?_⟩
  rw [show its.toArray.any (eqU x) = its.any (eqU x) by simp, Mz r fs]
  exact q
theorem Rz : CallR X (.builtin "len") (λ xs H Q => ∃ p ys, xs = [.ref p] /\ (SqL X.K H p ys ∨ SqT X.K H p ys) /\ Q (.int ys.length) H) := by
 intro pins s σ H xs us Q I r h
 obtain ⟨p, ys, rfl, hq, q⟩ := h
 obtain ⟨u, rfl, rx⟩ := vals1 r
 cases rx
 have hn := O1
 rcases hq with hq | hq
 ·
  obtain ⟨its, r', pl, hz⟩ := I.list hq
  have hlen := r'.length
  exact Calls.call_len_list pl.isList (by simp only [List.size_toArray] <;> omega) ⟨.int ys.length, H, I.tok _, ⟨s.toks + 1, by rw [List.size_toArray, hlen]⟩, q⟩
 ·
  obtain ⟨its, r', pl, hz⟩ := I.tuple hq
  have hlen := r'.length
  exact len_tuple pl (by simp only [List.size_toArray] <;> omega) ⟨.int ys.length, H, I.tok _, ⟨s.toks + 1, by rw [List.size_toArray, hlen]⟩, q⟩
theorem Lo : CallR X (.builtin "len") (λ xs H Q => ∃ z, xs = [.str z] /\ z.length <= sizeLine /\ Q (.int z.length) H) := by
 intro pins s σ H xs us Q I r h
 obtain ⟨z, rfl, hz, q⟩ := h
 obtain ⟨u, rfl, t, rfl⟩ := vals1 r
 have hn := O1
 exact len_str (by omega) ⟨.int z.length, H, I.tok _, ⟨_, rfl⟩, q⟩
theorem CallR.or {f : Value} {r r' : List V -> Hp -> VK -> Prop} (h : CallR X f r) (h' : CallR X f r') : CallR X f (λ xs H Q => r xs H Q ∨ r' xs H Q) := by
 intro pins s σ H xs us Q I rs q
 rcases q with q | q
 · exact h pins s σ H xs us Q I rs q
 · exact h' pins s σ H xs us Q I rs q
theorem Qf : CallR X (.type "tuple") (λ xs H Q => ∃ p ys, xs = [.ref p] /\ ((SqL X.K H p ys /\ ∀ l, H l = none -> Q (.ref l) (upd H l (.tup ys))) ∨ (SqT X.K H p ys /\ Q (.ref p) H))) := by
 intro pins s σ H xs us Q I r h
 obtain ⟨p, ys, rfl, h⟩ := h
 obtain ⟨u, rfl, rx⟩ := vals1 r
 cases rx
 rcases h with ⟨hq, q⟩ | ⟨hq, q⟩
 ·
  obtain ⟨its, r', pl, hz⟩ := I.list hq
  have hlen := r'.length
  refine call_tuple_list pl.isList (λ h' kp => ?_) (by simp only [List.size_toArray] <;> omega)
  have I1 : Inv X pins σ H { s with heap := h' } := I.kept (t' := s.toks) kp
  have I2 : Inv X pins σ (upd H h'.objs.size (.tup ys)) { s with heap := h'.push { cls := .type "tuple", data := .seq its.toArray } } :=
   I1.laid (t' := s.toks) (λ b o e => Heap.get?_push_of_some _ e) (Nat.le_refl _) (show ObjOk X.prog X.w _ _ _ (.tup ys) from ⟨hz, its, r', IsTup.new _ _⟩)
  exact ⟨.ref h'.objs.size, _, I2, rfl, q _ (I1.hok.fresh (Nat.le_refl _))⟩
 ·
  obtain ⟨its, r', pl, hz⟩ := I.tuple hq
  exact call_tuple_same pl ⟨.ref p, H, I, rfl, q⟩
def tyV (K : W.Frag) (T : String) (x : V) (H : Hp) : Prop := match x with
 | .str _ => T = "str"
 | .int _ => T = "int"
 | .ref p => (T = "list" /\ ∃ xs, SqL K H p xs) ∨ (T = "tuple" /\ ∃ o, K.lookup p = some o /\ o.cls = .type "tuple" /\ o.dict = none) ∨
  (T = "dict" /\ ((∃ kvs, H p = some (.dK kvs)) ∨ ∃ kvs, H p = some (.dT kvs))) ∨ (T = "set" /\ ∃ S n, H p = some (.set S n))
 | _ => False
theorem mr {pins : List (Addr × Obj)} {σ : St} {H : Hp} {s : Shared} {T : String} {x : V} {v : Value} (I : Inv X pins σ H s) (r : RelV x v) (ty : tyV X.K T x H) :
  s.TypeIs v T /\ ∀ a, v = .ref a -> ∃ ob, s.heap.get? a = some ob /\ ob.dict = none := by
 cases x with
 |
  str z =>
  obtain ⟨t, rfl⟩ := r
  cases (show T = "str" from ty)
  exact ⟨typeIs_str s z t, λ _ e => nomatch e⟩
 |
  int i =>
  obtain ⟨t, rfl⟩ := r
  cases (show T = "int" from ty)
  exact ⟨typeIs_int s i t, λ _ e => nomatch e⟩
 |
  ref p =>
  cases r
  rcases ty with ⟨rfl, xs, hq⟩ | ⟨rfl, o, hk, hc, hd⟩ | ⟨rfl, hk⟩ | ⟨rfl, S, n, hk⟩
  ·
   obtain ⟨its, _, pl, _⟩ := I.list hq
   refine ⟨pl.isList.typeIs, λ a e => ?_⟩
   cases e
   obtain ⟨o, n, e, c, hd, _⟩ := pl
   exact ⟨o, e, hd⟩
  ·
   refine ⟨⟨o, I.kIn p o hk, hc⟩, λ a e => ?_⟩
   cases e
   exact ⟨o, I.kIn _ o hk, hd⟩
  ·
   have z : ∃ o, s.heap.get? p = some o /\ o.ExactDict := by
    rcases hk with ⟨kvs, hk⟩ | ⟨kvs, hk⟩
    ·
     obtain ⟨_, _, _, _, o, _, _, e, ex, _⟩ := I.hok p _ hk
     exact ⟨o, e, ex⟩
    ·
     obtain ⟨_, _, _, _, o, _, _, e, ex, _⟩ := I.hok p _ hk
     exact ⟨o, e, ex⟩
   obtain ⟨o, e, ex⟩ := z
   refine ⟨⟨o, e, ex.1⟩, λ a e2 => ?_⟩
   cases e2
   exact ⟨o, e, ex.2.1⟩
  ·
   obtain ⟨o, _, _, _, e, ex, _⟩ := I.hok p _ hk
   refine ⟨⟨o, e, ex.1⟩, λ a e2 => ?_⟩
   cases e2
   exact ⟨o, e, ex.2.1⟩
 | _ => exact False.elim ty
def tBM (K : W.Frag) (T : String) (r : V -> List V -> Hp -> VK -> Prop) (to : TE) (t : TA) : TE := λ σ H Q => to σ H λ x H1 => tyV K T x H1 /\ t σ H1 λ xs H2 => r x xs H2 Q
variable {o e : Expr} {es : List Expr} {to : TE} {t : TA} {name : Str} {apos cpos : Pos} {T id : String} {r : V -> List V -> Hp -> VK -> Prop}
theorem O8 (pa : PlainAttrs T) (slot : Slot T name id) (hty : typeOf (.builtin id) = pure (.type "method_descriptor")) (hm : MtR X id r) (ho : PE X o to) (ha : PA X (e :: es) t)
  (hbase : attributeBase o name X.env (eval o X.env) = eval o X.env := by rfl)
  (hfew : ((backTo cpos (starEach (e :: es) X.env)).all (λ x => !x.1) && (backToKw cpos (keywordEach [] X.env)).all (λ x => x.1.isSome)
   && decide ((e :: es).length + ([] : List Keyword).length + (if ([] : List Keyword).isEmpty then 0 else 1) < 30)) = true := by rfl)
  (hline : (apos.endLine == cpos.line) = true := by rfl) (hs : starEach (e :: es) X.env = (false, eval e X.env) :: starEach es X.env := by rfl) (hplain : (backTo cpos (starEach es X.env)).any (·.1) = false := by rfl) :
  PE X (.Call (.Attribute o name apos) (e :: es) [] cpos) (tBM X.K T r to t) := by
 intro pins s σ H Q I h
 refine wpAny_Call_method_late hbase hfew hline rfl (thn (ho pins s σ H _ I h) λ v s1 ⟨x, H1, I1, r1, ty, q1⟩ => ?_)
 obtain ⟨h1, h2⟩ := mr I1 r1 ty
 refine ⟨T, id, pa, slot, hty, h1, h2, ?_⟩
 have hA := ha cpos pins s1 σ H1 _ I1 q1
 rw [hs] at hA ⊢
 refine Calls.callWith_builtin (by show (false || (backTo cpos (starEach es X.env)).any (·.1)) = false; rw [hplain] <;> rfl) (Calls.evalArgs_plain ?_)
 exact thn hA λ us s2 ⟨vs, H2, I2, r2, q2⟩ => hm pins s2 σ H2 x vs v us Q I2 r1 r2 q2
end
def MtM (X : Cx) (id : String) (r : V -> List V -> Hp -> VK -> Prop) : Prop :=
 ∀ (pins : List (Addr × Obj)) (s : Shared) (σ : St) (H : Hp) (x : V) (xs : List V) (v : Value) (us : List Value) (Q : VK), Inv X pins σ H s -> RelV x v -> Vals xs us -> r x xs H Q ->
  wpAny (model X.prog X.w) X.A (call (.builtin id) (v :: us)) (EP X pins σ Q) X.xe s
theorem Vals.one : ∀ {x : V} {us : List Value}, Vals [x] us -> ∃ u, us = [u] /\ RelV x u
 | _, _, .cons r .nil => ⟨_, rfl, r⟩
theorem Vals.two : ∀ {x y : V} {us : List Value}, Vals [x, y] us -> ∃ u v, us = [u, v] /\ RelV x u /\ RelV y v
 | _, _, _, .cons r (.cons q .nil) => ⟨_, _, rfl, r, q⟩
theorem Vals.zero : ∀ {us : List Value}, Vals [] us -> us = []
 | _, .nil => rfl
theorem Vals.reverse {xs : List V} {us : List Value} (h : Vals xs us) : Vals xs.reverse us.reverse := by
 induction h with
 | nil => exact .nil
 | cons r t ih => rw [List.reverse_cons, List.reverse_cons]; exact Vals.append ih (.cons r .nil)
section
variable {X : Cx} {pins : List (Addr × Obj)} {σ : St} {H : Hp} {s : Shared} {l b : Addr} {xs ys zs : List V}
theorem Inv.lset {its its' : List Value} {n : Nat} {f : Array Value -> Array Value} {t' : Nat} (I : Inv X pins σ H s) (hH : H l = some (.lst xs))
  (e : s.heap.get? l = some { cls := .type "list", data := .seq its.toArray n }) (hf : f its.toArray = its'.toArray) (hv : Vals ys its') (hz : ys.length <= sizeLine) :
  Inv X pins σ (upd H l (.lst ys)) { s with heap := s.heap.update l (Obj.mapSeq f), toks := t' } := by
 have q := PySem.IsL.update e f
 rw [hf] at q
 refine I.write (x := l) (e := l) (by rw [hH]; exact trivial) (.inl rfl) (λ b' u hb hu => (Heap.get?_update_other s.heap (Obj.mapSeq f) (Ne.symm hb)).trans hu) ⟨_, q⟩ ?_
 exact ⟨hz, its', _, hv, q⟩
theorem Inv.lnew {its : List Value} {t' : Nat} (I : Inv X pins σ H s) (hv : Vals ys its) (hz : ys.length <= sizeLine) :
  Inv X pins σ (upd H s.heap.objs.size (.lst ys)) { s with heap := s.heap.push { cls := .type "list", data := .seq its.toArray }, toks := t' } :=
 I.laid (λ _ _ q => Heap.get?_push_of_some _ q) (Nat.le_refl _) ⟨hz, its, 0, hv, Heap.get?_push_size _ rfl⟩
theorem Inv.fresh (I : Inv X pins σ H s) : H s.heap.objs.size = none := I.hok.fresh (Nat.le_refl _)
theorem Inv.lstM (I : Inv X pins σ H s) (hH : H l = some (.lst xs)) : xs.length <= sizeLine /\ ∃ (its : List Value) (n : Nat), Vals xs its /\ xs.length = its.length /\ s.heap.get? l = some { cls := .type "list", data := .seq its.toArray n } := by
 obtain ⟨z, its, n, r, e⟩ := I.hok l _ hH
 exact ⟨z, its, n, r, r.length, e⟩
end
section
variable {X : Cx}
def i3 : V -> List V -> Hp -> VK -> Prop := λ x vs H Q => ∃ l xs y, x = .ref l /\ vs = [y] /\ H l = some (.lst xs) /\ xs.length < sizeLine /\ Q .non (upd H l (.lst (xs ++ [y])))
theorem Ep : MtM X "list.append" i3 := by
 intro pins s σ H x vs v us Q I rx rv h
 obtain ⟨l, xs, y, rfl, rfl, hH, hz, q⟩ := h
 cases rx
 obtain ⟨u, rfl, ru⟩ := rv.one
 obtain ⟨z, its, n, r, hl, e⟩ := I.lstM hH
 refine call_meets F.slot_list_append ⟨_, e, rfl⟩ F.entry_list_append (F.args_list_append_2 _ _) (PySem.list_append l its.toArray n u (by rw [List.size_toArray]; omega)) ⟨e, ?_⟩
 refine ⟨.non, _, I.lset (its' := its ++ [u]) hH e (by simp) (r.append (.cons ru .nil)) ?_, rfl, q⟩
 rw [List.length_append, List.length_singleton]
 omega
end
section
variable {prog : Program} {w : World} {A : Around} {E : Value -> Shared -> Prop} {s : Shared}
end
section
variable {X : Cx}
end
end L2
namespace Att
open PySem PySem.W PySem.Calls PyProof.Rows
theorem L9 {P : Params} {h : Heap} : ∀ (ns : List Int) (vs : List Value), WellAll P h vs (ns.map WData.int) -> IntsAre vs ns := by
 intro ns
 induction ns with
 |
  nil =>
  intro vs w
  rw [List.map_nil] at w
  cases w
  exact .nil
 |
  cons n ns ih =>
  intro vs w
  rw [List.map_cons] at w
  cases w with
  |
   cons a b =>
   cases a
   exact .cons _ _ (ih _ b)
theorem Zi {l : OpenLaw} {n : Nat} (hn : l.most = some n) {P : Params} {h : Heap} {args : List WData} {vals : List Value}
  (hpre : l.row.toRowW.claim.pre args = true) (hwl : WellAll P h vals args) :
  ∃ a vs ns, vals = [Value.ref a] /\ args = [WData.list (ns.map WData.int)] /\ h.get? a = some { cls := .type "list", data := .seq vs.toArray } /\ IntsAre vs ns /\ ns.length <= n := by
 have hsh : WShape.hasAll [] args [.list .int] = true := (pre_splitW hpre).1
 have hc : l.pre.holds [] { args := args } = true := (pre_splitW hpre).2
 obtain ⟨d, r, rfl, h1, h2⟩ := hasAllW_cons hsh
 obtain rfl := hasAllW_nil h2
 obtain ⟨xs, rfl, h3⟩ := hasW_list h1
 obtain ⟨ns, rfl⟩ := items_int h3
 have hlen : ns.length <= n := by
  unfold OpenLaw.pre at hc
  have h4 : (WTm.not (.lt (.lit (.int (n : Int))) (.len (.arg 0)))).holds [] { args := [.list (ns.map .int)] } = true := by
   have h4 := (holds_andW hc).1
   rw [hn] at h4
   exact h4
  have h5 := condW_of h4 (w_not (w_lt w_lit (w_len_list (w_arg rfl))))
  rw [List.length_map] at h5
  refine Nat.le_of_not_lt λ q => ?_
  have q' : (n : Int) < ((ns.length : Nat) : Int) := by omega
  first
   | (rw [decide_eq_true q'] at h5; exact absurd h5 (by decide))
   | (simp at h5; omega)
 cases hwl with
 |
  cons w1 w2 =>
  cases w2
  cases w1 with
  | list ho hall => exact ⟨_, _, ns, rfl, rfl, ho, L9 ns _ hall, hlen⟩
theorem Zp (l : OpenLaw) (args : List WData) : l.row.toRowW.claim.post args (.bool true) args = true :=
 postW_of (r := l.row.toRowW) (X := (true == true))
  (show WShape.has [] (.bool true) .bool = true by first | rfl | decide | simp [WShape.has, WShape.arms, WShape.armsAll])
  (show (WTm.eq .res (.lit (.bool true))).value [] { args := args, res := some (.bool true), after := args } = some (.bool (true == true)) from w_eq_bool (w_res rfl) w_lit) rfl
theorem Um {l : OpenLaw} {n : Nat} {q : Program} {loose : List Str} {XP : (Str -> Option Value) -> Heap -> Prop} {YP : World -> Heap -> Prop} {d : DefRec}
  (hn : l.most = some n) (hdf : d.params.defaults = [])
  (call : ∀ (w : World) (s₀ s₁ : Shared) (mg mb : Str -> Option Value) (fa : Addr) (o : Obj) (pm cd doc : Value) (a : Addr) (vs : List Value) (ns : List Int),
   Ground q loose [] XP w s₀ mg mb s₁.heap -> YP w s₁.heap ->
   s₁.heap.get? fa = some o -> o.data = .func (docDef d.name d.params d.body d.scope pm cd doc) -> s₁.heap.CodeRec cd d.name -> mg d.name = some (.ref fa) ->
   s₁.heap.get? a = some { cls := .type "list", data := .seq vs.toArray } -> IntsAre vs ns -> ns.length <= n -> s₁.gens = #[] ->
   codeAny (model l.prog w) callerA (.call (.ref fa) ⟨[.ref a], []⟩) (λ r s' => r = .ok (.ret (.bool true)) /\ OldK s₁.heap s'.heap /\ s'.os = s₁.os /\ AllBare s'.gens) s₁) :
  WalkO q loose XP YP l.row.toRowW d [] (λ f vs => PySem.call f vs) := by
 intro w s₀ s₁ mg mb G Y fa o pm cd doc dV kV ho hd hcd hD hmg hg args vals as hpre hlay hrd hwl hlo
 obtain rfl : dV = .none := Dflts.none hD hdf
 obtain rfl : kV = .none := Dflts.noKw hD
 obtain ⟨a, vs, ns, rfl, rfl, hobj, hints, hlen⟩ := Zi hn hpre hwl
 refine enter_call (codeAny_mono (call w s₀ s₁ mg mb fa o pm cd doc a vs ns G Y ho (fd_plain hd) hcd hmg hobj hints hlen hg) λ r s' hq => ?_)
 obtain ⟨rfl, h2, h3, h4⟩ := hq
 exact ⟨.inl ⟨.bool true, .bool true, [], rfl, λ _ => rfl, .bool true, Zp l _, λ _ => ⟨List.Pairwise.nil, λ _ hm => (nomatch hm)⟩⟩, h2, h3, h4⟩
section
variable {prog : Program} {w : World} {A : Around} {E : Value -> Shared -> Prop} {s : Shared} {K : Frag}
def ledger (h : Heap) (L d : Addr) : List (Addr × Obj) := (List.range h.objs.size).filterMap λ a => if a = L ∨ a = d then none else (h.get? a).map λ o => (a, o)
end
end Att
namespace L2
open PySem PySem.Spec PyProof.Rows
theorem Rf : ∀ {vs : List Value} {ns : List Int}, IntsAre vs ns -> Vals (ns.map V.int) vs
 | _, _, .nil => .nil
 | _, _, .cons n t h => .cons ⟨t, rfl⟩ (Rf h)
def qx (H : Hp) : Prop := ∀ b, H b = none ∨ ∃ o xs, H b = some (.frz o (.lst xs))
theorem b8 {cm : Bool} {P : Program} {w : World} {K : W.Frag} {mg mb : Str -> Option Value} {CX : CXT} {k : Nat} {fa a : Addr} {fd : FuncData} {x : Str} {sp : Sp} {s₁ : Shared} {vs : List Value} {ns : List Int}
  (KX : K.In s₁.heap) (hns : s₁.heap.Ns mainGlobals mg) (hb : s₁.heap.Ns builtinsNs mb) (hbb : ∀ x : Str, x ≠ "__name__" -> mb x = bootBuiltins x) (hlim : s₁.heap.NoLimit) (hg : s₁.gens = #[])
  (ha : s₁.heap.get? a = some { cls := .type "list", data := .seq vs.toArray }) (hi : IntsAre vs ns) (hl : ns.length <= sizeLine) (hr : Room cm k callerA)
  (F : ∀ base : Heap, K.In base -> base.Ns mainGlobals mg -> FnOk P w K mg base CX cm k fa fd [x] sp) (hbind : ∀ (s : Shared) (u : Value), BindsTo s fd ⟨[u], []⟩ [(x, u)])
  (hsp : ∀ H : Hp, qx H -> SqL K H a (ns.map V.int) -> sp [.ref a] H (λ v _ => v = .bl true) λ _ _ _ => False)
  (hCX : ∀ H e s', CX [] H s₁ (λ _ _ _ => False) e s' -> False) :
  codeAny (model P w) callerA (.call (.ref fa) ⟨[.ref a], []⟩) (λ r s' => r = .ok (.ret (.bool true)) /\ OldK s₁.heap s'.heap /\ s'.os = s₁.os /\ AllBare s'.gens) s₁ := by
 have rv := Rf hi
 have lenV := hi.length
 -- from an abstract heap in which nothing but the script may be tracked
 have core : ∀ H : Hp, qx H -> SqL K H a (ns.map V.int) -> HOk P w H s₁.heap -> (∀ b, H b ≠ none -> b = a) -> (H a ≠ none -> K.lookup a = none) ->
   codeAny (model P w) callerA (.call (.ref fa) ⟨[.ref a], []⟩) (λ r s' => r = .ok (.ret (.bool true)) /\ OldK s₁.heap s'.heap /\ s'.os = s₁.os /\ AllBare s'.gens) s₁ := by
  intro H hO hS hok hA hK
  have base_of : ∀ {b : Addr} {o : Obj}, s₁.heap.get? b = some o -> H b = none -> (dc s₁.heap H).get? b = some o := λ e n => au e n
  have noA : ∀ {b : Addr} {o : Obj} {es : Array DictEntry} {ep : Nat}, s₁.heap.get? b = some o -> o.data = .dict es ep -> H b = none := λ {b o es ep} e d => by
   cases q : H b with
   | none => rfl
   |
    some u =>
    have e' : b = a := hA b (by rw [q]; simp)
    subst e'
    rw [ha] at e; cases e
    have d' : Data.seq vs.toArray _ = Data.dict es ep := d
    cases d'
  have nsK : ∀ {b : Addr} {m : Str -> Option Value}, s₁.heap.Ns b m -> (dc s₁.heap H).Ns b m := λ {b m} ⟨o, es, ep, e, d, r⟩ => ⟨o, es, ep, base_of e (noA e d), d, r⟩
  have hKb : K.In (dc s₁.heap H) := λ b o e => base_of (KX b o e) (by
   cases q : H b with
   | none => rfl
   |
    some u =>
    have e' : b = a := hA b (by rw [q]; simp)
    subst e'
    rw [hK (by rw [q]; simp)] at e; cases e)
  have hM : Mod K mg (dc s₁.heap H) := ⟨hKb, nsK hns, ⟨mb, nsK hb, hbb⟩, let ⟨mc, h1, h2⟩ := hlim; ⟨mc, nsK h1, h2⟩⟩
  have e0 : Env0 P w K mg (dc s₁.heap H) callerA [] s₁ H := ⟨rfl, hM, λ b o e => ft e, Nat.le_of_eq (Zy _ _), trivial, λ b hb => absurd (show b ∈ ([] : List Addr) from hb) (by simp), hok, .of_eq hg⟩
  refine codeAny_mono ((F _ hKb (nsK hns)).run callerA [] s₁ H ⟨[.ref a], []⟩ [.ref a] [.ref a] _ _ hr e0 (hbind s₁ (.ref a)) (.cons rfl .nil) (hsp H hO hS)) λ r s' h => ?_
  cases r with
  | error e => exact (hCX H e s' h).elim
  |
   ok fl =>
   cases fl with
   | next => exact False.elim h
   | brk => exact False.elim h
   | cont => exact False.elim h
   |
    ret u =>
    obtain ⟨v, H', os, bare, un, hok', r', q⟩ := h
    have q' : v = .bl true := q
    subst q'
    obtain rfl : u = Value.bool true := r'
    refine ⟨rfl, OldK.of_keep λ b o e => ?_, os, bare⟩
    cases q : H b with
    | none => exact un.keep b o e q (by intro z; exact absurd (show b ∈ ([] : List Addr) from z) (by simp)) (by simp)
    |
     some u =>
     rcases hO b with z | ⟨ob, xs, z⟩
     · rw [q] at z; cases z
     ·
      have z2 := un.frzs b ob _ z
      obtain ⟨e1, _⟩ := hok b _ z
      obtain ⟨e2, _⟩ := hok' b _ z2
      rw [e] at e1; cases e1
      exact e2
 cases hk : K.lookup a with
 |
  some o =>
  -- the script is one of the module's own objects
  have e := KX a o hk
  rw [ha] at e
  cases e
  refine core (λ _ => none) (λ _ => .inl rfl) (.inr ⟨_, vs.toArray, _, hk, rfl, rfl, rfl, by rw [List.size_toArray, lenV]; exact hl, by simpa using rv⟩) (λ b u z => by have z' : (none : Option HO) = some u := z; cases z') (λ b z => absurd rfl z) λ z => absurd rfl z
 |
  none =>
  refine core (λ b => if b = a then some (.frz { cls := .type "list", data := .seq vs.toArray } (.lst (ns.map V.int))) else none) (λ b => ?_) (.inl (.inr ⟨{ cls := .type "list", data := .seq vs.toArray }, if_pos rfl⟩)) (λ b u z => ?_) (λ b z => ?_) λ _ => hk
  ·
   by_cases hb : b = a
   · exact .inr ⟨_, _, if_pos hb⟩
   · exact .inl (if_neg hb)
  ·
   by_cases hb : b = a
   ·
    have z' := (if_pos hb).symm.trans z
    cases z'
    subst hb
    exact ⟨ha, by rw [List.length_map]; exact hl, vs, _, rv, ha⟩
   ·
    have z' := (if_neg hb).symm.trans z
    cases z'
  ·
   by_cases hb : b = a
   · exact hb
   · exact absurd (if_neg hb) z
abbrev KOf {K : W.Frag} {h : Heap} (_ : K.In h) : W.Frag := K
theorem i7 {cm : Bool} {l : W.OpenLaw} {n k : Nat} {q : Program} {loose : List Str} {XP : (Str -> Option Value) -> Heap -> Prop} {YP : World -> Heap -> Prop} {d : DefRec} {K : Params -> W.Frag} {CX : World -> CXT} {sp : World -> Sp} {x : Str}
  (hn : l.most = some n) (hn2 : n <= sizeLine) (hdf : d.params.defaults = []) (hr : Room cm k callerA)
  (hY : ∀ (w : World) (h : Heap), YP w h -> (K w.params).In h)
  (F : ∀ (w : World) (mg : Str -> Option Value) (fa : Addr) (h : Heap), (K w.params).In h -> h.Ns mainGlobals mg -> mg d.name = some (.ref fa) ->
   ∃ fd : FuncData, (∀ (s : Shared) (u : Value), BindsTo s fd ⟨[u], []⟩ [(x, u)]) /\
    ∀ base : Heap, (K w.params).In base -> base.Ns mainGlobals mg -> FnOk l.prog w (K w.params) mg base (CX w) cm k fa fd [x] (sp w))
  (hsp : ∀ (w : World) (H : Hp) (a : Addr) (ns : List Int), ns.length <= n -> qx H -> SqL (K w.params) H a (ns.map V.int) -> sp w [.ref a] H (λ v _ => v = .bl true) λ _ _ _ => False)
  (hCX : ∀ (w : World) (H : Hp) (s : Shared) (e : Value) (s' : Shared), CX w [] H s (λ _ _ _ => False) e s' -> False) :
  W.WalkO q loose XP YP l.row.toRowW d [] (λ f vs => PySem.call f vs) := by
 refine Att.Um hn hdf λ w s₀ s₁ mg mb fa o pm cd doc a vs ns G Y ho hd hcd hmg hobj hints hlen hg => ?_
 have KX := hY w _ Y
 obtain ⟨fd, hb, hF⟩ := F w mg fa _ KX G.T.g hmg
 exact b8 KX G.T.g G.T.b G.T.builtins G.T.nolimit hg hobj hints (Nat.le_trans hlen hn2) hr hF hb (λ H hO hS => hsp w H a ns hlen hO hS) λ H e s' => hCX w H s₁ e s'
def inClass (s : Stmt) (j : Nat) : Stmt := match s with
 | .ClassDef _ _ _ body _ _ _ _ _ _ _ => body.getD j (.Pass ⟨0, 0, 0, 0⟩)
 | _ => .Pass ⟨0, 0, 0, 0⟩
def A7 (s : Stmt) : Arguments := match s with
 | .FunctionDef _ a _ _ _ _ _ _ _ _ => a
 | _ => { posonlyargs := [], args := [], vararg := none, kwonlyargs := [], kw_defaults := [], kwarg := none, defaults := [] }
def Av (s : Stmt) : List Stmt := match s with
 | .FunctionDef _ _ b _ _ _ _ _ _ _ => b
 | _ => []
def Ac (s : Stmt) : Scope := match s with
 | .FunctionDef _ _ _ _ _ _ sc _ _ _ => sc
 | _ => { kind := .function, names := [], isGenerator := false, isCoroutine := false }
abbrev CX0 : CXT := λ _ _ _ _ _ _ => False
abbrev E0 : XK := λ _ _ _ => False
theorem Bd {X : Cx} : Passes CX0 X E0 := λ _ _ _ _ _ _ _ h => h.elim
structure Fun (K : W.Frag) (x qual : Str) (st : Stmt) (f : Addr) (fd : FuncData) : Prop where
 ex : ∃ (oc : Value) (od : Option Addr) (kV doc pm : Value) (an : Option Addr) (cdv ct : Value) (osl : Array (Option Value)),
  fd = W.fnOf x qual (A7 st) (Av st) (Ac st) .none kV doc pm an cdv ct /\ K.lookup f = some ⟨oc, od, .func fd, osl⟩ /\ W.codeIn K cdv qual = true
 kp : W.keepIn K (.ref f) = true
section
variable {P : Program} {w : World} {K : W.Frag} {mg : Str -> Option Value} {base : Heap}
theorem Fun.ok {cm : Bool} {x qual : Str} {st : Stmt} {f : Addr} {fd : FuncData} {N ps : List Str} {k : Nat} {sp : Sp} (F : Fun K x qual st f fd) (S : Ax N ps (Ac st)) (len : ∀ vs H Q E, sp vs H Q E -> vs.length = ps.length)
  (hbody : ∀ (cdv : Value) (A : Around) (outer : List Env) (s : Shared) (H : Hp) (vs : List V) (Q : VK) (E : XK), Room cm k (A.deeper (envOfC qual (Ac st) s.heap.objs.size f cdv)) -> sp vs H Q E ->
   ∃ t, PSs (c9 CX0 cm P w K mg base N qual (Ac st) f cdv A outer s H E).nox (Av st) t /\ t { nx := λ _ H' => Q .non H', rt := λ _ => Q } (start N vs) H) : FnOk P w K mg base CX0 cm (k + 1) f fd ps sp := by
 obtain ⟨oc, od, kV, doc, pm, an, cdv, ct, osl, rfl, lk, hcd⟩ := F.ex
 refine kr lk hcd S len λ A outer s H vs Q E hr hsp => ?_
 obtain ⟨t, h, q⟩ := hbody cdv A outer s H vs Q E hr hsp
 exact ⟨t, h.nox, q⟩
theorem Fun.binds {x qual : Str} {st : Stmt} {f : Addr} {fd : FuncData} {ps : List Str} (F : Fun K x qual st f fd)
  (h : ∀ (kV doc pm : Value) (an : Option Addr) (cdv ct : Value) (us : List Value), us.length = ps.length -> bindArgs (W.fnOf x qual (A7 st) (Av st) (Ac st) .none kV doc pm an cdv ct) ⟨us, []⟩ = pure (ps.zip us)) : Binds K fd ps [] := by
 obtain ⟨oc, od, kV, doc, pm, an, cdv, ct, osl, rfl, lk, hcd⟩ := F.ex
 exact .all (h kV doc pm an cdv ct)
theorem Bo {x qual : Str} {st : Stmt} {f : Addr} {oc : Value} {od an : Option Addr} {osl : Array (Option Value)} {kV doc pm cdv ct : Value} (l : K.lookup f = some ⟨oc, od, .func (W.fnOf x qual (A7 st) (Av st) (Ac st) .none kV doc pm an cdv ct), osl⟩)
 (c : W.codeIn K cdv qual = true) (k : W.keepIn K (.ref f) = true) : Fun K x qual st f (W.fnOf x qual (A7 st) (Av st) (Ac st) .none kV doc pm an cdv ct) := ⟨⟨oc, od, kV, doc, pm, an, cdv, ct, osl, rfl, l, c⟩, k⟩
end
theorem Fi {cm : Bool} {A : Around} {k : Nat} (hr : Room cm k A) : A.units + 1 < cLine := Nat.lt_of_le_of_lt (Nat.add_le_add_left (by decide : 1 <= 64) _) hr.units
section
variable {X : Cx}
theorem pv (i : Nat) {x : Str} {pos : Pos} (hN : X.N[i]? = some x := by rfl) (hv : Vis X.env.scope x := by first | exact Or.inl rfl | exact Or.inr (Or.inl rfl) | exact Or.inr (Or.inr rfl)) (hd : (x == ("__debug__" : Str)) = false := by decide)
 (hcd : (x == ("__classdict__" : Str)) = false := by decide) : PE X (.Name x pos) (qp i) := d3 hN hv hd hcd
end
theorem Ff {A B : Prop} (h : B) : if false = true then A else B := by
 rw [if_neg Bool.false_ne_true]
 exact h
theorem Ij {A B : Prop} (h : A) : if true = true then A else B := by
 rw [if_pos rfl]
 exact h
theorem Bt {c A B : Prop} [Decidable c] (h1 : c -> A) (h2 : ¬ c -> B) : if c then A else B := by
 by_cases h : c
 ·
  rw [if_pos h]
  exact h1 h
 ·
  rw [if_neg h]
  exact h2 h
theorem jy {c A B : Prop} [Decidable c] (hc : c) (h : B) : if (!decide c) = true then A else B := by
 rw [decide_eq_true hc]
 exact Ff h
def Same (H H' : Hp) : Prop := ∀ b o, H b = some o -> H' b = some o
theorem Same.refl (H : Hp) : Same H H := λ _ _ h => h
theorem Same.trans {H H1 H2 : Hp} (a : Same H H1) (b : Same H1 H2) : Same H H2 := λ c o h => b c o (a c o h)
theorem Same.free {H H' : Hp} (e : Same H H') {l : Addr} (h : H' l = Option.none) : H l = Option.none := by
 cases q : H l with
 | none => rfl
 |
  some o =>
  rw [e l o q] at h
  cases h
theorem Same.seq {K : W.Frag} {H H' : Hp} {a : Addr} {xs : List V} (e : Same H H') (h : SqL K H a xs) : SqL K H' a xs := by
 rcases h with (h | ⟨o, h⟩) | h
 · exact .inl (.inl (e _ _ h))
 · exact .inl (.inr ⟨o, e _ _ h⟩)
 · exact .inr h
def O0 (env : Env) : List (Str × NameKind) -> List (Str × Addr) -> List (Str × Addr)
 | [], acc => acc
 | (n, k) :: r, acc => if k == .free then O0 env r ((n, (env.cells.lookup n).getD 0) :: acc) else O0 env r acc
theorem Qh {env : Env} {x : Str} {c : Addr} : ∀ {ns : List (Str × NameKind)} {acc : List (Str × Addr)}, (∃ c, acc.lookup x = some c) -> ∃ c, (O0 env ns acc).lookup x = some c
 | [], _, h => h
 |
  (n, k) :: r, acc, h => by
  unfold O0
  split
  ·
   refine Qh (c := c) ?_
   obtain ⟨c', e⟩ := h
   rw [List.lookup_cons]
   cases q : x == n
   · exact ⟨c', e⟩
   · exact ⟨_, rfl⟩
  · exact Qh (c := c) h
theorem Lz {env : Env} {x : Str} : ∀ {ns : List (Str × NameKind)} {acc : List (Str × Addr)}, (x, NameKind.free) ∈ ns -> ∃ c, (O0 env ns acc).lookup x = some c
 |
  (n, k) :: r, acc, h => by
  unfold O0
  rcases List.mem_cons.mp h with e | h
  ·
   cases e
   rw [if_pos (by rfl)]
   exact Qh (c := 0) ⟨_, by rw [List.lookup_cons, beq_self_eq_true]⟩
  ·
   split
   · exact Lz h
   · exact Lz h
theorem Ti {env : Env} {x : Str} {c : Addr} : ∀ {ns : List (Str × NameKind)} {acc : List (Str × Addr)}, (∀ y ∈ ns, y.2 = .free -> ∃ d, env.cells.lookup y.1 = some d) -> (∀ y d, acc.lookup y = some d -> env.cells.lookup y = some d) ->
  (O0 env ns acc).lookup x = some c -> env.cells.lookup x = some c
 | [], _, _, ha, h => ha _ _ h
 |
  (n, k) :: r, acc, hn, ha, h => by
  unfold O0 at h
  have hr : ∀ y ∈ r, y.2 = .free -> ∃ d, env.cells.lookup y.1 = some d := λ y hy => hn y (List.mem_cons_of_mem _ hy)
  split at h
  ·
   rename_i hk
   have hk' : k = .free := by simpa using hk
   obtain ⟨d, hd⟩ := hn (n, k) List.mem_cons_self hk'
   refine Ti hr (λ y d' hy => ?_) h
   rw [List.lookup_cons] at hy
   cases q : y == n
   ·
    rw [q] at hy
    exact ha y d' hy
   ·
    rw [q] at hy
    have e : y = n := by simpa using q
    subst e
    have hd' : env.cells.lookup y = some d := hd
    rw [hd'] at hy
    rw [hd']
    exact hy
  · exact Ti hr ha h
theorem Gk {x : Str} {k : NameKind} : ∀ {ns : List (Str × NameKind)}, ns.lookup x = some k -> (x, k) ∈ ns
 |
  (n, j) :: r, h => by
  rw [List.lookup_cons] at h
  cases q : x == n
  ·
   rw [q] at h
   exact List.mem_cons_of_mem _ (Gk h)
  ·
   rw [q] at h
   have e : x = n := by simpa using q
   subst e
   cases h
   exact List.mem_cons_self
def Cn (X : Cx) (N : List Str) (scope : Scope) (C : Addr) (s : Shared) (H : Hp) (fp : List Addr) : Cx where
 prog := X.prog
 w := X.w
 K := X.K
 mg := X.mg
 base := X.base
 A := X.A
 N := N
 s₀ := s
 H₀ := H
 env := compEnvC scope (O0 X.env scope.names []) C X.env
 outer := X.stack
 stack := X.stack
 ex := fp
 fn := λ _ => false
 calm := X.calm
 pn := []
 xe := λ _ _ => False
def Sf (sc scope : Scope) (N0 : List Str) : List (Option Nat) -> List Str -> Bool
 | [], _ => true
 | none :: r, _ :: n => Sf sc scope N0 r n
 | some j :: r, x :: n => decide (N0[j]? = some x) && decide (scope.names.lookup x = some .free) && decide (sc.names.lookup x = some .cell) && Sf sc scope N0 r n
 | _ :: _, [] => false
theorem Q6 {sc scope : Scope} {N0 : List Str} : ∀ {cap : List (Option Nat)} {N : List Str} {i j : Nat}, Sf sc scope N0 cap N = true -> cap[i]? = some (some j) ->
  ∃ x, N[i]? = some x /\ N0[j]? = some x /\ scope.names.lookup x = some .free /\ sc.names.lookup x = some .cell
 | [], _, _, _, _, e => by simp at e
 | o :: _, [], _, _, h, _ => by cases o <;> simp [Sf] at h
 |
  o :: r, y :: n, 0, j, h, e => by
  simp at e
  subst e
  unfold Sf at h
  simp only [Bool.and_eq_true, decide_eq_true_eq] at h
  exact ⟨y, rfl, h.1.1.1, h.1.1.2, h.1.2⟩
 |
  o :: r, y :: n, i + 1, j, h, e => by
  have h' : Sf sc scope N0 r n = true := by
   cases o with
   | none => exact h
   |
    some k =>
    unfold Sf at h
    simp only [Bool.and_eq_true] at h
    exact h.2
  obtain ⟨x, a, b⟩ := Q6 (i := i) (j := j) h' (by simpa using e)
  exact ⟨x, by simpa using a, b⟩
structure Ay (sc scope : Scope) (N0 N : List Str) (cap : List (Option Nat)) : Prop where
 kind : scope.kind = .function
 cell : ∀ y ∈ scope.names, y.2 ≠ .cell
 names : ∀ y ∈ scope.names, y.2 = .local -> scope.names.lookup y.1 = some .local
 free : ∀ y ∈ scope.names, y.2 = .free -> sc.names.lookup y.1 = some .cell
 nd : N.Nodup
 len : cap.length = N.length
 cap : Sf sc scope N0 cap N = true
def L1 (cap : List (Option Nat)) (σ : St) : St := cap.map λ o => match o with
 | none => none
 | some j => (σ[j]?).join
theorem Sg {scope : Scope} {env : Env} (hk : env.scope.kind = .function) (hf : ∀ y ∈ scope.names, y.2 = .free -> env.kindOf y.1 = some .cell) {x : Str} (h : scope.names.lookup x = some .free) :
  (relabel scope env).names.lookup x = some .cell := by
 have all : ∀ (ns : List (Str × NameKind)), (∀ y ∈ ns, y.2 = .free -> env.kindOf y.1 = some .cell) -> ns.lookup x = some .free ->
   (ns.map λ (n, k) => if (k == .free && env.scope.kind == .function && env.kindOf n == some .cell) then (n, NameKind.cell) else (n, k)).lookup x = some .cell := by
  intro ns
  induction ns with
  | nil => intro _ h; simp at h
  |
   cons y r ih =>
   obtain ⟨n, k⟩ := y
   intro hf h
   rw [List.map_cons]
   rw [List.lookup_cons] at h
   cases q : x == n
   ·
    rw [q] at h
    have := ih (λ y hy => hf y (List.mem_cons_of_mem _ hy)) h
    show List.lookup x ((if (k == .free && env.scope.kind == .function && env.kindOf n == some .cell) = true then (n, NameKind.cell) else (n, k)) :: _) = _
    split <;> (rw [List.lookup_cons, q]; exact this)
   ·
    rw [q] at h
    cases h
    have e := hf (n, .free) List.mem_cons_self rfl
    show List.lookup x ((if (NameKind.free == .free && env.scope.kind == .function && env.kindOf n == some .cell) = true then (n, NameKind.cell) else (n, NameKind.free)) :: _) = _
    rw [if_pos (by rw [hk, e]; rfl), List.lookup_cons, q]
 exact all scope.names hf h
theorem R1 {scope : Scope} {env : Env} {x : Str} (hc : ∀ y ∈ scope.names, y.2 ≠ .cell) (h : (relabel scope env).names.lookup x = some .cell ∨ (relabel scope env).names.lookup x = some .free) : (x, NameKind.free) ∈ scope.names := by
 have all : ∀ (ns : List (Str × NameKind)), (∀ y ∈ ns, y.2 ≠ .cell) ->
   (∀ k, (k = NameKind.cell ∨ k = NameKind.free) -> (ns.map λ (n, k) => if (k == .free && env.scope.kind == .function && env.kindOf n == some .cell) then (n, NameKind.cell) else (n, k)).lookup x = some k -> (x, NameKind.free) ∈ ns) := by
  intro ns
  induction ns with
  | nil => intro _ k _ h; simp at h
  |
   cons y r ih =>
   obtain ⟨n, j⟩ := y
   intro hc k hk h
   rw [List.map_cons] at h
   have hr : ∀ y ∈ r, y.2 ≠ NameKind.cell := λ y hy => hc y (List.mem_cons_of_mem _ hy)
   change List.lookup x ((if (j == .free && env.scope.kind == .function && env.kindOf n == some .cell) = true then (n, NameKind.cell) else (n, j)) :: _) = some k at h
   split at h
   ·
    rename_i hj
    rw [Bool.and_eq_true, Bool.and_eq_true] at hj
    have hj' : j = .free := by simpa using hj.1.1
    subst hj'
    rw [List.lookup_cons] at h
    cases q : x == n
    ·
     rw [q] at h
     exact List.mem_cons_of_mem _ (ih hr k hk h)
    ·
     have e : x = n := by simpa using q
     subst e
     exact List.mem_cons_self
   ·
    rw [List.lookup_cons] at h
    cases q : x == n
    ·
     rw [q] at h
     exact List.mem_cons_of_mem _ (ih hr k hk h)
    ·
     rw [q] at h
     cases h
     have e : x = n := by simpa using q
     subst e
     rcases hk with z | z
     · exact absurd z (hc (x, j) List.mem_cons_self)
     · rw [z]; exact List.mem_cons_self
 rcases h with h | h
 · exact all scope.names hc _ (.inl rfl) h
 · exact all scope.names hc _ (.inr rfl) h
section
variable {X : Cx} {pins : List (Addr × Obj)} {σ : St} {H : Hp} {s : Shared} {h₁ : Heap} {scope : Scope} {N : List Str} {cap : List (Option Nat)} {fp : List Addr} {t' : Nat}
theorem Ot (S : Ay X.env.scope scope X.N N cap) (I : Inv X pins σ H s) (hf : ∀ b ∈ fp, FpOk X pins H b) (hlt : ∀ b ∈ fp, b < s.heap.objs.size)
  (hns : h₁.Ns s.heap.objs.size (λ x => ([] : List (Str × Value)).reverse.lookup x)) (keep : ∀ b o, s.heap.get? b = some o -> h₁.get? b = some o) :
  Inv (Cn X N scope s.heap.objs.size s H fp) [] (L1 cap σ) H { s with heap := h₁, toks := t' } := by
 have hkf : ∀ y ∈ scope.names, y.2 = .free -> X.env.kindOf y.1 = some .cell := S.free
 have hcell : ∀ y ∈ scope.names, y.2 = .free -> ∃ d, X.env.cells.lookup y.1 = some d := λ y hy e => I.ok.has _ (.inl (hkf y hy e))
 have hcl : ∀ x c, (O0 X.env scope.names []).lookup x = some c -> X.env.cells.lookup x = some c := λ x c h => Ti hcell (λ y d h => by simp at h) h
 refine ⟨⟨I.ok.mod, S.kind, I.ok.glob, I.ok.blt, Nat.le_refl _, λ x y c h1 h2 => I.ok.inj x y c (hcl x c h1) (hcl y c h2), λ x h => Lz (R1 S.cell h), (λ x c h => nomatch h), I.ok.hd, I.ok.frames, .inl rfl,
  λ b hb => ⟨Nat.ne_of_lt (hlt b hb), λ x c h => (hf b hb).2.2.2.2.1 x c (hcl x c h)⟩, I.bs, Nat.le_trans I.ok.bsz I.sz, λ b o e hb => ?_, λ b hb h => ?_, I.stack, I.stkFree⟩,
  rfl, I.bare, Un.kept keep, ⟨_, hns, λ i x v e1 e2 e3 => ?_⟩, λ x c h => ?_, I.hok.fresh (Nat.le_refl _), λ x c h => I.freeC x c (hcl x c h), λ p hp => (by simp [Cn] at hp), I.hok.kept keep, ?_⟩
 ·
  rcases (hf b hb).2.2.2.1 with z | z
  · exact I.ok.noex b o e z
  · exact absurd (Nat.lt_of_lt_of_le (Heap.lt_size (I.ok.bs b o e).1) z) (Nat.lt_irrefl _)
 ·
  rcases List.mem_cons.mp (I.stkSub b h) with z | z
  · exact (hf b hb).2.1 z
  · exact (hf b hb).2.2.1 z
 ·
  have e2' : (L1 cap σ)[i]? = some (some v) := e2
  unfold L1 at e2'
  rw [List.getElem?_map] at e2'
  cases q : cap[i]? with
  | none => rw [q] at e2'; cases e2'
  |
   some o =>
   cases o with
   | none => rw [q] at e2'; cases e2'
   |
    some j =>
    rw [q] at e2'
    obtain ⟨y, n1, n2, n3, n4⟩ := Q6 S.cap q
    have e1' : N[i]? = some x := e1
    rw [n1] at e1'
    cases e1'
    have ej : σ[j]? = some (some v) := by
     have e3 : (σ[j]?).join = some v := Option.some.inj e2'
     cases r : σ[j]? with
     | none => rw [r] at e3; cases e3
     | some o => rw [r] at e3; rw [show o = some v from e3]
    obtain ⟨m, hn, hl⟩ := I.loc
    obtain ⟨u, ru, l⟩ := hl j x v n2 ej (.inr (.inl n4))
    refine ⟨u, ru, .inr ⟨.inl (Sg I.ok.kind hkf n3), ?_⟩⟩
    rcases l with ⟨hk, _⟩ | ⟨_, c, hc, z⟩
    ·
     have n4' : X.env.kindOf x = some .cell := n4
     rw [n4'] at hk; cases hk
    ·
     obtain ⟨c', hc'⟩ := Lz (env := X.env) (acc := []) (Gk n3)
     have := hcl x c' hc'
     rw [hc] at this
     cases this
     exact ⟨c, hc', z.keeps keep⟩
 ·
  obtain ⟨v, z⟩ := I.cell x c (hcl x c h)
  exact ⟨v, z.keeps keep⟩
 ·
  show (L1 cap σ).length = N.length
  unfold L1
  rw [List.length_map]
  exact S.len
theorem Vf {pins' : List (Addr × Obj)} {σ' : St} {H' : Hp} {s' : Shared} {h' : Heap} (I : Inv X pins σ H s) (hf : ∀ b ∈ fp, FpOk X pins H b) (J : Inv (Cn X N scope s.heap.objs.size s H fp) pins' σ' H' s')
  (sb : Heap.SameBut s.heap.objs.size s'.heap h') : Inv X pins σ H' { s' with heap := h' } := by
 have I1 : Inv X pins σ H' s' := I.call' J.os J.base J.hok J.bare λ b hb => ⟨(hf b hb).2.2.2.1, (hf b hb).2.1, (hf b hb).2.2.2.2.1, (hf b hb).2.2.2.2.2⟩
 have hfree : H' s.heap.objs.size = none := J.free
 refine I1.turned (t' := s'.toks) (it := s.heap.objs.size) (λ b o hb e => (sb.2 b hb).trans e) hfree (Nat.ne_of_gt I.lt) (.inr I.sz) (λ x c h z => ?_) λ p hp z => ?_
 ·
  obtain ⟨v, q⟩ := I.cell x c h
  have := q.lt
  rw [z] at this
  exact Nat.lt_irrefl _ this
 ·
  have := Heap.lt_size (I.pin p hp).1
  rw [z] at this
  exact Nat.lt_irrefl _ this
end
def ox (X : Cx) (ifs : List Expr) (t : TT) : Prop :=
 ∀ (pins : List (Addr × Obj)) (s : Shared) (σ : St) (H : Hp) (Q : Bool -> Hp -> Prop), Inv X pins σ H s -> t σ H Q ->
  wpAny (model X.prog X.w) X.A (forIn ifs true λ c r => if r = true then do let ok ← isTrue c X.env (eval c X.env); pure (ForInStep.yield ok) else pure (ForInStep.yield r)) (TP X pins σ Q) X.xe s
def v8 : TT := λ _ H Q => Q true H
theorem F5 {X : Cx} : ox X [] v8 := λ pins s σ H Q I h => wpAny_tests_nil ⟨H, I, h⟩
theorem Es {X : Cx} {c : Expr} {t : TT} (h : PT X c t) : ox X [c] t := λ pins s σ H Q I hq => wpAny_tests_one (h pins s σ H Q I hq)
section
variable {prog : Program} {w : World} {A : Around} {R : Result -> Shared -> Prop} {s : Shared}
theorem Ln {elt target iter : Expr} {ifs : List Expr} {scope : Scope} {pos : Pos} {it acc : Value} {env : Env} (I : Nat -> Shared -> Prop)
  (turn : ∀ n s, I n s -> wpAny (model prog w) A (pyNext it) (λ r s₁ => match r with
   | none => R (.ok .next) s₁
   | some v => wpAny (model prog w) A (letOwnedTupleGo target it v) (λ _ s₀ => wpAny (model prog w) A (assign target env v) (λ _ s₂ =>
    wpAny (model prog w) A (forIn ifs true λ c r => if r = true then do let ok ← isTrue c env (eval c env); pure (ForInStep.yield ok) else pure (ForInStep.yield r)) (λ ok s₃ =>
     if ok = true then wpAny (model prog w) A (eval elt env) (λ x s₄ =>
      wpAny (model prog w) A (call (.builtin "list.append") [acc, x]) (λ _ s₅ => ∃ m, m < n /\ I m s₅) (λ _ _ => False) s₄) (λ _ _ => False) s₃
     else ∃ m, m < n /\ I m s₃) (λ _ _ => False) s₂) (λ _ _ => False) s₀) (λ _ _ => False) s₁) (λ _ _ => False) s)
  (n : Nat) (h : I n s) : codeAny (model prog w) A (.compLoop (.ListComp elt [⟨target, iter, ifs, 0⟩] scope pos) 0 it acc env) R s := by
 refine codeAny_loop rfl I (λ n s hI => ?_) n h
 show wpAny _ A ((compTurn (.ListComp elt [⟨target, iter, ifs, 0⟩] scope pos) 0 it acc env).onRaise (λ x => do noteFrame x env; theTreesLotGoes x)) _ _ s
 refine wpAny_noted ?_
 rw [compTurn_list]
 refine wpAny_bind (wpAny_standAt (wpAny_bind (wpAny_mono (turn n s hI) (λ r s₁ h₁ => ?_) λ _ _ h' => h'.elim)))
 cases r with
 | none => exact wpAny_pure h₁
 |
  some v =>
  refine wpAny_bind (wpAny_mono h₁ (λ _ s₀ h₀ => ?_) λ _ _ h' => h'.elim)
  refine wpAny_bind (wpAny_mono h₀ (λ _ s₂ h₂ => wpAny_bind (wpAny_mono h₂ (λ ok s₃ h₃ => ?_) λ _ _ h' => h'.elim)) λ _ _ h' => h'.elim)
  cases ok with
  | false => exact wpAny_pure ⟨rfl, h₃⟩
  |
   true =>
   exact wpAny_bind (wpAny_bind (wpAny_mono h₃ (λ x s₄ h₄ => wpAny_bind (wpAny_mono h₄ (λ _ s₅ h₅ => wpAny_pure (wpAny_pure ⟨rfl, h₅⟩)) λ _ _ h' => h'.elim)) λ _ _ h' => h'.elim))
end
def Kj (J : It) (H1 : Hp) (cap : List (Option Nat)) (g : TG) (tt : TT) (te : TE) (σ : St) (Q : VK) : Prop := ∀ D, H1 D = none ->
 ∃ W : Nat -> Nat -> List V -> St -> Hp -> Prop, (∃ m, W 0 m [] (L1 cap σ) (upd H1 D (.lst []))) /\ ∀ i m ys σ' H', W i m ys σ' H' -> H' D = some (.lst ys) /\
  ((
   J.stop i H' /\ Q (.ref D) H') ∨ (J.go i H' /\ ∀ x H2, J.yld i H' x H2 -> g x σ' H2 λ σ2 H3 => tt σ2 H3 λ b H4 =>
   if b = true then te σ2 H4 λ y H5 => H5 D = some (.lst ys) /\ ys.length < sizeLine /\ ∃ m', m' < m /\ W (i + 1) m' (ys ++ [y]) σ2 (upd H5 D (.lst (ys ++ [y])))
   else ∃ m', m' < m /\ W (i + 1) m' ys σ2 H4))
def j9 (wi : TI) (cap : List (Option Nat)) (g : TG) (tt : TT) (te : TE) : TE := λ σ H Q => wi σ H λ J H1 => Kj J H1 cap g tt te σ Q
theorem B8 {X : Cx} {elt tgt iter : Expr} {ifs : List Expr} {scope : Scope} {pos : Pos} {N : List Str} {cap : List (Option Nat)} {wi : TI} {g : TG} {tt : TT} {te : TE}
  (S : Ay X.env.scope scope X.N N cap) (hc : X.calm = true) (hi : PI X tgt iter wi)
  (hb : ∀ (C : Addr) (s : Shared) (H : Hp) (fp : List Addr), PG (Cn X N scope C s H fp) tgt g /\ ox (Cn X N scope C s H fp) ifs tt /\ PE (Cn X N scope C s H fp) elt te)
  (hclos : closureFor scope X.env = pure (O0 X.env scope.names []) := by with_unfolding_all rfl) (hs : ∀ x, foldedSetIterable iter X.env x = pure x := by intro _; rfl) :
  PE X (.ListComp elt [⟨tgt, iter, ifs, 0⟩] scope pos) (j9 wi cap g tt te) := by
 intro pins s σ H Q I h
 rw [eval_ListComp]
 refine wpAny_comprehension_free (use := none) (cl := O0 X.env scope.names []) rfl hs hclos S.kind S.names ?_
 refine thn (hi pins s σ H _ I h) λ v s1 h1 => thn h1 λ itv s2 h2 => ?_
 obtain ⟨it, fp, tn, J, H2, e, I2, T, st2, f2, k⟩ := h2
 subst e
 refine wpAny_newObj_type (wpAny_newFunctionEnv S.cell (by intro y hy; simp at hy) (λ h₁ hns₁ hsb₁ => ?_) S.kind)
 dsimp only at hns₁ hsb₁ ⊢
 have I3 : Inv X pins σ (upd H2 s2.heap.objs.size (.lst [])) { s2 with heap := s2.heap.push { cls := .type "list", dict := none, data := .seq ([] : List Value).toArray } } := I2.lnew (t' := s2.toks) .nil (Nat.zero_le _)
 obtain ⟨W, ⟨m0, w0⟩, turn⟩ := k s2.heap.objs.size I2.fresh
 generalize hD : s2.heap.objs.size = D at *
 generalize hsD : ({ s2 with heap := s2.heap.push { cls := .type "list", dict := none, data := .seq ([] : List Value).toArray } } : Shared) = sD at *
 have hsz : sD.heap.objs.size = D + 1 := by rw [← hsD, ← hD]; exact Heap.size_push ..
 have hheap : s2.heap.push { cls := .type "list", dict := none, data := .seq ([] : List Value).toArray } = sD.heap := by rw [← hsD]
 rw [hheap] at hns₁ hsb₁ ⊢
 have up : ∀ b o, s2.heap.get? b = some o -> sD.heap.get? b = some o := λ b o e => by rw [← hheap]; exact Heap.get?_push_of_some _ e
 have keep : ∀ b o, sD.heap.get? b = some o -> h₁.get? b = some o := λ b o e => hsb₁.extBut b o (Nat.ne_of_lt (Heap.lt_size e)) (Heap.get?_push_of_some _ e)
 have hfD : D ∉ fp := λ hm => by
  obtain ⟨o, e, _⟩ := T.obj _ _ st2 D hm
  have := Heap.lt_size e
  rw [hD] at this
  exact Nat.lt_irrefl _ this
 have f3 : ∀ b ∈ fp, FpOk X pins (upd H2 D (.lst [])) b := λ b hb => ⟨by rw [Al (λ z => hfD (by rw [← z]; exact hb))]; exact (f2 b hb).1, (f2 b hb).2⟩
 have hlt : ∀ b ∈ fp, b < sD.heap.objs.size := λ b hb => by
  obtain ⟨o, e, _⟩ := T.obj _ _ st2 b hb
  exact Heap.lt_size (up b o e)
 have I4 := Ot (t' := s2.toks + ([] : List (Str × Value)).length) S I3 f3 hlt hns₁ keep
 obtain ⟨hg, hif, hel⟩ := hb sD.heap.objs.size sD (upd H2 D (.lst [])) fp
 have st4 : tn 0 h₁ := T.keep _ _ _ st2 λ b hb o e => keep b o (up b o e)
 have stat : ∀ {H' : Hp}, (∀ b ∈ fp, H' b = none) -> ∀ b ∈ fp, FpOk (Cn X N scope sD.heap.objs.size sD (upd H2 D (.lst [])) fp) [] H' b := λ hn b hb =>
  ⟨hn b hb, (I4.ok.exf b hb).1, I4.ok.exfs b hb, .inl hb, λ x c h z => (I4.ok.exf b hb).2 x c h z, λ p hp => (by simp [Cn] at hp)⟩
 have loop : codeAny (model X.prog X.w) X.A (.compLoop (.ListComp elt [⟨tgt, iter, ifs, 0⟩] scope pos) 0 (.ref it) (.ref D) (compEnvC scope (O0 X.env scope.names []) sD.heap.objs.size X.env))
   (compPost (model X.prog X.w) X.A X.xe none (EP X pins σ Q) (.ref D) sD.heap.objs.size) { sD with heap := h₁, toks := s2.toks + ([] : List (Str × Value)).length } := by
  refine Ln (λ n s' => ∃ i ys σ' H', Inv (Cn X N scope sD.heap.objs.size sD (upd H2 D (.lst [])) fp) [] σ' H' s' /\ tn i s'.heap /\ (∀ b ∈ fp, H' b = none) /\ W i n ys σ' H') ?_ m0
   ⟨0, [], L1 cap σ, _, I4, st4, λ b hb => (f3 b hb).1, w0⟩
  rintro n s5 ⟨i, ys, σ5, H5, I5, st5, fr5, w5⟩
  obtain ⟨hD5, way⟩ := turn i n ys σ5 H5 w5
  rcases way with ⟨stop, q⟩ | ⟨go, step⟩
  ·
   refine thn (T.done (Cn X N scope sD.heap.objs.size sD (upd H2 D (.lst [])) fp) rfl rfl rfl hc i [] s5 σ5 H5 (λ _ _ => False) I5 (stat fr5) st5 stop) λ r s6 ⟨hr, I6⟩ => ?_
   subst hr
   obtain ⟨m, hn, _⟩ := I6.loc
   exact ⟨m, hn, λ h' sb => ⟨.ref D, H5, Vf I3 f3 I6 sb, rfl, q⟩⟩
  ·
   refine thn (T.item (Cn X N scope sD.heap.objs.size sD (upd H2 D (.lst [])) fp) rfl rfl rfl hc i [] s5 σ5 H5 (λ _ _ => False) I5 (stat fr5) st5 go) λ r s6 ⟨u, hr, h6⟩ => ?_
   subst hr
   refine thn h6 λ _ s7 ⟨x, H7, I7, r7, y7, st7, fr7⟩ => ?_
   have I7' := I7.pinned (stat fr7) (T.obj _ _ st7)
   refine thn (hg _ s7 σ5 H7 x u _ I7' r7 (step x H7 y7)) λ _ s8 ⟨σ8, H8, I8, q8⟩ => ?_
   refine thn (hif _ s8 σ8 H8 _ I8 q8) λ b s9 ⟨H9, I9, q9⟩ => ?_
   have back : ∀ {σ' : St} {H' : Hp} {s' : Shared}, Inv (Cn X N scope sD.heap.objs.size sD (upd H2 D (.lst [])) fp) ([] ++ O5 fp s7.heap) σ' H' s' -> tn (i + 1) s'.heap /\ ∀ b ∈ fp, H' b = none := λ {σ' H' s'} J' =>
    ⟨T.keep _ _ _ st7 λ b hb o e => (J'.pin (b, o) (List.mem_append_right _ (List.mem_append_right _ (C0 hb e)))).1, λ b hb => by
     obtain ⟨o, e, d⟩ := T.obj _ _ st7 b hb
     exact (J'.pin (b, o) (List.mem_append_right _ (List.mem_append_right _ (C0 hb e)))).2.1⟩
   cases b with
   |
    false =>
    obtain ⟨m', hm, w9⟩ := (show ∃ m', m' < n /\ W (i + 1) m' ys σ8 H9 from q9)
    exact ⟨m', hm, i + 1, ys, σ8, H9, I9.unpinned, (back I9).1, (back I9).2, w9⟩
   |
    true =>
    refine thn (hel _ s9 σ8 H9 _ I9 (show te σ8 H9 _ from q9)) λ y s10 ⟨v10, H10, I10, r10, q10⟩ => ?_
    obtain ⟨hD10, hz, m', hm, w10⟩ := q10
    refine thn (Ep (X := Cn X N scope sD.heap.objs.size sD (upd H2 D (.lst [])) fp) _ s10 σ8 H10 (.ref D) [v10] (.ref D) [y] (λ _ H' => H' = upd H10 D (.lst (ys ++ [v10]))) I10 rfl (.cons r10 .nil) ⟨D, ys, v10, rfl, rfl, hD10, hz, rfl⟩) λ _ s11 ⟨v11, H11, I11, _, e11⟩ => ?_
    subst e11
    exact ⟨m', hm, i + 1, ys ++ [v10], σ8, _, I11.unpinned, (back I11).1, (back I11).2, w10⟩
 subst hsD
 subst hD
 exact codeAny_compStart_list loop (T.self _ 0 _ _ _ st4 loop)
section
variable {X : Cx} {x : Str} {pos : Pos} {tg : Expr}
theorem Vr {i : Int} (hg : Gl X x) (hm : ∃ t, X.mg x = some (.int i t)) (hd : (x == ("__debug__" : Str)) = false := by decide) : PE X (.Name x pos) (tC (.int i)) := by
 obtain ⟨t, e⟩ := hm
 exact Yv hg e ⟨t, rfl⟩ hd
theorem Pu {y : Str} (hg : Gl X x) (hm : ∃ t, X.mg x = some (.str y t)) (hd : (x == ("__debug__" : Str)) = false := by decide) : PE X (.Name x pos) (tC (.str y)) := by
 obtain ⟨t, e⟩ := hm
 exact Yv hg e ⟨t, rfl⟩ hd
theorem Oi : OpR X (binaryOp .Mult) (λ x y H Q => ∃ z n, x = .str z /\ y = .int n /\ MulOk z n /\ Q (.str (Txt.mul z n)) H) := by
 intro pins s σ H x y v u Q I rx ry h
 obtain ⟨z, n, rfl, rfl, ok, q⟩ := h
 obtain ⟨t, rfl⟩ := rx
 obtain ⟨t', rfl⟩ := ry
 exact SB.mul ok λ t' k => ⟨.str _, H, I.tok _, ⟨_, rfl⟩, q⟩
theorem Tp : CallR X (.builtin "isinstance") (λ xs H Q => ∃ x T t b, xs = [x, .ty T] /\ Dm X.K H x t /\ W.kitOne X.K t (.type T) = some b /\ Q (.bl b) H) := by
 intro pins s σ H xs us Q I r h
 obtain ⟨x, T, t, b, rfl, ty, e, q⟩ := h
 obtain ⟨u, v, rfl, ru, rv⟩ := r.two
 cases rv
 exact Xf I ru ty e λ tk => ⟨.bl b, H, I.tok tk, rfl, q⟩
theorem Vk : ∀ {bs : List Bool} {us : List Value}, Vals (bs.map V.bl) us -> LSm.BoolsAre us bs
 | [], _, .nil => .nil
 | b :: bs, _, .cons r t => by cases r; exact .cons b (Vk t)
theorem V6 {prog : Program} {w : World} {A : Around} {E : Value -> Shared -> Prop} {s : Shared} {l : Addr} {vs : List Value} {bs : List Bool} {Q : Value -> Shared -> Prop} (hh : A.handled = none) (hl : s.heap.IsList l vs.toArray) (hb : LSm.BoolsAre vs bs)
  (h : ∀ h' tk, (∀ b o, s.heap.get? b = some o -> h'.get? b = some o) -> Q (.bool (bs.all id)) { s with heap := h', toks := tk }) : wpAny (model prog w) A (call (.builtin "all") [.ref l]) Q E s := by
 have hlt : l < s.heap.objs.size := by obtain ⟨_, e, _⟩ := hl; exact Heap.lt_size e
 refine call_all_walk (wpAny_pyIter_list hl ?_)
 refine ⟨s.heap.objs.size, [s.heap.objs.size, l], [s.heap.objs.size], vs.toArray.size, _, _, λ i => (bs[i]?).getD true, rfl, Walks.list (A := A.in1) hh _ l (Nat.ne_of_lt hlt) vs.toArray,
  ⟨⟨_, Heap.get?_push_size _ rfl, rfl, rfl⟩, hl.push _⟩, λ i v s' Q' E' hP hQ => ?_, λ h' tk hk => ?_⟩
 ·
  obtain ⟨b, e, rfl⟩ := hb.get i v (by simpa using hP)
  simp only [e, Option.getD_some] at hQ
  exact wpAny_truthy_bool hQ
 ·
  have e : ((List.range vs.toArray.size).all λ i => (bs[i]?).getD true) = bs.all id := by
   rw [List.size_toArray, hb.length]; exact LSm.range_all bs
  rw [e]
  exact h h' tk (LSm.kept_iter hk)
theorem b3 (hc : X.calm = true) : CallR X (.builtin "all") (λ xs H Q => ∃ (p : Addr) (bs : List Bool), xs = [.ref p] /\ SqL X.K H p (bs.map V.bl) /\ Q (.bl (bs.all id)) H) := by
 intro pins s σ H xs us Q I r h
 obtain ⟨p, bs, rfl, hq, q⟩ := h
 obtain ⟨u, rfl, ru⟩ := r.one
 cases ru
 obtain ⟨its, rv, pl, hz⟩ := I.list hq
 exact V6 (I.ok.hd hc) pl.isList (Vk rv) λ h' tk hk => ⟨.bl _, H, I.kept hk, rfl, q⟩
def Its (y : Str) : It := ⟨λ i _ => i < y.cps.size, λ i H x H' => H' = H /\ ∃ c, y.cps[i]? = some c /\ x = .str ⟨#[c]⟩, λ i _ => i = y.cps.size⟩
theorem Ro {prog : Program} {w : World} {A : Around} (hh : A.handled = none) (I : Addr) (y : Str) (t : Tok) : Walks prog w A I [I] [I] y.cps.size (SignAt y) (λ i h => h.IsStrIter I (strIterType y) y t i) := by
 unfold strIterType
 split
 · exact Walks.strAscii hh I y t
 · exact Walks.strWide hh I y t
theorem ae {P : Program} {w : World} {K : W.Frag} (y : Str) (t : Tok) (it : Addr) : Turn P w K tg (Its y) [it] it (λ i h => h.IsStrIter it (strIterType y) y t i) where
 mem := by simp
 obj := λ i h st b hb => by
  have e : b = it := by simpa using hb
  subst e
  obtain ⟨o, e, c, d⟩ := st
  exact ⟨o, e, λ v z => by rw [d] at z; cases z⟩
 keep := λ i h h' st k => by
  obtain ⟨o, e, r⟩ := st
  exact ⟨o, k it (by simp) o e, r⟩
 item := by
  intro X hP hw hK hc i pins s σ H E I hf st hg
  subst hP hw hK
  obtain ⟨f0, f1, f2, f3, f4, f5⟩ := hf it (by simp)
  have W := Ro (prog := X.prog) (w := X.w) (I.ok.hd hc) it y t
  refine W.item i s _ _ hg st λ v h' tk hv st' kk => ?_
  obtain ⟨c, t', hc', rfl⟩ := hv
  have I1 : Inv X pins σ H { s with heap := h', toks := tk } := I.turned (λ b o hb e => kk b o (by simpa using hb) e) f0 f1 f3 f4 f5
  obtain ⟨o, e, c1, d⟩ := id st'
  refine ⟨_, rfl, Z4 (s := { s with heap := h', toks := tk }) (n := strIterType y) e c1 d ?_ ⟨.str ⟨#[c]⟩, H, I1, ⟨t', rfl⟩, ⟨rfl, c, hc', rfl⟩, st', λ b hb => (hf b hb).1⟩⟩
  unfold strIterType
  split <;> decide
 done := by
  intro X hP hw hK hc i pins s σ H E I hf st hg
  subst hP hw hK
  have hg' : i = y.cps.size := hg
  subst hg'
  obtain ⟨f0, f1, f2, f3, f4, f5⟩ := hf it (by simp)
  have W := Ro (prog := X.prog) (w := X.w) (I.ok.hd hc) it y t
  exact W.done s _ _ st λ h' tk kk => ⟨rfl, I.turned (λ b o hb e => kk b o (by simpa using hb) e) f0 f1 f3 f4 f5⟩
 self := λ A i s Q E st h => by
  obtain ⟨o, e, c, d⟩ := id st
  revert st c
  unfold strIterType
  split
  · intro st c; exact wpAny_pyIter_striter_ascii st h
  · intro st c; exact wpAny_pyIter_striter_wide st h
def vw (tl : TE) : TI := λ σ H R => tl σ H λ x H1 => ∃ y, x = .str y /\ R (Its y) H1
theorem ki {l : Expr} {tl : TE} (hl : PE X l tl) : PI X tg l (vw tl) := by
 intro pins s σ H R I h
 refine thn (hl pins s σ H _ I h) λ v s1 ⟨x, H1, I1, r1, q1⟩ => ?_
 obtain ⟨y, e, q⟩ := q1
 subst e
 obtain ⟨t, rfl⟩ := r1
 refine wpAny_pyIter_strU ?_
 refine ⟨s1.heap.objs.size, [s1.heap.objs.size], _, _, H1, rfl, I1.kept (t' := s1.toks) λ b o e => Heap.get?_push_of_some _ e, ae y t _, ⟨_, Heap.get?_push_size _ rfl, rfl, rfl⟩, λ b hb => ?_, q⟩
 have e : b = s1.heap.objs.size := by simpa using hb
 subst e
 exact I1.fpOk (Nat.le_refl _) (I1.hok.fresh (Nat.le_refl _))
end
structure FunD (K : W.Frag) (x qual : Str) (st : Stmt) (f : Addr) (fd : FuncData) : Prop where
 ex : ∃ (oc : Value) (od : Option Addr) (dV kV doc pm : Value) (an : Option Addr) (cdv ct : Value) (osl : Array (Option Value)),
  fd = W.fnOf x qual (A7 st) (Av st) (Ac st) dV kV doc pm an cdv ct /\ K.lookup f = some ⟨oc, od, .func fd, osl⟩ /\ W.codeIn K cdv qual = true
 kp : W.keepIn K (.ref f) = true
section
variable {P : Program} {w : World} {K : W.Frag} {mg : Str -> Option Value} {base : Heap}
theorem FunD.ok {cm : Bool} {x qual : Str} {st : Stmt} {f : Addr} {fd : FuncData} {N ps : List Str} {k : Nat} {sp : Sp} (F : FunD K x qual st f fd) (S : Ax N ps (Ac st)) (len : ∀ vs H Q E, sp vs H Q E -> vs.length = ps.length)
  (hbody : ∀ (cdv : Value) (A : Around) (outer : List Env) (s : Shared) (H : Hp) (vs : List V) (Q : VK) (E : XK), Room cm k (A.deeper (envOfC qual (Ac st) s.heap.objs.size f cdv)) -> sp vs H Q E ->
   ∃ t, PSs (c9 CX0 cm P w K mg base N qual (Ac st) f cdv A outer s H E).nox (Av st) t /\ t { nx := λ _ H' => Q .non H', rt := λ _ => Q } (start N vs) H) : FnOk P w K mg base CX0 cm (k + 1) f fd ps sp := by
 obtain ⟨oc, od, dV, kV, doc, pm, an, cdv, ct, osl, rfl, lk, hcd⟩ := F.ex
 exact kr lk hcd S len λ A outer s H vs Q E hr h => by
  obtain ⟨t, ht, q⟩ := hbody cdv A outer s H vs Q E hr h
  exact ⟨t, ht.nox, q⟩
end
def Seq (J : It) (H : Hp) (xs : List V) : Prop := ∀ H', Same H H' -> (∀ (i : Nat) x, xs[i]? = some x -> J.go i H' /\ ∀ x' H2, J.yld i H' x' H2 -> x' = x /\ H2 = H') /\ J.stop xs.length H'
theorem Seq.up {J : It} {H H' : Hp} {xs : List V} (h : Seq J H xs) (s : Same H H') : Seq J H' xs := λ H2 s2 => h H2 (s.trans s2)
theorem iw (y : Str) (H : Hp) : Seq (Its y) H (y.cps.toList.map λ c => .str ⟨#[c]⟩) := λ H' _ => by
 refine ⟨λ i x e => ?_, ?_⟩
 ·
  rw [List.getElem?_map] at e
  cases q : y.cps.toList[i]? with
  | none => rw [q] at e; cases e
  |
   some c =>
   rw [q] at e
   have q' : y.cps[i]? = some c := by simpa using q
   refine ⟨(Array.getElem?_eq_some_iff.mp q').1, λ x' H2 hy => ?_⟩
   obtain ⟨e1, c', e2, e3⟩ := hy
   rw [q'] at e2
   cases e2
   exact ⟨e3.trans (Option.some.inj e), e1⟩
 ·
  show _ = _
  simp
theorem Gh (lo : Int) (n : Nat) (H : Hp) : Seq (Itr lo n) H ((List.range n).map λ (i : Nat) => V.int (lo + (i : Int))) := λ H' _ => by
 refine ⟨λ i x e => ?_, ?_⟩
 ·
  have hi : i < n := by
   have := (List.getElem?_eq_some_iff.mp e).1
   simpa using this
  refine ⟨hi, λ x' H2 hy => ?_⟩
  obtain ⟨e1, e2⟩ := hy
  rw [List.getElem?_map, List.getElem?_range hi] at e
  exact ⟨e2.trans (Option.some.inj e), e1⟩
 ·
  show n <= _
  simp
theorem Bz {K : W.Frag} {H : Hp} {a : Addr} {xs : List V} (h : SqL K H a xs) : Seq (Itl K a) H xs := λ H' s => by
 have h' := s.seq h
 refine ⟨λ i x e => ⟨⟨xs, x, h', e⟩, λ x' H2 hy => ?_⟩, ⟨xs, h', Nat.le_refl _⟩⟩
 obtain ⟨e1, e2⟩ := hy
 have := e2 xs h'
 rw [e] at this
 exact ⟨(Option.some.inj this).symm, e1⟩
theorem Same.seqT {K : W.Frag} {H H' : Hp} {a : Addr} {xs : List V} (e : Same H H') (h : SqT K H a xs) : SqT K H' a xs := by
 rcases h with (h | ⟨o, h⟩) | h
 · exact .inl (.inl (e _ _ h))
 · exact .inl (.inr ⟨o, e _ _ h⟩)
 · exact .inr h
theorem Hr {K : W.Frag} {H : Hp} {a : Addr} {xs : List V} (h : SqT K H a xs) : Seq (Itt K a) H xs := λ H' s => by
 have h' := s.seqT h
 refine ⟨λ i x e => ⟨⟨xs, x, h', e⟩, λ x' H2 hy => ?_⟩, ⟨xs, h', Nat.le_refl _⟩⟩
 obtain ⟨e1, e2⟩ := hy
 have := e2 xs h'
 rw [e] at this
 exact ⟨(Option.some.inj this).symm, e1⟩
theorem Ag {H : Hp} {p : Addr} {o : HO} (h : H p = none) : Same H (upd H p o) := λ b u e => by rw [Al (Aq e h)]; exact e
theorem Lf {J : It} {xs : List V} {g : TG} {tb : TS} {D : Ends} {σ : St} {H0 H : Hp} (hJ : Seq J H0 xs) (Pv : Nat -> St -> Hp -> Prop) (h0 : Pv 0 σ H) (hsm : ∀ i σ H, i <= xs.length -> Pv i σ H -> Same H0 H)
  (hs : ∀ (i : Nat) x σ H, xs[i]? = some x -> Pv i σ H -> g x σ H λ σ2 H2 => tb { D with nx := Pv (i + 1), ct := Pv (i + 1), bk := D.nx } σ2 H2) (hd : ∀ σ H, Pv xs.length σ H -> D.nx σ H) :
  ∃ W : Nat -> Nat -> St -> Hp -> Prop, (∃ m, W 0 m σ H) /\ ∀ i m σ H, W i m σ H ->
   (J.stop i H /\ D.nx σ H) ∨ (J.go i H /\ ∃ N : St -> Hp -> Prop, (∀ σ' H', N σ' H' -> ∃ m', m' < m /\ W (i + 1) m' σ' H') /\ ∀ x H', J.yld i H x H' -> g x σ H' λ σ2 H2 => tb { D with nx := N, ct := N, bk := D.nx } σ2 H2) := by
 refine ⟨λ i m σ H => m = xs.length - i /\ i <= xs.length /\ Pv i σ H, ⟨xs.length, by simp, Nat.zero_le _, h0⟩, ?_⟩
 rintro i m σ H ⟨rfl, hi, p⟩
 obtain ⟨q1, q2⟩ := hJ H (hsm i σ H hi p)
 by_cases hlt : i < xs.length
 ·
  have e : xs[i]? = some xs[i] := by simp [hlt]
  obtain ⟨go, y⟩ := q1 i _ e
  refine .inr ⟨go, Pv (i + 1), λ σ' H' p' => ⟨xs.length - (i + 1), by omega, rfl, hlt, p'⟩, λ x H' hy => ?_⟩
  obtain ⟨rfl, rfl⟩ := y x H' hy
  exact hs i _ σ _ e p
 ·
  have e : i = xs.length := by omega
  subst e
  exact .inl ⟨q2, hd σ H p⟩
theorem Bl {J : It} {cap : List (Option Nat)} {tt : TT} {te : TE} {σ : St} {H1 : Hp} {Q : VK} {xs : List V} (hJ : Seq J H1 xs) (p : V -> Bool) (f : V -> V) (hsz : xs.length <= 100000)
  (hp : ∀ x ∈ xs, ∀ H', Same H1 H' -> ∀ R : Bool -> Hp -> Prop, (∀ H'', Same H' H'' -> R (p x) H'') -> tt ((L1 cap σ).set 0 (some x)) H' R)
  (he : ∀ x ∈ xs, p x = true -> ∀ H', Same H1 H' -> ∀ R : VK, (∀ H'', Same H' H'' -> R (f x) H'') -> te ((L1 cap σ).set 0 (some x)) H' R)
  (k : ∀ D H', Same H1 H' -> H1 D = none -> H' D = some (.lst ((xs.filter p).map f)) -> Q (.ref D) H') :
  Kj J H1 cap (Nt 0) tt te σ Q := by
 intro D hD
 refine ⟨λ i m ys σ' H' => m = xs.length - i /\ i <= xs.length /\ (∀ v, σ'.set 0 v = (L1 cap σ).set 0 v) /\ H' D = some (.lst ys) /\ Same H1 H' /\ ys = ((xs.take i).filter p).map f,
  ⟨xs.length, by simp, Nat.zero_le _, λ _ => rfl, Ae, Ag hD, by simp⟩, ?_⟩
 rintro i m ys σ' H' ⟨rfl, hi, hσ, hl, sm, hys⟩
 refine ⟨hl, ?_⟩
 obtain ⟨q1, q2⟩ := hJ H' sm
 by_cases hlt : i < xs.length
 ·
  have e : xs[i]? = some xs[i] := by simp [hlt]
  obtain ⟨go, y⟩ := q1 i _ e
  refine .inr ⟨go, λ x H2 hy => ?_⟩
  obtain ⟨rfl, rfl⟩ := y x H2 hy
  have hm : xs[i] ∈ xs := List.getElem_mem hlt
  have etake : xs.take (i + 1) = xs.take i ++ [xs[i]] := by rw [List.take_add_one, e]; rfl
  show tt (σ'.set 0 (some xs[i])) _ _
  rw [hσ]
  refine hp _ hm _ sm _ λ H4 s4 => ?_
  have hss : ∀ v, ((L1 cap σ).set 0 (some xs[i])).set 0 v = (L1 cap σ).set 0 v := λ v => by rw [List.set_set]
  cases hb : p xs[i] with
  |
   false =>
   refine Ff ⟨xs.length - (i + 1), by omega, rfl, hlt, hss, s4 _ _ hl, sm.trans s4, ?_⟩
   rw [etake, List.filter_append, hys]
   simp [hb]
  |
   true =>
   refine Ij ?_
   refine he _ hm hb _ (sm.trans s4) _ λ H5 s5 => ?_
   have hl5 := s5 _ _ (s4 _ _ hl)
   refine ⟨hl5, ?_, xs.length - (i + 1), by omega, rfl, hlt, hss, Ae, λ b o eb => ?_, ?_⟩
   ·
    have h1 : ys.length <= xs.length := by
     rw [hys, List.length_map]
     exact Nat.le_trans (List.length_filter_le _ _) (List.length_take_le' _ _)
    have h2 : (100000 : Nat) < sizeLine := by decide
    omega
   ·
    rw [Al (Aq eb hD)]
    exact s5 _ _ (s4 _ _ (sm _ _ eb))
   ·
    rw [etake, List.filter_append, hys]
    simp [hb]
 ·
  have e : i = xs.length := by omega
  subst e
  refine .inl ⟨q2, k D _ sm hD ?_⟩
  rw [hl, hys, List.take_length]
section
variable {X : Cx}
theorem R3 : OpR X (compareOp .In) (λ x y H Q => ∃ c j, x = .str ⟨#[c]⟩ /\ y = .str j /\ Q (.bl (decide (c ∈ j.cps.toList))) H) := by
 intro pins s σ H x y v u Q I rx ry h
 obtain ⟨c, j, rfl, rfl, q⟩ := h
 refine Yh pins s σ H _ _ v u Q I rx ry ⟨_, j, rfl, rfl, ?_⟩
 rw [StrLaws.found_one]
 exact q
end
theorem Xz {α : Type} {xs : List α} {i : Int} (h0 : 0 <= i) (h1 : i < xs.length) : atI xs i = some (xs[i.toNat]'(by omega)) := by
 have := Bb (xs := xs) (j := i.toNat) (v := xs[i.toNat]'(by omega)) (by simp)
 rw [show ((i.toNat : Nat) : Int) = i by omega] at this
 exact this
theorem Kl {ts : List Str} {i : Int} (h0 : 0 <= i) (h1 : i < ts.length) : ∃ t, t ∈ ts /\ atI (ts.map V.str) i = some (.str t) := by
 refine ⟨ts[i.toNat]'(by omega), List.getElem_mem _, ?_⟩
 rw [Xz h0 (by simpa using h1)]
 simp
theorem Vm {ts : List Int} {i : Int} (h0 : 0 <= i) (h1 : i < ts.length) : ∃ t, t ∈ ts /\ atI (ts.map V.int) i = some (.int t) := by
 refine ⟨ts[i.toNat]'(by omega), List.getElem_mem _, ?_⟩
 rw [Xz h0 (by simpa using h1)]
 simp
def litOf : Expr -> Option V
 | .Constant (.int i) _ _ => some (.int i)
 | .Constant (.str x) _ _ => some (.str x)
 | .Constant (.bool b) _ _ => some (.bl b)
 | .Constant .none _ _ => some .non
 | .UnaryOp .USub (.Constant (.int i) _ _) _ => some (.int (-i))
 | _ => none
def litsOf : List Expr -> Option (List V)
 | [] => some []
 |
  e :: r => match litOf e, litsOf r with
  | some v, some vs => some (v :: vs)
  | _, _ => none
theorem k3 {X : Cx} {e : Expr} {v : V} (h : litOf e = some v) : PE X e (tC v) /\ ∀ es : List Expr, starEach (e :: es) X.env = (false, eval e X.env) :: starEach es X.env := by
 unfold litOf at h
 split at h
 · cases h; exact ⟨Ab, λ _ => rfl⟩
 · cases h; exact ⟨Bm, λ _ => rfl⟩
 · cases h; exact ⟨Hw, λ _ => rfl⟩
 · cases h; exact ⟨Fx, λ _ => rfl⟩
 ·
  rename_i i j p q
  cases h
  refine ⟨λ pins s σ H Q I hq => mq Yc Ab pins s σ H Q I ⟨_, rfl, hq⟩, λ _ => rfl⟩
 · cases h
theorem U2 {X : Cx} : ∀ {es : List Expr} {vs : List V}, litsOf es = some vs -> PA X es (λ _ H Q => Q vs H)
 | [], vs, h => by cases h; exact Ad
 |
  e :: r, vs, h => by
  unfold litsOf at h
  split at h
  ·
   rename_i v ws h1 h2
   cases h
   have p := k3 (X := X) h1
   exact Aa p.1 (U2 h2) (p.2 r)
  · cases h
def litsAre (es : List Expr) (vs : List V) : Bool := decide (litsOf es = some vs)
theorem Ig {X : Cx} {es : List Expr} (vs : List V) (h : litsAre es vs = true) : PA X es (λ _ H Q => Q vs H) := U2 (of_decide_eq_true h)
end L2
namespace L2
end L2
namespace L2
open PySem PySem.Spec PyProof.Rows
theorem HOk.tracked {P : Program} {w : World} {H : Hp} {h h' : Heap} (x : HOk P w H h) (k : ∀ b u o, H b = some u -> h.get? b = some o -> h'.get? b = some o) : HOk P w H h' := λ a o e =>
 (x a o e).stay (λ b u hb q => by
  rcases hb with hb | hb
  · subst hb; exact k _ _ _ e q
  · exact k _ _ _ hb q) (λ _ q => q) λ _ _ q => q
theorem HOk.there {P : Program} {w : World} {H : Hp} {h : Heap} {b : Addr} {v : HO} (ok : HOk P w H h) (e : H b = some v) : ∃ o', h.get? b = some o' := by
 have := ok b v e
 cases v with
 | lst xs => obtain ⟨_, _, _, _, z⟩ := this; exact ⟨_, z⟩
 | tup xs => obtain ⟨_, _, _, o, z, _⟩ := this; exact ⟨_, z⟩
 | dK kvs => obtain ⟨_, _, _, _, o, _, _, z, _⟩ := this; exact ⟨_, z⟩
 | dT kvs => obtain ⟨_, _, _, _, o, _, _, z, _⟩ := this; exact ⟨_, z⟩
 | set S n => obtain ⟨o, _, _, _, z, _⟩ := this; exact ⟨_, z⟩
 | ins C dx fs => obtain ⟨_, _, _, z, _⟩ := this; exact ⟨_, z⟩
 | own y => exact this
 | xd fs => obtain ⟨_, ⟨_, _, _, z, _⟩, _⟩ := this; exact ⟨_, z⟩
 | rng lo hi => obtain ⟨_, _, _, z⟩ := this; exact ⟨_, z⟩
 | frz ob u => obtain ⟨z, _⟩ := this; exact ⟨_, z⟩
 | tbl ps => exact ⟨_, this⟩
 | met f y => exact ⟨_, this⟩
 | ext φ => exact this.2.1
section
variable {X : Cx} {pins : List (Addr × Obj)} {σ : St} {H H' : Hp} {s : Shared} {h h2 B : Heap}
end
section
variable {cm : Bool} {P : Program} {w : World} {K : W.Frag} {mg : Str -> Option Value} {base : Heap} {N : List Str} {qual : Str} {scope : Scope} {f : Addr} {cd : Value} {A : Around} {outer : List Env} {s : Shared} {H : Hp} {E : XK}
end
section
variable {X : Cx} {E : XK} {x : Str} {C : Addr} {np cpos pos : Pos} {e0 : Expr} {es : List Expr} {t : TA}
end
def Cx.hnd (X : Cx) (e : Value) : Cx := { X with A := X.A.mark (some e), calm := false, xe := λ _ _ => False }
theorem Inv.hnd {X : Cx} {pins : List (Addr × Obj)} {σ : St} {H : Hp} {s : Shared} (I : Inv X pins σ H s) (e : Value) : Inv (X.hnd e) pins σ H s :=
 ⟨⟨
  I.ok.mod, I.ok.kind, I.ok.glob, I.ok.blt, I.ok.above, I.ok.inj, I.ok.has, I.ok.cab, (λ z => nomatch z), I.ok.frames, I.ok.stk, I.ok.exf, I.ok.bs, I.ok.bsz, I.ok.noex, I.ok.exfs, I.ok.funs, I.ok.frf⟩,
  I.os, I.bare, I.base, I.loc, I.cell, I.free, I.freeC, I.pin, I.hok, I.len⟩
section
variable {X : Cx} {CX : CXT} {cm : Bool} {k : Nat} {f : Addr} {fd : FuncData} {ps : List Str} {sp : Sp} {dvs : List V} {ds : List Value} {E : St -> XK} {x : Str} {p pos : Pos} {e : Expr} {es : List Expr} {t : TA}
end
structure Catch (K : W.Frag) (Cc : Addr) : Prop where
 ty : W.typeIn K (.ref Cc) = some (.type "type")
 mb : W.mroIn K Cc (.type "BaseException") = some true
theorem Catch.cls {K : W.Frag} {Cc : Addr} (c : Catch K Cc) : ∃ cd, W.clsIn K Cc = some cd := by
 obtain ⟨cd, a, _⟩ := Option.bind_eq_some_iff.mp c.mb
 exact ⟨cd, a⟩
section
variable {X : Cx} {pins pins' : List (Addr × Obj)} {σ : St} {H H' : Hp} {s : Shared} {Eb : Value -> Shared -> Prop} {h h2 B : Heap}
end
section
variable {X : Cx}
end
section
variable {X : Cx}
end
end L2
namespace L2
open PySem PySem.Spec PySem.Calls PyProof.Rows Builtin Builtin.ObjectAttr Builtin.Getset_descriptor
structure ExC (K : W.Frag) (C : Addr) : Prop where
 cs : (W.clsIn K C).isSome = true
 ga : W.findIn K (.ref C) "__getattribute__" = some (some (.builtin "BaseException.__getattribute__"))
 gn : W.findIn K (.ref C) "__getattr__" = some none
 ca : W.findIn K (.ref C) "__class__" = some (some (.builtin "object.__class__"))
 sg : W.specialIn K (.builtin "object.__class__") "__get__" = some (some (.builtin "getset_descriptor.__get__"))
 tk : W.takesIn K (.builtin "object.__class__") = some true
 mo : W.mroIn K C (.type "object") = some true
 mb : W.mroIn K C (.type "BaseException") = some true
def ExcAt (e C : Addr) (h : Heap) : Prop := ∃ oe, h.get? e = some oe /\ oe.cls = .ref C
theorem ExcAt.type {M : Model} {e C : Addr} {h : Heap} (p : ExcAt e C h) : W.Looks M h (typeOf (.ref e)) (.ref C) := by
 obtain ⟨oe, a, b⟩ := p
 exact b ▸ (W.Looks.ld a).andThen .now
section
variable {prog : Program} {w : World} {K : W.Frag} {e C : Addr}
end
section
variable {X : Cx}
end
theorem Room.mark {cm : Bool} {k : Nat} {A : Around} (r : Room cm k A) (v : Option Value) : Room false k (A.mark v) := ⟨(λ z => nomatch z), r.dp, r.un⟩
section
variable {X : Cx} {pins pins' : List (Addr × Obj)} {σ : St} {H H' : Hp} {s : Shared} {h h2 B : Heap} {ea C : Addr}
end
end L2
namespace L2
open PySem PySem.Spec PyProof.Rows
section
variable {X : Cx} {K : W.Frag} (hK : X.K = K)
include hK
theorem Ah : IxR X (pw K) := by subst hK; exact dv
theorem By : IxR X (qd K) := by subst hK; exact Yz
theorem Z8 : SlR X (uo K) := by subst hK; exact i5
theorem E9 : OpR X (compareOp .In) (rIn K false) := by subst hK; exact Y6
theorem G2 : OpR X (compareOp .NotIn) (rIn K true) := by subst hK; exact Sz
theorem Ao : CallR X (.builtin "len") (λ xs H Q => ∃ p ys, xs = [.ref p] /\ (SqL K H p ys ∨ SqT K H p ys) /\ Q (.int ys.length) H) := by subst hK; exact Rz
theorem Bu : CallR X (.type "tuple") (λ xs H Q => ∃ p ys, xs = [.ref p] /\ ((SqL K H p ys /\ ∀ l, H l = none -> Q (.ref l) (upd H l (.tup ys))) ∨ (SqT K H p ys /\ Q (.ref p) H))) := by subst hK; exact Qf
theorem Bk : CallR X (.builtin "isinstance") (λ xs H Q => ∃ x T t b, xs = [x, .ty T] /\ Dm K H x t /\ W.kitOne K t (.type T) = some b /\ Q (.bl b) H) := by subst hK; exact Tp
theorem Ik (hc : X.calm = true) : CallR X (.builtin "all") (λ xs H Q => ∃ (p : Addr) (bs : List Bool), xs = [.ref p] /\ SqL K H p (bs.map V.bl) /\ Q (.bl (bs.all id)) H) := by subst hK; exact b3 hc
theorem Bx {tg l : Expr} {tl : TE} (hl : PE X l tl) : PI X tg l (kn K tl) := by subst hK; exact ip hl
theorem Gq {tg l : Expr} {tl : TE} (hl : PE X l tl) : PI X tg l (sv K tl) := by subst hK; exact kf hl
end
end L2
set_option maxHeartbeats 1000000
namespace L2
open PySem PySem.W PyProof.Rows
section
variable {O : KeyOrd} {key : Nat -> O.α} {n : Nat} {cmp : Nat -> Nat -> (Bool -> Shared -> Prop) -> Shared -> Prop} {s : Shared}
def ka {O : KeyOrd} (key : Nat -> O.α) (p : Array Nat) (i : Nat) : O.α := key (p.getD i 0)
def Up {O : KeyOrd} (key : Nat -> O.α) (p : Array Nat) (k : Nat) : Prop := ∀ i j, i <= j -> j < k -> O.kle (ka key p i) (ka key p j)
def Down {O : KeyOrd} (key : Nat -> O.α) (p : Array Nat) (k : Nat) : Prop := ∀ i j, i <= j -> j < k -> O.kle (ka key p j) (ka key p i)
def Rg (n : Nat) (p : Array Nat) : Prop := p.Perm (List.toArray (List.range n))
def bt {O : KeyOrd} (key : Nat -> O.α) (n : Nat) (cmp : Nat -> Nat -> (Bool -> Shared -> Prop) -> Shared -> Prop) (s : Shared) : Prop := ∀ i j C, i < n -> j < n -> C (O.blt (key i) (key j)) s -> cmp i j C s
theorem Rg.size {p : Array Nat} (h : Rg n p) : p.size = n := by rw [Array.Perm.size_eq h]; simp
theorem Rg.at {p : Array Nat} (h : Rg n p) {i : Nat} (hi : i < n) : p.getD i 0 < n := by
 have hz := h.size
 have e : p.getD i 0 = p[i]'(by omega) := by simp [Array.getD, show i < p.size by omega]
 have hm : p[i]'(by omega) ∈ p.toList := by simp
 have := (Array.perm_iff_toList_perm.mp h).mem_iff.mp hm
 simp at this
 omega
theorem Kk {p q : Array Nat} {i j : Nat} (h : p[i]? = q[j]?) : ka key p i = ka key q j := by
 unfold ka
 rw [Array.getD_eq_getD_getElem?, Array.getD_eq_getD_getElem?, h]
theorem Yd {p : Array Nat} {i j : Nat} (hj : j <= p.size) (k : Nat) : ka key (kas_rev p i j) k = if i <= k /\ k < j then ka key p (i + j - 1 - k) else ka key p k := by
 have e := getElem?_mirror_all (xs := p) (i := i) hj k
 by_cases h : i <= k /\ k < j
 · rw [if_pos h] at e ⊢; exact Kk e
 · rw [if_neg h] at e ⊢; exact Kk e
theorem Nk {p : Array Nat} {i j : Nat} (hj : j <= p.size) (heq : ∀ k, i <= k -> k < j -> ka key p k = ka key p (j - 1)) (k : Nat) : ka key (kas_rev p i j) k = ka key p k := by
 rw [Yd hj]
 split
 · rw [heq _ (by omega) (by omega), heq k (by omega) (by omega)]
 · rfl
theorem Rg.rev {p : Array Nat} (h : Rg n p) (i j : Nat) : Rg n (kas_rev p i j) := (mirror_perm p i j _).trans h
theorem Rg.bub {p : Array Nat} (h : Rg n p) (k d : Nat) : Rg n (bubble p k d) := (bubble_perm p k d).trans h
theorem Up.more {p : Array Nat} {k : Nat} (h : Up key p k) (hk : O.blt (ka key p k) (ka key p (k - 1)) = false) : Up key p (k + 1) := by
 intro i j hij hj
 by_cases hjk : j < k
 · exact h i j hij hjk
 ·
  obtain rfl : j = k := by omega
  by_cases hi : i = j
  · rw [hi]; exact KeyOrd.kle_refl _
  · exact KeyOrd.kle_trans (h i (j - 1) (by omega) (by omega)) hk
theorem Down.more {p q : Array Nat} {k : Nat} (h : Down key p k) (e : ∀ i, ka key q i = ka key p i) (hk : O.kle (ka key p k) (ka key p (k - 1))) : Down key q (k + 1) := by
 intro i j hij hj
 rw [e, e]
 by_cases hjk : j < k
 · exact h i j hij hjk
 ·
  obtain rfl : j = k := by omega
  by_cases hi : i = j
  · rw [hi]; exact KeyOrd.kle_refl _
  · exact KeyOrd.kle_trans hk (h i (j - 1) (by omega) (by omega))
theorem Zq {p : Array Nat} (hc : bt key n cmp s) (hp : Rg n p) {Q : Nat -> Shared -> Prop} : ∀ (f a : Nat), 1 <= a -> a + f <= n -> Up key p a ->
  (∀ m, a <= m -> m <= a + f -> Up key p m -> (m = a + f ∨ O.klt (ka key p m) (ka key p (m - 1))) -> Q m s) -> (kas_asc p f a).kasWp cmp Q s
 | 0, a, _, _, hu, h => h a (Nat.le_refl _) (Nat.le_refl _) hu (.inl rfl)
 |
  f + 1, a, h1, hz, hu, h => by
  refine hc _ _ _ (hp.at (by omega)) (hp.at (by omega)) ?_
  show (if O.blt (ka key p a) (ka key p (a - 1)) = true then KasT.ret a else kas_asc p f (a + 1)).kasWp cmp Q s
  cases e : O.blt (ka key p a) (ka key p (a - 1)) with
  | true => exact h a (Nat.le_refl _) (by omega) hu (.inr e)
  | false => exact Zq hc hp f (a + 1) (by omega) (by omega) (hu.more e) λ m m1 m2 m3 m4 => h m (by omega) (by omega) m3 (m4.imp_left λ z => by omega)
def Eqs {O : KeyOrd} (key : Nat -> O.α) (p : Array Nat) (m q : Nat) : Prop := q + 1 <= m /\ ∀ i, m - (q + 1) <= i -> i < m -> ka key p i = ka key p (m - 1)
theorem Eqs.zero {p : Array Nat} {m : Nat} (h : 1 <= m) : Eqs key p m 0 := ⟨by omega, λ i h1 h2 => by rw [show i = m - 1 by omega]⟩
theorem Pc (hc : bt key n cmp s) {Q : Array Nat × Nat × Nat -> Shared -> Prop} : ∀ (f : Nat) (p : Array Nat) (a q : Nat), Rg n p -> 1 <= a -> a + f <= n -> Down key p a -> Eqs key p a q ->
  (∀ p' m q', Rg n p' -> a <= m -> m <= a + f -> Down key p' m -> Eqs key p' m q' -> Q (p', m, q') s) -> (kas_desc f p a q).kasWp cmp Q s
 | 0, p, a, q, hp, _, _, hd, he, h => h p a q hp (Nat.le_refl _) (Nat.le_refl _) hd he
 |
  f + 1, p, a, q, hp, h1, hz, hd, he, h => by
  refine hc _ _ _ (hp.at (by omega)) (hp.at (by omega)) ?_
  show (if O.blt (ka key p a) (ka key p (a - 1)) = true then (if q > 0 then kas_desc f (kas_rev p (a - (q + 1)) a) (a + 1) 0 else kas_desc f p (a + 1) 0)
   else KasT.ask (p.getD (a - 1) 0) (p.getD a 0) λ d => if d = true then KasT.ret (p, a, q) else kas_desc f p (a + 1) (q + 1)).kasWp cmp Q s
  have hs := hp.size
  cases e : O.blt (ka key p a) (ka key p (a - 1)) with
  |
   true =>
   rw [if_pos rfl]
   by_cases hq : q > 0
   ·
    rw [if_pos hq]
    exact Pc hc f _ (a + 1) 0 (hp.rev _ _) (by omega) (by omega) (hd.more (Nk (by omega) he.2) (KeyOrd.kle_of_klt e)) (.zero (by omega)) λ p' m q' r1 r2 r3 r4 r5 => h p' m q' r1 (by omega) (by omega) r4 r5
   ·
    rw [if_neg hq]
    exact Pc hc f _ (a + 1) 0 hp (by omega) (by omega) (hd.more (λ _ => rfl) (KeyOrd.kle_of_klt e)) (.zero (by omega)) λ p' m q' r1 r2 r3 r4 r5 => h p' m q' r1 (by omega) (by omega) r4 r5
  |
   false =>
   rw [if_neg (by simp)]
   refine hc _ _ _ (hp.at (by omega)) (hp.at (by omega)) ?_
   show (if O.blt (ka key p (a - 1)) (ka key p a) = true then KasT.ret (p, a, q) else kas_desc f p (a + 1) (q + 1)).kasWp cmp Q s
   cases e2 : O.blt (ka key p (a - 1)) (ka key p a) with
   | true => exact h p a q hp (Nat.le_refl _) (by omega) hd he
   |
    false =>
    rw [if_neg (by simp)]
    have eq : ka key p a = ka key p (a - 1) := KeyOrd.kle_antisymm e2 e
    refine Pc hc f _ (a + 1) (q + 1) hp (by omega) (by omega) (hd.more (λ _ => rfl) (by rw [eq]; exact KeyOrd.kle_refl _)) ⟨by have := he.1; omega, λ i i1 i2 => ?_⟩ λ p' m q' r1 r2 r3 r4 r5 => h p' m q' r1 (by omega) (by omega) r4 r5
    rw [show a + 1 - 1 = a by omega]
    by_cases hi : i = a
    · rw [hi]
    · rw [eq]; exact he.2 i (by omega) (by omega)
theorem Yi (hc : bt key n cmp s) {Q : Nat × Array Nat -> Shared -> Prop} {p : Array Nat} {a : Nat} (hp : Rg n p) (h1 : 1 <= a) (hz : a <= n) (hd : Down key p a)
  (h : ∀ m p', Rg n p' -> 1 <= m -> m <= n -> Up key p' m -> Q (m, p') s) : (kas_tail3 a n p).kasWp cmp Q s := by
 unfold kas_tail3
 rw [KasT.kasWp_bind]
 have hs := hp.size
 refine Zq hc (hp.rev 0 a) (n - a) a h1 (by omega) (λ i j hij hj => ?_) λ m m1 m2 m3 _ => h m _ (hp.rev 0 a) (by omega) (by omega) m3
 rw [Yd (by omega), Yd (by omega), if_pos (by omega), if_pos (by omega)]
 exact hd _ _ (by omega) (by omega)
theorem Nj (hc : bt key n cmp s) {Q : Nat × Array Nat -> Shared -> Prop} {p : Array Nat} {a : Nat} (hp : Rg n p) (hz : a + 1 <= n) (hd : Down key p (a + 1))
  (h : ∀ m p', Rg n p' -> 1 <= m -> m <= n -> Up key p' m -> Q (m, p') s) : (kas_descPart a n p).kasWp cmp Q s := by
 unfold kas_descPart
 rw [KasT.kasWp_bind]
 refine Pc hc _ p (a + 1) 0 hp (by omega) (by omega) hd (.zero (by omega)) λ p' m q r1 r2 r3 r4 r5 => ?_
 have hs := r1.size
 show (if q > 0 then kas_tail3 m n (kas_rev p' (m - (q + 1)) m) else kas_tail3 m n p').kasWp cmp Q s
 by_cases hq : q > 0
 ·
  rw [if_pos hq]
  refine Yi hc (r1.rev _ _) (by omega) (by omega) (λ i j hij hj => ?_) h
  rw [Nk (by omega) r5.2, Nk (by omega) r5.2]
  exact r4 i j hij hj
 ·
  rw [if_neg hq]
  exact Yi hc r1 (by omega) (by omega) r4 h
theorem ak (hc : bt key n cmp s) {Q : Nat × Array Nat -> Shared -> Prop} {p : Array Nat} (hp : Rg n p) (h1 : 1 <= n) (h : ∀ m p', Rg n p' -> 1 <= m -> m <= n -> Up key p' m -> Q (m, p') s) : (kas_count n p).kasWp cmp Q s := by
 unfold kas_count
 rw [KasT.kasWp_bind]
 have hs := hp.size
 refine Zq hc hp (n - 1) 1 (Nat.le_refl _) (by omega) (λ i j hij hj => by rw [show i = j by omega]; exact KeyOrd.kle_refl _) λ m m1 m2 m3 m4 => ?_
 by_cases hmn : m = n
 ·
  rw [if_pos (by simpa using hmn)]
  exact h m p hp (by omega) (by omega) m3
 ·
  rw [if_neg (by simpa using hmn)]
  have hlt : O.klt (ka key p m) (ka key p (m - 1)) := m4.resolve_left (by omega)
  by_cases hg : m > 1
  ·
   rw [if_pos hg]
   refine hc _ _ _ (hp.at (by omega)) (hp.at (by omega)) ?_
   show (if O.blt (ka key p 0) (ka key p (m - 1)) = true then KasT.ret (m, p) else kas_descPart m n (kas_rev p 0 m)).kasWp cmp Q s
   cases e : O.blt (ka key p 0) (ka key p (m - 1)) with
   | true => exact h m p hp (by omega) (by omega) m3
   |
    false =>
    rw [if_neg (by simp)]
    have hall : ∀ k, 0 <= k -> k < m -> ka key p k = ka key p (m - 1) := λ k _ hk => KeyOrd.kle_antisymm (m3 k (m - 1) (by omega) (by omega)) (KeyOrd.kle_trans e (m3 0 k (by omega) hk))
    refine Nj hc (hp.rev _ _) (by omega) (λ i j hij hj => ?_) h
    rw [Nk (by omega) hall, Nk (by omega) hall]
    by_cases hjm : j < m
    · rw [hall i (by omega) (by omega), hall j (by omega) hjm]; exact KeyOrd.kle_refl _
    ·
     obtain rfl : j = m := by omega
     by_cases hi : i = j
     · rw [hi]; exact KeyOrd.kle_refl _
     · rw [hall i (by omega) (by omega)]; exact KeyOrd.kle_of_klt hlt
  ·
   rw [if_neg hg]
   obtain rfl : m = 1 := by omega
   refine Nj hc hp (by omega) (λ i j hij hj => ?_) h
   by_cases hi : i = j
   · rw [hi]; exact KeyOrd.kle_refl _
   ·
    obtain rfl : i = 0 := by omega
    obtain rfl : j = 1 := by omega
    exact KeyOrd.kle_of_klt hlt
theorem P9 {p : Array Nat} {k : Nat} (hc : bt key n cmp s) (hp : Rg n p) (hk : k < n) (hu : Up key p k) {Q : Nat -> Shared -> Prop}
  (h : ∀ l, l <= k -> (∀ i, i < l -> O.kle (ka key p i) (ka key p k)) -> (∀ i, l <= i -> i < k -> O.klt (ka key p k) (ka key p i)) -> Q l s) : ∀ (f l r : Nat), l <= r -> r <= k -> r - l <= f ->
  (∀ i, i < l -> O.kle (ka key p i) (ka key p k)) -> (∀ i, r <= i -> i < k -> O.klt (ka key p k) (ka key p i)) -> (kas_place p k f l r).kasWp cmp Q s
 | 0, l, r, hlr, hrk, hf, lo, hi => h l (by omega) lo (by rw [show l = r by omega]; exact hi)
 |
  f + 1, l, r, hlr, hrk, hf, lo, hi => by
  unfold kas_place
  by_cases hg : l ≥ r
  ·
   rw [if_pos hg]
   exact h l (by omega) lo (by rw [show l = r by omega]; exact hi)
  ·
   rw [if_neg hg]
   refine hc _ _ _ (hp.at hk) (hp.at (by omega)) ?_
   show (if O.blt (ka key p k) (ka key p ((l + r) / 2)) = true then kas_place p k f l ((l + r) / 2) else kas_place p k f ((l + r) / 2 + 1) r).kasWp cmp Q s
   cases e : O.blt (ka key p k) (ka key p ((l + r) / 2)) with
   |
    true =>
    rw [if_pos rfl]
    exact P9 hc hp hk hu h f l _ (by omega) (by omega) (by omega) lo λ i i1 i2 => KeyOrd.klt_of_klt_of_kle e (hu _ _ i1 i2)
   |
    false =>
    rw [if_neg (by simp)]
    exact P9 hc hp hk hu h f _ r (by omega) (by omega) (by omega) (λ i i1 => KeyOrd.kle_trans (hu i ((l + r) / 2) (by omega) (by omega)) e) hi
theorem d8 {p : Array Nat} {k d : Nat} (hk : k < p.size) (hd : d <= k) (i : Nat) : ka key (bubble p k d) i = if i = k - d then ka key p k else if k - d < i /\ i <= k then ka key p (i - 1) else ka key p i := by
 have e := getElem?_bubble (xs := p) hk d hd i
 by_cases h1 : i = k - d
 · rw [if_pos h1] at e ⊢; exact Kk e
 ·
  rw [if_neg h1] at e ⊢
  by_cases h2 : k - d < i /\ i <= k
  · rw [if_pos h2] at e ⊢; exact Kk e
  · rw [if_neg h2] at e ⊢; exact Kk e
theorem fe (hc : bt key n cmp s) {Q : Array Nat -> Shared -> Prop} (h : ∀ p', Rg n p' -> Up key p' n -> Q p' s) : ∀ (f : Nat) (p : Array Nat) (k : Nat), Rg n p -> k + f = n -> Up key p k -> (kas_bin f p k).kasWp cmp Q s
 | 0, p, k, hp, hk, hu => h p hp (by rw [← hk]; exact hu)
 |
  f + 1, p, k, hp, hk, hu => by
  unfold kas_bin
  rw [KasT.kasWp_bind]
  have hs := hp.size
  refine P9 hc hp (by omega) hu (λ l hl lo hi => ?_) k 0 k (Nat.zero_le _) (Nat.le_refl _) (by omega) (λ i hi => absurd hi (Nat.not_lt_zero _)) (λ i h1 h2 => by omega)
  refine fe hc h f _ (k + 1) (hp.bub _ _) (by omega) λ i j hij hj => ?_
  rw [d8 (by omega) (by omega), d8 (by omega) (by omega), show k - (k - l) = l by omega]
  repeat' split
  all_goals first
   | (exfalso; omega)
   | exact KeyOrd.kle_refl _
   | exact lo _ (by omega)
   | exact KeyOrd.kle_of_klt (hi _ (by omega) (by omega))
   | exact hu _ _ (by omega) (by omega)
theorem ij (hc : bt key n cmp s) (h1 : 1 <= n) {Q : Array Nat -> Shared -> Prop} (h : ∀ p, Rg n p -> Up key p n -> Q p s) : (kas_sort n).kasWp cmp Q s := by
 unfold kas_sort
 rw [KasT.kasWp_bind]
 refine ak hc (Array.Perm.refl _) h1 λ m p hp h1 h2 hu => ?_
 show (if m < n then kas_bin (n - max m 1) p (max m 1) else KasT.ret p).kasWp cmp Q s
 rw [show max m 1 = m by omega]
 by_cases hm : m < n
 ·
  rw [if_pos hm]
  exact fe hc h _ p m hp (by omega) hu
 ·
  rw [if_neg hm]
  exact h p hp (by rw [show n = m by omega]; exact hu)
end
abbrev RA := Addr × (Int × Int)
def refs (rs : List RA) : List V := rs.map λ x => V.ref x.1
def RowOk (H : Hp) (rs : List RA) : Prop := ∀ x ∈ rs, H x.1 = some (.tup [.int x.2.1, .int x.2.2])
def TupsH (h : Heap) (rs : List RA) : Prop := ∀ x ∈ rs, ∃ (o : Obj) (t u : Tok) (k : Nat), h.get? x.1 = some o /\ o.cls = .type "tuple" /\ o.data = .seq #[.int x.2.1 t, .int x.2.2 u] k
theorem Inv.pair {X : Cx} {pins : List (Addr × Obj)} {σ : St} {H : Hp} {s : Shared} (I : Inv X pins σ H s) {a : Addr} {i j : Int} (h : H a = some (.tup [.int i, .int j])) :
  ∃ (o : Obj) (t u : Tok) (k : Nat), s.heap.get? a = some o /\ o.cls = .type "tuple" /\ o.data = .seq #[.int i t, .int j u] k := by
 obtain ⟨its, r, ⟨o, ho, hc, k, hd⟩, _⟩ := I.tuple (SqT.of h)
 cases r with
 |
  cons r1 r =>
  cases r with
  |
   cons r2 r =>
   cases r
   obtain ⟨t, rfl⟩ := r1
   obtain ⟨u, rfl⟩ := r2
   exact ⟨o, t, u, k, ho, hc, hd⟩
theorem Inv.tups {X : Cx} {pins : List (Addr × Obj)} {σ : St} {H : Hp} {s : Shared} (I : Inv X pins σ H s) {rs : List RA} (h : RowOk H rs) : TupsH s.heap rs := λ x hx => I.pair (h x hx)
section
variable {prog : Program} {w : World} {A : Around} {E : Value -> Shared -> Prop} {s : Shared} {rs : List RA}
end
end L2
namespace L2
open PySem PySem.Spec PyProof.Rows PySem.SeqAt
def sps (rs : List RA) : List (Int × Int) := rs.map (·.2)
theorem hu2 {cm : Bool} {k : Nat} {A : Around} (hr : Room cm k A) : A.units + 2 < cLine := Nat.lt_of_le_of_lt (Nat.add_le_add_left (by decide : 2 <= 64) _) hr.units
theorem RowOk.up {H H' : Hp} {rs : List RA} (h : RowOk H rs) (s : Same H H') : RowOk H' rs := λ x hx => s _ _ (h x hx)
theorem RowOk.upd {H : Hp} {rs : List RA} {l : Addr} {xs : List V} {o : HO} (h : RowOk H rs) (hl : H l = some (.lst xs)) : RowOk (upd H l o) rs := λ x hx => by
 rw [Al (λ e => by have := h x hx; rw [e, hl] at this; cases this)]
 exact h x hx
theorem RowOk.nil {H : Hp} : RowOk H [] := λ _ h => nomatch h
theorem RowOk.app {H : Hp} {rs : List RA} {a : Addr} {b e : Int} (h : RowOk H rs) (ha : H a = some (.tup [.int b, .int e])) : RowOk H (rs ++ [(a, b, e)]) := λ x hx => by
 rcases List.mem_append.mp hx with hx | hx
 · exact h x hx
 ·
  rw [List.mem_singleton] at hx
  subst hx
  exact ha
theorem RowOk.init {H : Hp} {rs : List RA} {y : RA} (h : RowOk H (rs ++ [y])) : RowOk H rs := λ x hx => h x (List.mem_append_left _ hx)
theorem bh (rs : List RA) (a : Addr) (b e : Int) : refs rs ++ [.ref a] = refs (rs ++ [(a, b, e)]) := by unfold refs; rw [List.map_append]; rfl
section
variable {X : Cx}
theorem RowOk.same {H : Hp} {rs qs : List RA} (h : RowOk H rs) (h' : RowOk H qs) : ∀ x ∈ rs, ∀ y ∈ qs, x.1 = y.1 -> x.2 = y.2 := by
 intro x hx y hy e
 have a := h x hx
 have b := h' y hy
 rw [e, b] at a
 injection a with a
 injection a with a
 injection a with a1 a
 injection a with a2 _
 injection a1 with a1
 injection a2 with a2
 exact Prod.ext a1.symm a2.symm
theorem Vals.rev : ∀ {xs : List V} {us : List Value}, Vals xs us -> Vals xs.reverse us.reverse
 | [], [], .nil => .nil
 |
  x :: xs, u :: us, .cons r1 r2 => by
  rw [List.reverse_cons, List.reverse_cons]
  exact (Vals.rev r2).append (.cons r1 .nil)
end
def RowAt (H : Hp) (l : Addr) (rs : List RA) : Prop := H l = some (.lst (refs rs)) /\ RowOk H rs
theorem RowAt.up {H H' : Hp} {l : Addr} {rs : List RA} (h : RowAt H l rs) (s : Same H H') : RowAt H' l rs := ⟨s _ _ h.1, h.2.up s⟩
def SameX (F : Addr) (H H' : Hp) : Prop := ∀ b o, b ≠ F -> H b = some o -> H' b = some o
theorem SameX.refl (F : Addr) (H : Hp) : SameX F H H := λ _ _ _ e => e
theorem SameX.same {F : Addr} {H H2 H' : Hp} (s : Same H H2) (x : SameX F H2 H') (hF : H F = none) : Same H H' := λ b o e => x b o (Aq e hF) (s b o e)
theorem SameX.put {F t : Addr} {H H' : Hp} {o : HO} {xs : List V} (x : SameX F H H') (ht : H' t = none) : SameX F H (upd (upd H' t o) F (.lst xs)) := λ b u hb e => by
 rw [Al hb]
 exact Ag ht _ _ (x b u hb e)
theorem RowAt.put {H : Hp} {F t : Addr} {fs : List RA} {b e : Int} (h : RowAt H F fs) (ht : H t = none) : RowAt (upd (upd H t (.tup [.int b, .int e])) F (.lst (refs fs ++ [.ref t]))) F (fs ++ [(t, b, e)]) := by
 have htF : t ≠ F := λ z => by rw [z, h.1] at ht; cases ht
 have hF2 : upd H t (.tup [.int b, .int e]) F = some (.lst (refs fs)) := by rw [Al (λ z => htF z.symm)]; exact h.1
 exact ⟨by rw [Ae, bh _ _ b e], RowOk.app ((h.2.up (Ag ht)).upd hF2) (by rw [Al htF]; exact Ae)⟩
section
variable {X : Cx}
end
end L2
namespace L2
open PySem PySem.Spec PySem.Calls PyProof.Rows Builtin Builtin.Str
section
variable {X : Cx}
end
end L2
namespace L2
open PySem PySem.Spec PySem.Calls PyProof.Rows
section
variable {X : Cx} {m : Str} {apos pos : Pos} {o e : Expr} {es : List Expr} {ta : TE} {t : TA}
structure Ans (X : Cx) (m : Str) (n : Nat) (C : Addr) (R : V -> List V -> Hp -> VK -> Prop) : Prop where
 cls : Cls X.K C
 run : ∃ (f : Addr) (fd : FuncData) (ps : List Str) (ds : List Value) (dvs : List V) (CX : CXT) (cm : Bool) (k : Nat) (sp : Sp) (E : XK), Meth X.K C m f /\ FnOk X.prog X.w X.K X.mg X.base CX cm k f fd ps sp /\ Room cm k X.A /\ Binds X.K fd ps ds /\ Vals dvs ds /\ Passes CX X E /\
  ∀ x vs H Q, vs.length = n -> R x vs H Q -> sp (x :: (vs ++ dvs)) H Q E
def l6 (m : Str) (n : Nat) (D : Addr -> (V -> List V -> Hp -> VK -> Prop) -> Prop) (ta : TE) (t : TA) : TE := λ σ H Q => ta σ H λ x H1 => ∃ a C dx fs R, x = .ref a /\ H1 a = some (.ins C dx fs) /\ fs.lookup m = none /\ D C R /\
 t σ H1 λ vs H2 => vs.length = n /\ R x vs H2 Q
theorem L3 {pl : Sem Bool} {n : Nat} {D : Addr -> (V -> List V -> Hp -> VK -> Prop) -> Prop} (he : PE X o ta) (hD : ∀ C R, D C R -> Ans X m n C R) (ha : PA X (e :: es) t)
  (hst : starEach (e :: es) X.env = (false, eval e X.env) :: starEach es X.env := by rfl) (hpl : (backTo pos (starEach es X.env)).any (·.1) = false := by rfl)
  (ht : eval (.Call (.Attribute o m apos) (e :: es) [] pos) X.env = (do
   let ov ← eval o X.env
   standAt apos.atName
   let (f, first) ← holding [ov] (getMethod ov m pl)
   callWith pos f first (backTo pos (starEach (e :: es) X.env)) (backToKw pos (keywordEach [] X.env))) := by rfl) :
  PE X (.Call (.Attribute o m apos) (e :: es) [] pos) (l6 m n D ta t) := by
 intro pins s σ H Q I h
 refine W.methodCall_KW (pl := pl) (thn (he pins s σ H _ I h) λ u s1 ⟨x, H1, I1, rx, a, C, dx, fs, R, ex, ea, l, d, q⟩ => ?_) ht
 subst ex
 obtain rfl : u = Value.ref a := rx
 obtain ⟨c, f, fd, ps, ds, dvs, CX, cm, k, sp, E, hm, F, hr, hb, hd, hx, hR⟩ := hD C R d
 refine O7 I1 ea c hm l ?_
 refine W.callWith_K (first := [.ref a]) (h₀ := X.base) I.ok.mod.kin hm.kp (thn (ha pos pins s1 σ H1 _ I1 q) λ us s2 ⟨vs, H2, I2, r, hn, q2⟩ => ⟨I2.kIn, ?_⟩) hst hpl
 exact Yj (us := .ref a :: us) (vs := .ref a :: vs) F hr hb hd hx I2 (.cons rfl r) (hR _ _ _ _ hn q2)
end
section
variable {X : Cx} {K : W.Frag} {o e value : Expr} {f : Str} {pos pos' : Pos} {ta tv : TE} (hK : X.K = K)
include hK
theorem Ie (he : PE X e ta) (hb : attributeBase e f X.env (eval e X.env) = eval e X.env := by rfl) : PE X (.Attribute e f pos) (vc K ta f) := by subst hK; exact nv he hb
theorem P6 (ha : PE X o ta) (hv : PE X value tv) (hs : swapsWith value (some (.Attribute o f pos')) pos.line X.env = pure false := by rfl) : PS X (.Assign [.Attribute o f pos'] value pos) (sy K ta tv f) := by subst hK; exact lg ha hv hs
end
section
variable {X : Cx} {CX : CXT} {cm : Bool} {k : Nat} {f C : Addr} {fd : FuncData} {ps : List Str} {sp : Sp} {dvs : List V} {ds : List Value} {E : XK} {x m : Str} {p pos apos : Pos} {e : Expr} {es : List Expr} {t : TA}
structure w8 (K : W.Frag) (C : Addr) (m : Str) (f : Addr) : Prop where
 ga : W.specialIn K (.ref C) "__getattribute__" = some (some (.builtin "type.__getattribute__"))
 rd : W.readsIn K C (.type "type") = true
 at_ : W.findCls K (.ref C) (.type "type") m = some (.val (.ref f))
 hi : W.handedIn (.ref f) = true
 kp : W.keepIn K (.ref f) = true
end
end L2
namespace L2
open PySem PySem.Spec PyProof.Rows
theorem js {X : Cx} {K : W.Frag} {es : List Expr} {k : Nat} {t : TGs} {n : Nat} {pos : Pos} (hK : X.K = K) (hc : X.calm = true) (h : PGs X es t)
 (hn : (assignEach es X.env).length = n := by rfl) (hst : (assignEach es X.env).findIdx? (·.1) = none := by rfl) : PG X (.Tuple es k pos) (p7 K n t) := by subst hK; exact k6 hc h hn hst
end L2
namespace L2
open PySem PySem.Spec PyProof.Rows PySem.SeqAt
section
variable {X : Cx}
end
section
variable {X : Cx}
end
end L2
namespace L2
open PySem PySem.Spec PyProof.Rows
section
variable {X : Cx}
end
def vq (t u : TS) : TS := λ D σ H => ∃ P : St -> Hp -> Prop, t { D with nx := P } σ H /\ ∀ σ' H', P σ' H' -> u D σ' H'
section
variable {X : Cx} {st : Stmt} {rest : List Stmt} {t u : TS}
theorem Et (h1 : PS X st t) (h2 : PSs X rest u) : PSs X (st :: rest) (vq t u) := by
 intro pins s σ H D I h
 obtain ⟨P, ha, hb⟩ := h
 refine wpAny_execs_cons (thn (h1 pins s σ H { D with nx := P } I ha) λ f s1 q => ?_)
 cases f with
 |
  next =>
  obtain ⟨σ', H', I', q⟩ := q
  exact h2 pins s1 σ' H' D I' (hb σ' H' q)
 | ret v => exact q
 | brk => exact q
 | cont => exact q
end
end L2
namespace L2
section
variable {α : Type} {R : α -> α -> Prop}
structure MI (R : α -> α -> Prop) (all out A B : List α) : Prop where
 perm : (out ++ (A ++ B)).Perm all
 so : out.Pairwise R
 la : ∀ x ∈ out, ∀ y ∈ A, R x y
 lb : ∀ x ∈ out, ∀ y ∈ B, R x y
 sa : A.Pairwise R
 sb : B.Pairwise R
theorem MI.lefts {all out X A B : List α} (h : MI R all out (X ++ A) B) (hx : ∀ x ∈ X, ∀ y ∈ B, R x y) : MI R all (out ++ X) A B := by
 obtain ⟨p, so, la, lb, sa, sb⟩ := h
 rw [List.pairwise_append] at sa
 refine ⟨?_, ?_, ?_, ?_, sa.2.1, sb⟩
 · simpa [List.append_assoc] using p
 ·
  rw [List.pairwise_append]
  exact ⟨so, sa.1, λ x hx y hy => la x hx y (List.mem_append_left _ hy)⟩
 ·
  intro x hm y hy
  rcases List.mem_append.mp hm with hm | hm
  · exact la x hm y (List.mem_append_right _ hy)
  · exact sa.2.2 x hm y hy
 ·
  intro x hm y hy
  rcases List.mem_append.mp hm with hm | hm
  · exact lb x hm y hy
  · exact hx x hm y hy
theorem MI.flip {all out A B : List α} (h : MI R all out A B) : MI R all out B A :=
 ⟨(List.Perm.append_left _ List.perm_append_comm).trans h.perm, h.so, h.lb, h.la, h.sb, h.sa⟩
theorem MI.rights {all out X A B : List α} (h : MI R all out A (X ++ B)) (hx : ∀ x ∈ X, ∀ y ∈ A, R x y) : MI R all (out ++ X) A B := (h.flip.lefts hx).flip
theorem MI.left {x : α} {all out A B : List α} (h : MI R all out (x :: A) B) (hx : ∀ y ∈ B, R x y) : MI R all (out ++ [x]) A B :=
 MI.lefts (X := [x]) h λ z hz y hy => by rw [List.mem_singleton.mp hz]; exact hx y hy
theorem MI.right {x : α} {all out A B : List α} (h : MI R all out A (x :: B)) (hx : ∀ y ∈ A, R x y) : MI R all (out ++ [x]) A B := (h.flip.left hx).flip
def MD (R : α -> α -> Prop) (all l : List α) : Prop := l.Perm all /\ l.Pairwise R
theorem MI.doneA {all out A : List α} (h : MI R all out A []) : MD R all (out ++ A) := by
 refine ⟨by simpa using h.perm, ?_⟩
 rw [List.pairwise_append]
 exact ⟨h.so, h.sa, h.la⟩
theorem MI.last {all out A B : List α} (h : MI R all out A B) (hx : ∀ y ∈ B, ∀ x ∈ A, R y x) : MD R all (out ++ (B ++ A)) := by
 have h' : MI R all out A (B ++ []) := by rw [List.append_nil]; exact h
 have := (h'.rights hx).doneA
 rw [List.append_assoc] at this
 exact this
end
section
variable {α : Type} {R : α -> α -> Prop}
def RunsL (R : α -> α -> Prop) : List (Nat × Nat × Nat) -> Nat -> List α -> Prop
 | [], _, l => l = []
 | (a, n, _) :: r, x, l => a = x /\ 1 <= n /\ ∃ S l', l = S ++ l' /\ S.length = n /\ S.Pairwise R /\ RunsL R r (x + n) l'
theorem RunsL.append : ∀ {p q : List (Nat × Nat × Nat)} {x : Nat} {l m : List α}, RunsL R p x l -> RunsL R q (x + l.length) m -> RunsL R (p ++ q) x (l ++ m)
 |
  [], q, x, l, m, h1, h2 => by
  cases (h1 : l = [])
  exact h2
 |
  (a, n, w) :: p, q, x, l, m, h1, h2 => by
  obtain ⟨e, hn, S, l', rfl, hS, hp, h1⟩ := h1
  refine ⟨e, hn, S, l' ++ m, by rw [List.append_assoc], hS, hp, RunsL.append h1 ?_⟩
  rw [List.length_append, hS] at h2
  rw [Nat.add_assoc]; exact h2
theorem RunsL.split : ∀ {p q : List (Nat × Nat × Nat)} {x : Nat} {l : List α}, RunsL R (p ++ q) x l -> ∃ l1 l2, l = l1 ++ l2 /\ RunsL R p x l1 /\ RunsL R q (x + l1.length) l2
 | [], q, x, l, h => ⟨[], l, rfl, rfl, h⟩
 |
  (a, n, w) :: p, q, x, l, h => by
  obtain ⟨e, hn, S, l', rfl, hS, hp, h⟩ := h
  obtain ⟨l1, l2, rfl, h1, h2⟩ := RunsL.split h
  refine ⟨S ++ l1, l2, by rw [List.append_assoc], ⟨e, hn, S, l1, rfl, hS, hp, h1⟩, ?_⟩
  rw [List.length_append, hS, ← Nat.add_assoc]; exact h2
theorem RunsL.len : ∀ {p : List (Nat × Nat × Nat)} {x : Nat} {l : List α}, RunsL R p x l -> p.length <= l.length
 | [], _, _, _ => Nat.zero_le _
 |
  (a, n, w) :: p, x, l, h => by
  obtain ⟨e, hn, S, l', rfl, hS, hp, h⟩ := h
  have := RunsL.len h
  rw [List.length_append, List.length_cons]; omega
theorem RunsL.two {p q : List (Nat × Nat × Nat)} {u v : Nat × Nat × Nat} {l : List α} (h : RunsL R (p ++ u :: v :: q) 0 l) :
  ∃ l1 X Y l2, l = l1 ++ (X ++ (Y ++ l2)) /\ u.1 = l1.length /\ u.2.1 = X.length /\ v.1 = l1.length + X.length /\ v.2.1 = Y.length /\ 1 <= X.length /\ 1 <= Y.length /\ X.Pairwise R /\ Y.Pairwise R /\
   ∀ M w, M.Pairwise R -> M.length = X.length + Y.length -> RunsL R (p ++ (u.1, u.2.1 + v.2.1, w) :: q) 0 (l1 ++ (M ++ l2)) := by
 obtain ⟨l1, l2, rfl, h1, h2⟩ := h.split
 obtain ⟨a, n, w⟩ := u
 obtain ⟨b, m, w2⟩ := v
 obtain ⟨e, hn, X, l', rfl, hX, hpX, e2, hm, Y, l2, rfl, hY, hpY, h3⟩ := h2
 refine ⟨l1, X, Y, l2, rfl, by rw [e]; exact Nat.zero_add _, hX.symm, by rw [e2, hX, Nat.zero_add], hY.symm, by omega, by omega, hpX, hpY, λ M w' hM hl => h1.append ⟨e, by show 1 <= n + m; omega, M, l2, rfl, by show M.length = n + m; omega, hM, ?_⟩⟩
 show RunsL R q (0 + l1.length + (n + m)) l2
 rw [← Nat.add_assoc]; exact h3
end
end L2
namespace L2
open PySem PyProof.Rows
section
variable {M : Model} {A : Around} {E : Value -> Shared -> Prop} {s : Shared}
end
section
variable {prog : Program} {w : World} {A : Around} {E : Value -> Shared -> Prop} {s : Shared} {O : KeyOrd} {key : Keyed -> O.α} {D : Keyed -> Prop} {κ : SortKind}
end
def Upw (O : KeyOrd) (key : Keyed -> O.α) (x y : Keyed) : Prop := O.kle (key x) (key y)
def SameS (st st' : SortSt) : Prop := kindOf st' = kindOf st /\ arrOf st' = arrOf st /\ pendingOf st' = pendingOf st /\ failedOf st' = failedOf st
theorem SameS.refl (st : SortSt) : SameS st st := ⟨rfl, rfl, rfl, rfl⟩
theorem SameS.trans {s1 s2 s3 : SortSt} (h1 : SameS s1 s2) (h2 : SameS s2 s3) : SameS s1 s3 :=
 ⟨h2.1.trans h1.1, h2.2.1.trans h1.2.1, h2.2.2.1.trans h1.2.2.1, h2.2.2.2.trans h1.2.2.2⟩
section lo
variable {prog : Program} {w : World} {A : Around} {E : Value -> Shared -> Prop} {s : Shared} {O : KeyOrd} {key : Keyed -> O.α} {D : Keyed -> Prop} {κ : SortKind} {a b : Array Keyed}
structure x8 (O : KeyOrd) (key : Keyed -> O.α) (D : Keyed -> Prop) (a b : Array Keyed) : Prop where
 ua : a.toList.Pairwise (Upw O key)
 ub : b.toList.Pairwise (Upw O key)
 da : ∀ x ∈ a.toList, D x
 db : ∀ x ∈ b.toList, D x
 na : 1 <= a.size
 nb : 1 <= b.size
 first : ∀ (h1 : 0 < a.size) (h2 : 0 < b.size), O.kle (key b[0]) (key a[0])
 last : ∀ (h1 : a.size - 1 < a.size) (h2 : b.size - 1 < b.size), O.kle (key b[b.size - 1]) (key a[a.size - 1])
abbrev GI (O : KeyOrd) (key : Keyed -> O.α) (a b o : Array Keyed) (i j : Nat) : Prop := MI (Upw O key) (a.toList ++ b.toList) o.toList (a.toList.drop i) (b.toList.drop j)
theorem GI.size {o : Array Keyed} {i j : Nat} (h : GI O key a b o i j) (hi : i <= a.size) (hj : j <= b.size) : o.size = i + j := by
 have := h.perm.length_eq
 simp only [List.length_append, List.length_drop, Array.length_toList] at this
 omega
structure Go (O : KeyOrd) (key : Keyed -> O.α) (a b o : Array Keyed) (i j : Nat) : Prop where
 gi : GI O key a b o i j
 hi : i + 1 < a.size
 hj : j < b.size
end lo
section hi
variable {prog : Program} {w : World} {A : Around} {E : Value -> Shared -> Prop} {s : Shared} {O : KeyOrd} {key : Keyed -> O.α} {D : Keyed -> Prop} {κ : SortKind} {a b : Array Keyed}
def Dnw (O : KeyOrd) (key : Keyed -> O.α) (x y : Keyed) : Prop := O.kle (key y) (key x)
abbrev HI (O : KeyOrd) (key : Keyed -> O.α) (a b o : Array Keyed) (i j : Nat) : Prop := MI (Dnw O key) (a.toList ++ b.toList) o.toList (a.toList.take i).reverse (b.toList.take j).reverse
theorem HI.size {o : Array Keyed} {i j : Nat} (h : HI O key a b o i j) (hi : i <= a.size) (hj : j <= b.size) : o.size + i + j = a.size + b.size := by
 have := h.perm.length_eq
 simp only [List.length_append, List.length_reverse, List.length_take, Array.length_toList] at this
 omega
theorem MD.rev {R : Keyed -> Keyed -> Prop} {all l : List Keyed} (h : MD (λ x y => R y x) all l) : MD R all l.reverse := ⟨(List.reverse_perm l).trans h.1, by rw [List.pairwise_reverse]; exact h.2⟩
structure Ho (O : KeyOrd) (key : Keyed -> O.α) (a b o : Array Keyed) (i j : Nat) : Prop where
 gi : HI O key a b o i j
 i0 : 0 < i
 hi : i <= a.size
 j0 : 1 < j
 hj : j <= b.size
end hi
section
variable {prog : Program} {w : World} {A : Around} {E : Value -> Shared -> Prop} {s : Shared} {O : KeyOrd} {key : Keyed -> O.α} {D : Keyed -> Prop} {κ : SortKind}
end
section
variable {prog : Program} {w : World} {A : Around} {E : Value -> Shared -> Prop} {s : Shared} {O : KeyOrd} {key : Keyed -> O.α} {D : Keyed -> Prop} {κ : SortKind} {a₀ : Array Keyed} {pd : Array (Nat × Nat × Nat)} {lo : Nat}
def kb {O : KeyOrd} (key : Keyed -> O.α) (p : Array Keyed) (i : Nat) : O.α := key (p.getD i (Value.none, Value.none))
def UpS {O : KeyOrd} (key : Keyed -> O.α) (p : Array Keyed) (lo hi : Nat) : Prop := ∀ i j, lo <= i -> i <= j -> j < hi -> O.kle (kb key p i) (kb key p j)
def DnS {O : KeyOrd} (key : Keyed -> O.α) (p : Array Keyed) (lo hi : Nat) : Prop := ∀ i j, lo <= i -> i <= j -> j < hi -> O.kle (kb key p j) (kb key p i)
structure Bs (κ : SortKind) (a₀ : Array Keyed) (pd : Array (Nat × Nat × Nat)) (lo : Nat) (st : SortSt) : Prop where
 perm : (arrOf st).Perm a₀
 kind : kindOf st = κ
 failed : failedOf st = none
 pend : pendingOf st = pd
 pre : ∀ i, i < lo -> (arrOf st)[i]? = a₀[i]?
theorem Bs.size {st : SortSt} (h : Bs κ a₀ pd lo st) : (arrOf st).size = a₀.size := h.perm.size_eq
theorem Bs.rev {st : SortSt} (h : Bs κ a₀ pd lo st) {i j : Nat} (hi : lo <= i) (hj : j <= a₀.size) : Bs κ a₀ pd lo (setArr st (mirror (arrOf st) i j ((j - i) / 2))) :=
 ⟨(
  mirror_perm _ _ _ _).trans h.perm, h.kind, h.failed, h.pend, λ k hk => by
  show (mirror (arrOf st) i j ((j - i) / 2))[k]? = _
  rw [getElem?_mirror_all (by rw [h.size]; exact hj), if_neg (by omega)]; exact h.pre k hk⟩
theorem Bs.bub {st : SortSt} (h : Bs κ a₀ pd lo st) {k d : Nat} (hk : k < a₀.size) (hd : lo + d <= k) : Bs κ a₀ pd lo (setArr st (bubble (arrOf st) k d)) :=
 ⟨(
  bubble_perm _ _ _).trans h.perm, h.kind, h.failed, h.pend, λ i hi => by
  show (bubble (arrOf st) k d)[i]? = _
  rw [getElem?_bubble (by rw [h.size]; exact hk) d (by omega), if_neg (by omega), if_neg (by omega)]; exact h.pre i hi⟩
theorem UpS.more {p : Array Keyed} {k : Nat} (h : UpS key p lo k) (hk : O.blt (kb key p k) (kb key p (k - 1)) = false) : UpS key p lo (k + 1) := by
 intro i j hl hij hj
 by_cases hjk : j < k
 · exact h i j hl hij hjk
 ·
  obtain rfl : j = k := by omega
  by_cases hi : i = j
  · rw [hi]; exact KeyOrd.kle_refl _
  · exact KeyOrd.kle_trans (h i (j - 1) hl (by omega) (by omega)) hk
theorem DnS.more {p q : Array Keyed} {k : Nat} (h : DnS key p lo k) (e : ∀ i, kb key q i = kb key p i) (hk : O.kle (kb key p k) (kb key p (k - 1))) : DnS key q lo (k + 1) := by
 intro i j hl hij hj
 rw [e, e]
 by_cases hjk : j < k
 · exact h i j hl hij hjk
 ·
  obtain rfl : j = k := by omega
  by_cases hi : i = j
  · rw [hi]; exact KeyOrd.kle_refl _
  · exact KeyOrd.kle_trans hk (h i (j - 1) hl (by omega) (by omega))
end
section
variable {prog : Program} {w : World} {A : Around} {E : Value -> Shared -> Prop} {s : Shared} {O : KeyOrd} {key : Keyed -> O.α} {D : Keyed -> Prop} {κ : SortKind} {a₀ : Array Keyed} {pd : Array (Nat × Nat × Nat)} {lo : Nat}
structure RJ (O : KeyOrd) (key : Keyed -> O.α) (κ : SortKind) (a₀ : Array Keyed) (tl : List Keyed) (m : Nat) (st : SortSt) : Prop where
 perm : (arrOf st).toList.Perm a₀.toList
 kind : kindOf st = κ
 failed : failedOf st = none
 runs : ∃ C, (arrOf st).toList = C ++ tl /\ C.length = m /\ RunsL (Upw O key) (pendingOf st).toList 0 C
theorem RJ.push {st : SortSt} {S rest : List Keyed} {lo n : Nat} (h : RJ O key κ a₀ (S ++ rest) lo st) (hS : S.length = n) (hn : 1 <= n) (hu : S.Pairwise (Upw O key)) : RJ O key κ a₀ rest (lo + n) (setPending st ((pendingOf st).push (lo, n, 0))) := by
 obtain ⟨hp, hk, hf', C, hC, hm, hr⟩ := h
 refine ⟨hp, hk, hf', C ++ S, by show (arrOf st).toList = _; rw [hC]; simp, by rw [List.length_append]; omega, ?_⟩
 show RunsL (Upw O key) ((pendingOf st).push (lo, n, 0)).toList 0 (C ++ S)
 rw [Array.toList_push]
 refine hr.append ⟨by show lo = 0 + C.length; omega, hn, S, [], by simp, hS, hu, rfl⟩
end
end L2
namespace L2
open PySem PySem.W PyProof.Rows
structure v7 (prog : Program) (w : World) (A : Around) (s : Shared) (κ : SortKind) {O : KeyOrd} (key : Value -> O.α) (vs : List Value) : Prop where
 kind : ∀ (E : Value -> Shared -> Prop) (Q : SortKind -> Shared -> Prop), Q κ s -> wpAny (model prog w) A (keyKind' vs.toArray) Q E s
 cmp : ∀ x ∈ vs, ∀ y ∈ vs, ∀ C : Bool -> Shared -> Prop, C (O.blt (key x) (key y)) s -> wpAny (model prog w) A (keyLt' κ x y) C (λ _ _ => False) s
section
variable {prog : Program} {w : World} {A : Around} {E : Value -> Shared -> Prop} {s : Shared} {vs : List Value} {O : KeyOrd} {key : Value -> O.α} {κ : SortKind}
end
theorem TupsH.kept {h h' : Heap} {rs : List RA} (t : TupsH h rs) (kp : ∀ b o, h.get? b = some o -> h'.get? b = some o) : TupsH h' rs := λ x hx => by
 obtain ⟨o, t1, u1, n, ho, z⟩ := t x hx
 exact ⟨o, t1, u1, n, kp _ _ ho, z⟩
theorem G6 {α β : Type} {f : α -> β} {us l : List β} (h : us.Perm l) : ∀ rs : List α, l = rs.map f -> ∃ qs : List α, qs.Perm rs /\ us = qs.map f := by
 induction h with
 | nil => intro rs e; exact ⟨rs, .refl _, e⟩
 |
  cons x h ih =>
  intro rs e
  cases rs with
  | nil => cases e
  |
   cons r rs =>
   injection e with e1 e2
   obtain ⟨qs, p, rfl⟩ := ih rs e2
   exact ⟨r :: qs, p.cons r, by rw [e1]; rfl⟩
 |
  swap x y l =>
  intro rs e
  match rs, e with
  |
   a :: b :: rs, e =>
   injection e with e1 e2
   injection e2 with e2 e3
   exact ⟨b :: a :: rs, List.Perm.swap .., by rw [e1, e2, e3]; rfl⟩
 |
  trans h1 h2 ih1 ih2 =>
  intro rs e
  obtain ⟨qs, p, rfl⟩ := ih2 rs e
  obtain ⟨ps, p', rfl⟩ := ih1 qs rfl
  exact ⟨ps, p'.trans p, rfl⟩
section
variable {X : Cx}
theorem Zh (hc : X.calm = true) : CallR X (.builtin "max") (λ xs H Q => ∃ (p : Addr) (ns : List Int), xs = [.ref p] /\ H p = some (.lst (ns.map V.int)) /\ 0 < ns.length /\ ∀ M, M ∈ ns -> (∀ a ∈ ns, a <= M) -> Q (.int M) H) := by
 intro pins s σ H xs us Q I r h
 obtain ⟨p, ns, rfl, hp, hne, q⟩ := h
 obtain ⟨u, rfl, ru⟩ := vals1 r
 cases ru
 obtain ⟨its, rv, pl, hz⟩ := I.list (SqL.of (K := X.K) hp)
 have hi := intsAre_of rv
 obtain ⟨ys, e⟩ := hi.allInts.items
 have hns : ns = ys.toList.map (·.1) := by
  rw [← nums_intItems, ← e]
  exact (show numsOf its.toArray.toList = ns from hi.numsOf).symm
 have hsz : 0 < ys.size := by
  have h3 := hne; rw [hns, List.length_map, Array.length_toList] at h3; exact h3
 refine max_intList (I.ok.hd hc) (e ▸ pl.isList) hsz λ v h' tk hv hk => ?_
 obtain ⟨t, rfl⟩ := intItems_at hv
 obtain ⟨h1, h2⟩ := argBest_gt (numAt ys) (ys.size - 1)
 refine ⟨.int _, H, I.kept hk, ⟨_, rfl⟩, q _ ?_ λ a ha => ?_⟩
 · rw [hns, numAt_eq]; exact getD_mem (by rw [List.length_map, Array.length_toList]; omega)
 ·
  rw [hns] at ha
  obtain ⟨j, hj, rfl⟩ := mem_getD ha
  rw [List.length_map, Array.length_toList] at hj
  rw [← numAt_eq]; exact h2 j (by omega)
end
end L2
namespace L2
open PySem PySem.Spec PyProof.Rows
section
variable (P : Program) (w : World)
end
section
variable {P : Program} {w : World} {H H' : Hp} {h h' : Heap} {a : Addr} {o : HO}
end
section
variable {P : Program} {w : World} {H : Hp} {h h' : Heap} {x e : Addr} {o' : HO}
end
section
variable {fs fs' ex ex' : List Addr} {H H1 H2 : Hp} {h h1 h2 h' : Heap} {a x e : Addr} {o : HO}
end
section
variable {X : Cx} {pins : List (Addr × Obj)} {σ : List (Option V)} {H H' : Hp} {s : Shared} {h' : Heap}
end
section
variable {X : Cx}
variable {a b : Expr} {ta tb : TE} {pos : Pos}
variable {tA tB' : TT} {rest : List Expr}
end
section
variable {X : Cx} {pins : List (Addr × Obj)} {σ : St} {H : Hp} {s : Shared} {a : Addr} {xs ys : List V}
end
section
variable {X : Cx} {pins : List (Addr × Obj)} {σ : St} {H : Hp} {s : Shared} {E : Value -> Shared -> Prop}
end
section
variable {X : Cx} {st : Stmt} {rest : List Stmt} {t u : TS} {e : Expr} {te : TE} {pos : Pos}
end
section
variable {X : Cx} {pos : Pos}
end
section
variable {X : Cx} {pos : Pos}
end
section
variable {X : Cx} {tg : Expr}
end
section
variable {X : Cx} {a b c : Expr} {ta tb tc : TE} {pos : Pos}
end
section
variable {X : Cx} {a b c : Expr} {ta tb tc : TE} {pos : Pos}
end
section
variable {prog : Program} {w : World} {A : Around} {E : Value -> Shared -> Prop} {s : Shared} {K : W.Frag} {x dx C f : Addr} {mA : Str -> Option Value} {name : Str} {v : Value}
end
section
variable {P : Program} {w : World} {H H' : Hp} {h h' : Heap} {a C dx : Addr} {fs fs' : List (Str × V)}
end
section
variable {X : Cx} {pins : List (Addr × Obj)} {σ : St} {H : Hp} {s : Shared} {a C dx : Addr} {fs : List (Str × V)} {f : Str} {v : V} {A : Around} {E : Value -> Shared -> Prop}
end
section
variable {X : Cx} {o e value : Expr} {f : Str} {pos pos' tpos : Pos} {ta tv : TE}
end
section
variable {X : Cx} {pins : List (Addr × Obj)} {σ : St} {H : Hp} {s : Shared} {A : Around} {E : Value -> Shared -> Prop} {Q : Value -> Shared -> Prop} {c : Value} {b : Bool}
end
section
variable {X : Cx} {e : Expr} {es : List Expr} {te : TE} {t : TA} {pos : Pos}
end
section
variable {X : Cx} {pins : List (Addr × Obj)} {σ : St} {H : Hp} {s s' : Shared}
end
section
variable {X : Cx} {CX : CXT} {cm : Bool} {k : Nat} {f C : Addr} {fd : FuncData} {ps : List Str} {sp : Sp} {dvs : List V} {ds : List Value} {E : XK} {x m : Str} {p pos apos : Pos} {e o : Expr} {es : List Expr} {ta : TE} {t : TA}
end
section
variable {X : Cx} {CX : CXT} {cm : Bool} {k : Nat} {f C : Addr} {fd : FuncData} {ps ks : List Str} {sp : Sp} {E : XK} {x m : Str} {p pos apos kpos : Pos} {e o : Expr} {es : List Expr} {kws : List Keyword} {te ta : TE} {t tk : TA} {nm : Option Str}
variable {g : List Value -> List Value -> List Value} {gV : List V -> List V -> List V}
end
section
variable {X : Cx} {x : Str} {p pos : Pos} {e : Expr} {es : List Expr} {t : TA} {id T : String} {r : List V -> Hp -> VK -> Prop}
end
section
variable {κ : Type} [DecidableEq κ]
def Eu (kvs : List (κ × V)) (k : κ) : Option V := (kvs.find? λ kv => decide (kv.1 = k)).map (·.2)
def putK (kvs : List (κ × V)) (k : κ) (v : V) : List (κ × V) :=
 if (kvs.any λ kv => decide (kv.1 = k)) = true then kvs.map (λ kv => if kv.1 = k then (kv.1, v) else kv) else kvs ++ [(k, v)]
def nr (kvs : List (κ × V)) (k : κ) : List (κ × V) := kvs.filter λ kv => decide (kv.1 ≠ k)
theorem Dk {p : κ × V} {r : List (κ × V)} {k : κ} (e : p.1 = k) : Eu (p :: r) k = some p.2 := by simp [Eu, List.find?_cons, e]
theorem Dc {p : κ × V} {r : List (κ × V)} {k : κ} (e : ¬ p.1 = k) : Eu (p :: r) k = Eu r k := by simp [Eu, List.find?_cons, e]
theorem Gw (k : κ) : ∀ kvs : List (κ × V), (kvs.any λ kv => decide (kv.1 = k)) = (Eu kvs k).isSome
 | [] => rfl
 |
  p :: r => by
  rw [List.any_cons]
  by_cases e : p.1 = k
  · simp only [Dk e, decide_eq_true e, Bool.true_or, Option.isSome_some]
  · rw [Dc e, decide_eq_false e, Bool.false_or]; exact Gw k r
theorem Uz (k j : κ) (y : V) : ∀ kvs : List (κ × V), Eu (kvs.map λ kv => if kv.1 = k then (kv.1, y) else kv) j = (Eu kvs j).map λ x => if j = k then y else x
 | [] => rfl
 |
  p :: r => by
  have ih := Uz k j y r
  rw [List.map_cons]
  by_cases h : p.1 = k
  ·
   rw [if_pos h]
   by_cases e : p.1 = j
   · rw [Dk (p := (p.1, y)) e, Dk e, Option.map_some, if_pos (e.symm.trans h)]
   · rw [Dc (p := (p.1, y)) e, Dc e, ih]
  ·
   rw [if_neg h]
   by_cases e : p.1 = j
   · rw [Dk (p := p) e, Dk e, Option.map_some, if_neg (λ z => h (e.trans z))]
   · rw [Dc (p := p) e, Dc e, ih]
theorem Rn (k j : κ) (y : V) : ∀ kvs : List (κ × V), Eu kvs k = none -> Eu (kvs ++ [(k, y)]) j = if j = k then some y else Eu kvs j
 |
  [], _ => by
  by_cases e : k = j
  · rw [if_pos e.symm]; exact Dk (p := (k, y)) e
  · rw [if_neg (λ z => e z.symm)]; exact Dc (p := (k, y)) e
 |
  p :: r, hn => by
  rw [List.cons_append]
  have hk : ¬ p.1 = k := λ z => by rw [Dk z] at hn; cases hn
  rw [Dc hk] at hn
  have ih := Rn k j y r hn
  by_cases e : p.1 = j
  · rw [Dk e, Dk e, if_neg (λ z => hk (e.trans z))]
  · rw [Dc e, Dc e, ih]
theorem Jx (kvs : List (κ × V)) (k j : κ) (y : V) : Eu (putK kvs k y) j = if j = k then some y else Eu kvs j := by
 unfold putK
 by_cases a : (kvs.any λ kv => decide (kv.1 = k)) = true
 ·
  rw [if_pos a, Uz]
  rw [Gw] at a
  by_cases e : j = k
  ·
   obtain ⟨x, hx⟩ := Option.isSome_iff_exists.mp a
   rw [if_pos e, e, hx, Option.map_some, if_pos rfl]
  ·
   rw [if_neg e]
   cases Eu kvs j with
   | none => rfl
   | some x => rw [Option.map_some, if_neg e]
 ·
  rw [if_neg a]
  refine Rn k j y kvs ?_
  rw [Gw] at a
  cases q : Eu kvs k with
  | none => rfl
  | some x => rw [q] at a; exact (a rfl).elim
theorem Dv (kvs : List (κ × V)) (k : κ) (v : V) : (putK kvs k v).length <= kvs.length + 1 := by
 unfold putK
 split
 · rw [List.length_map]; omega
 · rw [List.length_append, List.length_cons, List.length_nil]; omega
theorem b6 {kvs : List (κ × V)} {k : κ} (v : V) (h : Eu kvs k = none) : putK kvs k v = kvs ++ [(k, v)] := by
 unfold putK
 rw [Gw, h]
 exact if_neg (by decide)
theorem RelO.isSome_eq {o : Option V} {u : Option Value} (r : RelO o u) : o.isSome = u.isSome := by
 cases o with
 |
  none => cases u with
  | none => rfl
  | some _ => exact (show False from r).elim
 |
  some _ => cases u with
  | none => exact (show False from r).elim
  | some _ => rfl
theorem RelO.getD {o : Option V} {u : Option Value} {d : V} {d' : Value} (r : RelO o u) (rd : RelV d d') : RelV (o.getD d) (u.getD d') := by
 cases o with
 |
  none => cases u with
  | none => exact rd
  | some _ => exact (show False from r).elim
 |
  some _ => cases u with
  | none => exact (show False from r).elim
  | some _ => exact r
theorem KV.val {kvs : List (κ × V)} {vs : List (κ × Value)} (r : KV kvs vs) (k : κ) : RelO (Eu kvs k) (valueAt vs k) := by
 unfold KV at r
 induction r with
 | nil => exact True.intro
 |
  @cons p q ps qs h t ih =>
  obtain ⟨h1, h2⟩ := h
  by_cases e : p.1 = k
  ·
   have e' : q.1 = k := h1.symm.trans e
   have b : valueAt (q :: qs) k = some q.2 := by simp [valueAt, List.find?_cons, e']
   rw [Dk e, b]; exact h2
  ·
   have e' : ¬ q.1 = k := λ z => e (h1.trans z)
   have b : valueAt (q :: qs) k = valueAt qs k := by simp [valueAt, List.find?_cons, e']
   rw [Dc e, b]; exact ih
theorem KV.any {kvs : List (κ × V)} {vs : List (κ × Value)} (r : KV kvs vs) (k : κ) : (kvs.any λ kv => decide (kv.1 = k)) = vs.any λ kv => decide (kv.1 = k) := by
 unfold KV at r
 induction r with
 | nil => rfl
 | cons h t ih => rw [List.any_cons, List.any_cons, ih, h.1]
theorem KV.repl {kvs : List (κ × V)} {vs : List (κ × Value)} (r : KV kvs vs) (k : κ) {y : V} {u : Value} (ry : RelV y u) :
  KV (kvs.map λ kv => if kv.1 = k then (kv.1, y) else kv) (vs.map λ kv => if kv.1 = k then (kv.1, u) else kv) := by
 unfold KV at r ⊢
 induction r with
 | nil => exact .nil
 |
  @cons p q ps qs h t ih =>
  rw [List.map_cons, List.map_cons]
  refine .cons ?_ ih
  obtain ⟨h1, h2⟩ := h
  by_cases e : p.1 = k
  · rw [if_pos e, if_pos (h1.symm.trans e)]; exact ⟨h1, ry⟩
  · rw [if_neg e, if_neg (λ z => e (h1.trans z))]; exact ⟨h1, h2⟩
theorem KV.put {kvs : List (κ × V)} {vs : List (κ × Value)} (r : KV kvs vs) (k : κ) {y : V} {u : Value} (ry : RelV y u) : KV (putK kvs k y) (stored vs k u) := by
 unfold putK stored
 rw [r.any k]
 by_cases e : (vs.any λ kv => decide (kv.1 = k)) = true
 · rw [if_pos e, if_pos e]; exact r.repl k ry
 · rw [if_neg e, if_neg e]; exact Paired.snoc r ⟨rfl, ry⟩
theorem KV.drop {kvs : List (κ × V)} {vs : List (κ × Value)} (r : KV kvs vs) (k : κ) : KV (nr kvs k) (without vs k) := by
 unfold KV at r ⊢
 unfold nr without
 induction r with
 | nil => exact .nil
 |
  @cons p q ps qs h t ih =>
  obtain ⟨h1, h2⟩ := h
  rw [List.filter_cons, List.filter_cons]
  by_cases e : p.1 = k
  ·
   have a : ¬ decide (p.1 ≠ k) = true := by simp [e]
   have b : ¬ decide (q.1 ≠ k) = true := by simp [h1.symm.trans e]
   rw [if_neg a, if_neg b]; exact ih
  ·
   have e' : ¬ q.1 = k := λ z => e (h1.trans z)
   have a : decide (p.1 ≠ k) = true := by simp [e]
   have b : decide (q.1 ≠ k) = true := by simp [e']
   rw [if_pos a, if_pos b]; exact .cons ⟨h1, h2⟩ ih
theorem KV.keys {kvs : List (κ × V)} {vs : List (κ × Value)} (r : KV kvs vs) : kvs.map (·.1) = vs.map (·.1) := by
 unfold KV at r
 induction r with
 | nil => rfl
 | cons h t ih => rw [List.map_cons, List.map_cons, ih, h.1]
theorem KV.length {kvs : List (κ × V)} {vs : List (κ × Value)} (r : KV kvs vs) : kvs.length = vs.length := Paired.length r
end
theorem Th {P : Program} {w : World} {k : Key} {u : Value} (r : RelV (kV k) u) : (Bg P w).is k u = true := by
 cases k with
 | inl i => obtain ⟨t, e⟩ := (show ∃ t, u = Value.int i t from r); subst e; exact Ua P w i t
 | inr x => obtain ⟨t, e⟩ := (show ∃ t, u = Value.str x t from r); subst e; exact Uc P w x t
theorem eh {a b : Key} (e : kV a = kV b) : a = b := by
 cases a with
 |
  inl i => cases b with
  | inl j => have e' : V.int i = V.int j := e; injection e' with e'; rw [e']
  | inr y => exact nomatch (show V.int i = V.str y from e)
 |
  inr x => cases b with
  | inl j => exact nomatch (show V.str x = V.int j from e)
  | inr y => have e' : V.str x = V.str y := e; injection e' with e'; rw [e']
theorem Q5 {P : Program} {w : World} : ∀ {ks : List Key} {us : List Value}, Vals (ks.map kV) us -> ItemsAre (Bg P w) ks us
 | [], _, r => by rw [List.map_nil] at r; cases r; exact .nil
 |
  k :: ks, _, r => by
  rw [List.map_cons] at r
  cases r with
  | cons h t => exact .cons (Th h) (Q5 t)
abbrev KT (H : Hp) : List (List Key × V) -> List (List Key × Addr × Value) -> Prop := Paired λ p q => p.1 = q.1 /\ H q.2.1 = some (.tup (p.1.map kV)) /\ RelV p.2 q.2.2
theorem KT.val {H : Hp} {kvs : List (List Key × V)} {xs : List (List Key × Addr × Value)} (r : KT H kvs xs) (k : List Key) : RelO (Eu kvs k) ((atKey xs k).map (·.2)) := by
 induction r with
 | nil => exact True.intro
 |
  @cons p q ps qs h t ih =>
  obtain ⟨h1, _, h2⟩ := h
  by_cases e : p.1 = k
  ·
   have e' : q.1 = k := h1.symm.trans e
   have b : atKey (q :: qs) k = some q.2 := by simp [atKey, List.find?_cons, e']
   rw [Dk e, b]; exact h2
  ·
   have e' : ¬ q.1 = k := λ z => e (h1.trans z)
   have b : atKey (q :: qs) k = atKey qs k := by simp [atKey, List.find?_cons, e']
   rw [Dc e, b]; exact ih
theorem KT.repl {H : Hp} {kvs : List (List Key × V)} {xs : List (List Key × Addr × Value)} (r : KT H kvs xs) (k : List Key) {y : V} {u : Value} (ry : RelV y u) :
  KT H (kvs.map λ kv => if kv.1 = k then (kv.1, y) else kv) (xs.map (putAt k u)) := by
 induction r with
 | nil => exact .nil
 |
  @cons p q ps qs h t ih =>
  rw [List.map_cons, List.map_cons]
  refine .cons ?_ ih
  obtain ⟨h1, h2, h3⟩ := h
  unfold putAt
  by_cases e : p.1 = k
  · rw [if_pos e, if_pos (h1.symm.trans e)]; exact ⟨h1, h2, ry⟩
  · rw [if_neg e, if_neg (λ z => e (h1.trans z))]; exact ⟨h1, h2, h3⟩
theorem KT.put {H : Hp} {kvs : List (List Key × V)} {xs : List (List Key × Addr × Value)} (r : KT H kvs xs) (k : List Key) {b : Addr} {y : V} {u : Value} (hb : H b = some (.tup (k.map kV))) (ry : RelV y u) :
  KT H (putK kvs k y) (storedH xs k b u) := by
 have e : (kvs.any λ kv => decide (kv.1 = k)) = (atKey xs k).isSome := by
  rw [Gw, (r.val k).isSome_eq, Option.isSome_map]
 unfold putK storedH
 rw [e]
 by_cases q : (atKey xs k).isSome = true
 · rw [if_pos q, if_pos q]; exact r.repl k ry
 · rw [if_neg q, if_neg q]; exact Paired.snoc r ⟨rfl, hb, ry⟩
theorem KT.keeps {H H' : Hp} {kvs : List (List Key × V)} {xs : List (List Key × Addr × Value)} (r : KT H kvs xs) (ht : ∀ b ys, H b = some (.tup ys) -> H' b = some (.tup ys)) : KT H' kvs xs :=
 Paired.mapP r λ _ _ z => ⟨z.1, ht _ _ z.2.1, z.2.2⟩
section
variable {P : Program} {w : World} {H : Hp} {h : Heap} {a : Addr}
theorem lu {u : HO} (ok : HOk P w H h) (e : Rd H a u) : ObjOk P w H h a u := e.ok ok
theorem Ul {kvs : List (Key × V)} (ok : HOk P w H h) (e : Rd H a (.dK kvs)) : kvs.length <= sizeLine /\ (a == sysModules) = false /\ ∃ vs, KV kvs vs /\ h.DictOf (Bg P w) a vs :=
 show ObjOk P w H h a (.dK kvs) from lu ok e
theorem l8 {kvs : List (Key × V)} (ok : HOk P w H h) (e : H a = some (.dK kvs)) : kvs.length <= sizeLine /\ (a == sysModules) = false /\ ∃ vs, KV kvs vs /\ h.DictOf (Bg P w) a vs := Ul ok (.inl e)
theorem Jc {ks : List Key} (ok : HOk P w H h) (e : H a = some (.tup (ks.map kV))) : (tupleKind (Bg P w)).is h ks a := by
 obtain ⟨_, its, r, o, h1, h2, n, h3⟩ := (show ObjOk P w H h a (.tup (ks.map kV)) from ok a _ e)
 exact ⟨o, its.toArray, n, h1, h2, h3, by simpa using Q5 r⟩
theorem Tu {kvs : List (List Key × V)} (ok : HOk P w H h) (e : Rd H a (.dT kvs)) : kvs.length <= sizeLine /\ (a == sysModules) = false /\
  ∃ xs, KT H kvs xs /\ h.DictOfH (tupleKind (Bg P w)) a xs := by
 obtain ⟨z, y, xs, r, o, es, ep, h1, h2, h3, h4, h5⟩ := (show ObjOk P w H h a (.dT kvs) from lu ok e)
 refine ⟨z, y, xs, r, o, es, ep, h1, h2, h3, h4, λ x hx => ?_, h5⟩
 have all : ∀ {l : List (List Key × V)} {m : List (List Key × Addr × Value)}, KT H l m -> ∀ x ∈ m, (tupleKind (Bg P w)).is h x.1 x.2.1 := by
  intro l m q
  induction q with
  | nil => intro x hx; exact nomatch hx
  |
   @cons p q ps qs hq t ih =>
   intro x hx
   rcases List.mem_cons.mp hx with e | hx
   ·
    subst e
    exact Jc ok (by rw [← hq.1]; exact hq.2.1)
   · exact ih x hx
 exact all r x hx
theorem gv {kvs : List (List Key × V)} (ok : HOk P w H h) (e : H a = some (.dT kvs)) : kvs.length <= sizeLine /\ (a == sysModules) = false /\
 ∃ xs, KT H kvs xs /\ h.DictOfH (tupleKind (Bg P w)) a xs := Tu ok (.inl e)
end
def DGet (H : Hp) (a : Addr) (y : V) (r : Option V) : Prop :=
 (∃ kvs k, Rd H a (.dK kvs) /\ y = kV k /\ r = Eu kvs k) ∨ ∃ kvs k b, Rd H a (.dT kvs) /\ y = .ref b /\ H b = some (.tup (k.map kV)) /\ r = Eu kvs k
def DPut (H : Hp) (a : Addr) (y v : V) (H' : Hp) : Prop :=
 (∃ kvs k, H a = some (.dK kvs) /\ y = kV k /\ kvs.length < sizeLine /\ H' = upd H a (.dK (putK kvs k v))) ∨
 ∃ kvs k b, H a = some (.dT kvs) /\ y = .ref b /\ H b = some (.tup (k.map kV)) /\ kvs.length < sizeLine /\ H' = upd H a (.dT (putK kvs k v))
theorem DGet.k {H : Hp} {a : Addr} {kvs : List (Key × V)} {k : Key} (e : H a = some (.dK kvs)) : DGet H a (kV k) (Eu kvs k) := .inl ⟨kvs, k, .inl e, rfl, rfl⟩
theorem DGet.t {H : Hp} {a b : Addr} {kvs : List (List Key × V)} {k : List Key} (e : H a = some (.dT kvs)) (eb : H b = some (.tup (k.map kV))) : DGet H a (.ref b) (Eu kvs k) := .inr ⟨kvs, k, b, .inl e, rfl, eb, rfl⟩
theorem DPut.k {H : Hp} {a : Addr} {kvs : List (Key × V)} {k : Key} {v : V} (e : H a = some (.dK kvs)) (hl : kvs.length < sizeLine) : DPut H a (kV k) v (upd H a (.dK (putK kvs k v))) := .inl ⟨kvs, k, e, rfl, hl, rfl⟩
theorem DPut.t {H : Hp} {a b : Addr} {kvs : List (List Key × V)} {k : List Key} {v : V} (e : H a = some (.dT kvs)) (eb : H b = some (.tup (k.map kV))) (hl : kvs.length < sizeLine) :
 DPut H a (.ref b) v (upd H a (.dT (putK kvs k v))) := .inr ⟨kvs, k, b, e, rfl, eb, hl, rfl⟩
section
variable {X : Cx} {pins : List (Addr × Obj)} {σ : St} {H : Hp} {s : Shared} {a : Addr} {y v : V} {u r : Value} {o : Option V} {A : Around} {E : Value -> Shared -> Prop}
theorem Inv.big (I : Inv X pins σ H s) : sysModules < s.heap.objs.size := by
 have h : mainGlobals < s.heap.objs.size := (I.mod.glob.keeps I.bk).lt
 exact Nat.lt_trans (by decide) h
theorem Zj {Q : Value -> Shared -> Prop} (hu : A.units + 1 < cLine) (I : Inv X pins σ H s) (g : DGet H a y (some v)) (ry : RelV y u) (h : ∀ w' s', Inv X pins σ H s' -> RelV v w' -> Q w' s') :
  wpAny (model X.prog X.w) A (getItem (.ref a) u) Q E s := by
 rcases g with ⟨kvs, k, e, ey, l⟩ | ⟨kvs, k, b, e, ey, eb, l⟩
 ·
  subst ey
  obtain ⟨z, hd, vs, rel, dd⟩ := Ul I.hok e
  obtain ⟨w', hw, rw'⟩ := RelO.some_of (v := v) (o := valueAt vs k) (by rw [l]; exact rel.val k)
  exact wpAny_getItem_of (Th ry) dd.mapOf hw (h w' _ (I.tok _) rw')
 ·
  subst ey
  cases (show u = Value.ref b from ry)
  obtain ⟨z, hd, xs, rel, dd⟩ := Tu I.hok e
  obtain ⟨w', hw, rw'⟩ := RelO.some_of (v := v) (o := (atKey xs k).map (·.2)) (by rw [l]; exact rel.val k)
  obtain ⟨p, hp, hp2⟩ := Option.map_eq_some_iff.mp hw
  refine wpAny_getItem_heap (tupleKind_room_in1 hu) (Jc I.hok eb) dd hp ?_
  rw [hp2]
  exact h w' _ (I.tok _) rw'
theorem wo {Q : Value -> Shared -> Prop} (hu : A.units + 1 < cLine) (I : Inv X pins σ H s) (g : DGet H a y o) (ry : RelV y u) (h : ∀ s', Inv X pins σ H s' -> Q (.bool o.isSome) s') :
  wpAny (model X.prog X.w) A (compareOp .In u (.ref a)) Q E s := by
 rcases g with ⟨kvs, k, e, ey, l⟩ | ⟨kvs, k, b, e, ey, eb, l⟩
 ·
  subst ey
  obtain ⟨z, hd, vs, rel, dd⟩ := Ul I.hok e
  refine wpAny_in_of (Th ry) hd dd.mapOf ?_
  rw [← (rel.val k).isSome_eq, ← l]
  exact h _ (I.tok _)
 ·
  subst ey
  cases (show u = Value.ref b from ry)
  obtain ⟨z, hd, xs, rel, dd⟩ := Tu I.hok e
  refine wpAny_in_heap (tupleKind_room_in1 hu) (Jc I.hok eb) hd dd ?_
  have q := (rel.val k).isSome_eq
  rw [Option.isSome_map] at q
  rw [← q, ← l]
  exact h _ (I.tok _)
theorem fu {Q : Value -> Shared -> Prop} (hu : A.units + 1 < cLine) (I : Inv X pins σ H s) (g : DGet H a y o) (ry : RelV y u) (h : ∀ s', Inv X pins σ H s' -> Q (.bool (!o.isSome)) s') :
  wpAny (model X.prog X.w) A (compareOp .NotIn u (.ref a)) Q E s := by
 rcases g with ⟨kvs, k, e, ey, l⟩ | ⟨kvs, k, b, e, ey, eb, l⟩
 ·
  subst ey
  obtain ⟨z, hd, vs, rel, dd⟩ := Ul I.hok e
  refine wpAny_notIn_of (Th ry) hd dd.mapOf ?_
  rw [← (rel.val k).isSome_eq, ← l]
  exact h _ (I.tok _)
 ·
  subst ey
  cases (show u = Value.ref b from ry)
  obtain ⟨z, hd, xs, rel, dd⟩ := Tu I.hok e
  refine wpAny_notIn_heap (tupleKind_room_in1 hu) (Jc I.hok eb) hd dd ?_
  have q := (rel.val k).isSome_eq
  rw [Option.isSome_map] at q
  rw [← q, ← l]
  exact h _ (I.tok _)
theorem Qc {h' : Heap} {t' : Nat} {ob : HO} (I : Inv X pins σ H s) (mu : Mut (H a)) (hs : Heap.SameBut a s.heap h') (he : ∃ q, h'.get? a = some q) (new : ObjOk X.prog X.w (upd H a ob) h' a ob) :
  Inv X pins σ (upd H a ob) { s with heap := h', toks := t' } :=
 I.write (x := a) (e := a) mu (.inl rfl) (λ b q hb z => (hs.2 b hb).trans z) he new
theorem mv {P : Program} {w : World} {H' : Hp} {h' : Heap} {kvs : List (Key × V)} {vs : List (Key × Value)} (z : kvs.length <= sizeLine) (hd : (a == sysModules) = false) (rel : KV kvs vs) (dd : h'.DictOf (Bg P w) a vs) :
 ObjOk P w H' h' a (.dK kvs) := ⟨z, hd, vs, rel, dd⟩
theorem Zv {H' : Hp} {Q : Unit -> Shared -> Prop} (hu : A.units + 1 < cLine) (I : Inv X pins σ H s) (g : DPut H a y v H') (ry : RelV y u) (rv : RelV v r) (h : ∀ s', Inv X pins σ H' s' -> Q () s') :
  wpAny (model X.prog X.w) A (setItem (.ref a) u r) Q E s := by
 rcases g with ⟨kvs, k, e, ey, l, eH⟩ | ⟨kvs, k, b, e, ey, eb, l, eH⟩
 ·
  subst ey eH
  obtain ⟨z, hd, vs, rel, dd⟩ := l8 I.hok e
  have hz : vs.length <= sizeLine := by rw [← rel.length]; exact z
  have hl : (putK kvs k v).length <= sizeLine := by have := Dv kvs k v; omega
  refine wpAny_setItem_pairs (hsz := hz) (Th ry) dd λ h' dd' hs => h _ ?_
  have he : ∃ q, h'.get? a = some q := let ⟨q, _, _, hq, _⟩ := dd'; ⟨q, hq⟩
  exact Qc I (by rw [e]; exact True.intro) hs he (mv hl hd (rel.put k rv) dd')
 ·
  subst ey eH
  cases (show u = Value.ref b from ry)
  obtain ⟨z, hd, xs, rel, dd⟩ := gv I.hok e
  have hz : xs.length <= sizeLine := by rw [← Paired.length rel]; exact z
  have hl : (putK kvs k v).length <= sizeLine := by have := Dv kvs k v; omega
  refine wpAny_setItem_heap (hsz := hz) (tupleKind_room_in1 hu) (Jc I.hok eb) dd λ h' dd' hs => h _ ?_
  obtain ⟨q, es, ep, hq, h2, h3, h4, _, h5⟩ := dd'
  refine Qc I (by rw [e]; exact True.intro) hs ⟨q, hq⟩ ⟨hl, hd, _, (rel.put k eb rv).keeps λ c ys ec => ?_, q, es, ep, hq, h2, h3, h4, h5⟩
  rw [Al (Eo ec e (λ z => nomatch z))]
  exact ec
end
section
variable {X : Cx} {pins : List (Addr × Obj)} {σ : St} {H : Hp} {s : Shared} {a : Addr} {kvs : List (Key × V)} {k : Key} {u : Value} {A : Around} {E : Value -> Shared -> Prop}
end
def ve (i : Expr) : Prop := ∀ ov iv, subscripted i false ov iv = operate [ov, iv] (getItem ov iv)
theorem jb {prog : Program} {w : World} {A : Around} {E : Value -> Shared -> Prop} {s : Shared} {env : Env} {value slice : Expr} {pos : Pos} {T id : String} {Q : Value -> Shared -> Prop}
  (hl : typeLookup (.type T) "__getitem__" = pure (some (.builtin id))) (hs : ve slice)
  (h : wpAny (model prog w) A (eval value env) (λ o s₁ => wpAny (model prog w) A (eval slice env) (λ i s₂ => s₂.TypeIs o T /\ wpAny (model prog w) A (getItem o i) Q E s₂) E s₁) E s) :
  wpAny (model prog w) A (eval (.Subscript value slice pos) env) Q E s := by
 refine Subscript_ (wpAny_mono h (λ o s₁ h₁ => wpAny_mono h₁ (λ i s₂ h₂ => ?_) λ _ _ x => x) λ _ _ x => x)
 obtain ⟨hT, h₂⟩ := h₂
 unfold subscriptTail
 refine wpAny_bind ?_
 rw [getitemInPython_of_ne hT.not_modules]
 refine wpAny_bind (wpAny_specialOf hT hl ?_)
 have fin : wpAny (model prog w) A (subscripted slice false o i) (λ r s₃ => wpAny (model prog w) A (letTemporaryGo value o r >>= λ _ => pure r) Q E s₃) E s₂ := by
  rw [hs o i]
  exact wpAny_operating (wpAny_mono h₂ (λ r s₃ h₃ => wpAny_bind (wpAny_letTemporaryGo (wpAny_pure h₃))) λ _ _ x => x)
 first
  | exact wpAny_pure (wpAny_bind fin)
  | exact wpAny_bind (wpAny_pure (wpAny_bind fin))
  | exact wpAny_bind fin
theorem Uk {X : Cx} {pins : List (Addr × Obj)} {σ : St} {H : Hp} {s : Shared} {a : Addr} {y : V} {o : Option V} (I : Inv X pins σ H s) (g : DGet H a y o) : s.TypeIs (.ref a) "dict" := by
 rcases g with ⟨kvs, k, e, _, _⟩ | ⟨kvs, k, b, e, _, _, _⟩
 ·
  obtain ⟨_, _, vs, _, dd⟩ := Ul I.hok e
  exact dd.typeIs
 ·
  obtain ⟨_, _, xs, _, dd⟩ := Tu I.hok e
  exact dd.typeIs
def sr (td ty : TE) : TE := λ σ H Q => td σ H λ x H1 => ty σ H1 λ y H2 => ∃ a v, x = .ref a /\ DGet H2 a y (some v) /\ Q v H2
def vm (ty td : TE) : TE := λ σ H Q => ty σ H λ y H1 => td σ H1 λ x H2 => ∃ a o, x = .ref a /\ DGet H2 a y o /\ Q (.bl o.isSome) H2
def jq (ty td : TE) : TE := λ σ H Q => ty σ H λ y H1 => td σ H1 λ x H2 => ∃ a o, x = .ref a /\ DGet H2 a y o /\ Q (.bl (!o.isSome)) H2
def pe (td ty tv : TE) : TS := λ D σ H => tv σ H λ v H1 => td σ H1 λ x H2 => ty σ H2 λ y H3 => ∃ a H4, x = .ref a /\ DPut H3 a y v H4 /\ D.nx σ H4
section
variable {X : Cx} {o i e value : Expr} {pos pos' tpos : Pos} {td ty tv : TE}
theorem Us (hu : X.A.units + 1 < cLine) (ho : PE X o td) (hi : PE X i ty) (hs : ve i) : PE X (.Subscript o i pos) (sr td ty) := by
 intro pins s σ H Q I h
 refine jb PySem.F.slot_dict_getitem.lookup hs (thn (ho pins s σ H _ I h) λ u s1 ⟨x, H1, I1, rx, q1⟩ => thn (hi pins s1 σ H1 _ I1 q1) λ iv s2 ⟨y, H2, I2, ry, a, v, ex, g, q2⟩ => ?_)
 subst ex
 obtain rfl : u = Value.ref a := rx
 exact ⟨Uk I2 g, Zj hu I2 g ry λ w' s3 I3 rw' => ⟨v, H2, I3, rw', q2⟩⟩
theorem nu (hu : X.A.units + 1 < cLine) (hi : PE X i ty) (ho : PE X o td) : PC X .In i o (vm ty td) := by
 intro pins s σ H Q I h
 refine thn (hi pins s σ H _ I h) λ iv s1 ⟨y, H1, I1, ry, q1⟩ => thn (ho pins s1 σ H1 _ I1 q1) λ u s2 ⟨x, H2, I2, rx, a, ov, ex, g, q2⟩ => ?_
 subst ex
 obtain rfl : u = Value.ref a := rx
 exact wo hu I2 g ry λ s3 I3 => ⟨.bl ov.isSome, H2, I3, rfl, q2⟩
theorem Sv (hu : X.A.units + 1 < cLine) (hi : PE X i ty) (ho : PE X o td) : PC X .NotIn i o (jq ty td) := by
 intro pins s σ H Q I h
 refine thn (hi pins s σ H _ I h) λ iv s1 ⟨y, H1, I1, ry, q1⟩ => thn (ho pins s1 σ H1 _ I1 q1) λ u s2 ⟨x, H2, I2, rx, a, ov, ex, g, q2⟩ => ?_
 subst ex
 obtain rfl : u = Value.ref a := rx
 exact fu hu I2 g ry λ s3 I3 => ⟨.bl (!ov.isSome), H2, I3, rfl, q2⟩
theorem T4 (hu : X.A.units + 1 < cLine) (ho : PE X o td) (hi : PE X i ty) (hv : PE X value tv) (hs : swapsWith value (some (.Subscript o i pos')) pos.line X.env = pure false) :
  PS X (.Assign [.Subscript o i pos'] value pos) (pe td ty tv) := by
 intro pins s σ H D I h
 refine wpAny_Assign_Subscript (thn (hv pins s σ H _ I h) λ r s1 ⟨v, H1, I1, rv, q1⟩ => thn (ho pins s1 σ H1 _ I1 q1) λ u s2 ⟨x, H2, I2, rx, q2⟩ => thn (hi pins s2 σ H2 _ I2 q2) λ iv s3 ⟨y, H3, I3, ry, a, H4, ex, g, q3⟩ => ?_) hs
 subst ex
 obtain rfl : u = Value.ref a := rx
 exact Zv hu I3 g ry rv λ s4 I4 => ⟨σ, H4, I4, q3⟩
end
theorem cq {P : Program} {w : World} {H : Hp} (h : Heap) (hb : sysModules < h.objs.size) : ObjOk P w H (h.push { cls := .type "dict", data := .dict #[] }) h.objs.size (.dK []) :=
 ⟨Nat.zero_le _, beq_eq_false_iff_ne.mpr (Ne.symm (Nat.ne_of_lt hb)), [], .nil, Heap.DictOf.new h⟩
theorem ar {P : Program} {w : World} {H : Hp} (h : Heap) (hb : sysModules < h.objs.size) : ObjOk P w H (h.push { cls := .type "dict", data := .dict #[] }) h.objs.size (.dT []) :=
 ⟨Nat.zero_le _, beq_eq_false_iff_ne.mpr (Ne.symm (Nat.ne_of_lt hb)), [], .nil, _, #[], 0, Heap.get?_push_size _ rfl, ⟨rfl, rfl, rfl⟩, rfl, rfl, List.nodup_nil⟩
def l9 : TE := λ _ H Q => ∀ p, H p = none -> Q (.ref p) (upd H p (.dK []))
def km : TE := λ _ H Q => ∀ p, H p = none -> Q (.ref p) (upd H p (.dT []))
section
variable {X : Cx} {pos : Pos}
theorem Pg : PE X (.Dict [] [] pos) l9 := λ pins s σ H Q I h =>
 wpAny_Dict_empty ⟨.ref s.heap.objs.size, _, I.laid (a := s.heap.objs.size) (o := .dK []) (t' := s.toks) (λ _ _ q => Heap.get?_push_of_some _ q) (Nat.le_refl _) (cq s.heap I.big), rfl, h _ (I.hok.fresh (Nat.le_refl _))⟩
theorem Vc : PE X (.Dict [] [] pos) km := λ pins s σ H Q I h =>
 wpAny_Dict_empty ⟨.ref s.heap.objs.size, _, I.laid (a := s.heap.objs.size) (o := .dT []) (t' := s.toks) (λ _ _ q => Heap.get?_push_of_some _ q) (Nat.le_refl _) (ar s.heap I.big), rfl, h _ (I.hok.fresh (Nat.le_refl _))⟩
end
structure M1 (X : Cx) (o : Expr) (m : Str) (apos : Pos) (e : Expr) (cpos : Pos) : Prop where
 base : attributeBase o m X.env (eval o X.env) = eval o X.env
 few : ((backTo cpos (starEach [e] X.env)).all (λ x => !x.1) && (backToKw cpos (keywordEach [] X.env)).all (λ x => x.1.isSome)
  && decide (([e] : List Expr).length + ([] : List Keyword).length + (if ([] : List Keyword).isEmpty then 0 else 1) < 30)) = true
 line : (apos.endLine == cpos.line) = true
 trees : backTo cpos (starEach [e] X.env) = [(false, eval e X.env)]
structure M2 (X : Cx) (o : Expr) (m : Str) (apos : Pos) (e f : Expr) (cpos : Pos) : Prop where
 base : attributeBase o m X.env (eval o X.env) = eval o X.env
 few : ((backTo cpos (starEach [e, f] X.env)).all (λ x => !x.1) && (backToKw cpos (keywordEach [] X.env)).all (λ x => x.1.isSome)
  && decide (([e, f] : List Expr).length + ([] : List Keyword).length + (if ([] : List Keyword).isEmpty then 0 else 1) < 30)) = true
 line : (apos.endLine == cpos.line) = true
 trees : backTo cpos (starEach [e, f] X.env) = [(false, eval e X.env), (false, eval f X.env)]
def IsD (H : Hp) (a : Addr) : Prop := (∃ kvs, Rd H a (.dK kvs)) ∨ ∃ kvs, Rd H a (.dT kvs)
theorem mn {X : Cx} {pins : List (Addr × Obj)} {σ : St} {H : Hp} {s : Shared} {a : Addr} (I : Inv X pins σ H s) (d : IsD H a) :
  s.TypeIs (.ref a) "dict" /\ (∀ b, Value.ref a = .ref b -> ∃ ob, s.heap.get? b = some ob /\ ob.dict = none) /\ (a == sysModules) = false := by
 rcases d with ⟨kvs, e⟩ | ⟨kvs, e⟩
 ·
  obtain ⟨_, hd, vs, _, dd⟩ := Ul I.hok e
  refine ⟨dd.typeIs, λ b q => ?_, hd⟩
  cases q
  obtain ⟨ob, _, _, h1, h2, _⟩ := dd
  exact ⟨ob, h1, h2.2.1⟩
 ·
  obtain ⟨_, hd, xs, _, dd⟩ := Tu I.hok e
  refine ⟨dd.typeIs, λ b q => ?_, hd⟩
  cases q
  obtain ⟨ob, _, _, h1, h2, _⟩ := dd
  exact ⟨ob, h1, h2.2.1⟩
section
variable {X : Cx} {pins : List (Addr × Obj)} {σ : St} {H : Hp} {s : Shared} {a : Addr} {y d : V} {u r : Value} {o : Option V} {A : Around} {E : Value -> Shared -> Prop}
theorem j3 {Q : Value -> Shared -> Prop} (hu : A.units + 1 < cLine) (I : Inv X pins σ H s) (g : DGet H a y o) (ry : RelV y u) (rd : RelV d r) (h : ∀ w' s', Inv X pins σ H s' -> RelV (o.getD d) w' -> Q w' s') :
  wpAny (model X.prog X.w) A (call (.builtin "dict.get") [.ref a, u, r]) Q E s := by
 rcases g with ⟨kvs, k, e, ey, l⟩ | ⟨kvs, k, b, e, ey, eb, l⟩
 ·
  subst ey
  obtain ⟨z, hd, vs, rel, dd⟩ := Ul I.hok e
  refine call_meetsIn PySem.F.slot_dict_get dd.typeIs PySem.F.entry_dict_get (PySem.F.args_dict_get_3 _ _ _) (meets_dict_get_default (Bg X.prog X.w) a (Th ry) hd r) ⟨_, dd.mapOf, h _ _ (I.tok _) ?_⟩
  rw [l]
  exact (rel.val k).getD rd
 ·
  subst ey
  cases (show u = Value.ref b from ry)
  obtain ⟨z, hd, xs, rel, dd⟩ := Tu I.hok e
  refine call_meetsIn PySem.F.slot_dict_get dd.typeIs PySem.F.entry_dict_get (PySem.F.args_dict_get_3 _ _ _) (meetsH_dict_get_default (tupleKind (Bg X.prog X.w)) a b hd r) ⟨tupleKind_room_in1 hu, k, xs, Jc I.hok eb, dd, h _ _ (I.tok _) ?_⟩
  rw [l]
  exact (rel.val k).getD rd
end
def lx (td ty tx : TE) : TE := λ σ H Q => td σ H λ x H1 => ∃ a, x = .ref a /\ IsD H1 a /\ ty σ H1 λ y H2 => tx σ H2 λ z H3 => ∃ o, DGet H3 a y o /\ Q (o.getD z) H3
section
variable {X : Cx} {o e f : Expr} {apos cpos : Pos} {td ty tx : TE}
theorem Qp (hu : X.A.units + 1 < cLine) (ho : PE X o td) (he : PE X e ty) (hf : PE X f tx) (m : M2 X o "get" apos e f cpos) : PE X (.Call (.Attribute o "get" apos) [e, f] [] cpos) (lx td ty tx) := by
 intro pins s σ H Q I h
 refine wpAny_Call_method m.base m.few m.line PySem.F.plainAttrs_dict PySem.F.slot_dict_get PySem.F.type_dict_get (thn (ho pins s σ H _ I h) λ u s1 ⟨x, H1, I1, rx, a, ex, d, q1⟩ => ?_)
 subst ex
 obtain rfl : u = Value.ref a := rx
 obtain ⟨t1, t2, _⟩ := mn I1 d
 refine ⟨t1, t2, ?_⟩
 rw [m.trees]
 refine Calls.callWith_builtin rfl (Calls.evalArgs_plain (Calls.spliced_cons (thn (he pins s1 σ H1 _ I1 q1) λ iv s2 ⟨y, H2, I2, ry, q2⟩ =>
  Calls.spliced_cons (thn (hf pins s2 σ H2 _ I2 q2) λ fv s3 ⟨z, H3, I3, rz, ov, g, q3⟩ => Calls.spliced_nil ?_))))
 exact j3 hu I3 g ry rz λ w' s4 I4 rw' => ⟨_, H3, I4, rw', q3⟩
end
section
variable {X : Cx} {pins : List (Addr × Obj)} {σ : St} {H : Hp} {s : Shared} {a : Addr} {kvs : List (Key × V)} {A : Around} {E : Value -> Shared -> Prop}
end
section
variable {X : Cx} {pins : List (Addr × Obj)} {σ : St} {H : Hp} {s : Shared} {a : Addr} {y : V} {u : Value} {A : Around} {E : Value -> Shared -> Prop}
end
end L2
namespace Att
open PySem PySem.W PySem.Calls PyProof.Rows
section
variable {prog : Program} {w : World} {A : Around} {E : Value -> Shared -> Prop} {s : Shared} {K : Frag}
end
end Att
namespace L2
open PySem PySem.Spec PyProof.Rows
section
variable {P : Program} {w : World} {K : W.Frag} {mg : Str -> Option Value} {base : Heap}
end
section
variable {X : Cx}
end
section
variable {κ : Type} [DecidableEq κ]
theorem aw {kvs : List (κ × V)} {k : κ} (h : Eu kvs k = none) : ¬ k ∈ kvs.map (·.1) := by
 intro m
 obtain ⟨p, hp, e⟩ := List.mem_map.mp m
 have q : (kvs.any λ kv => decide (kv.1 = k)) = true := List.any_eq_true.mpr ⟨p, hp, decide_eq_true e⟩
 rw [Gw, h] at q
 exact absurd q (by simp)
theorem fq {kvs : List (κ × V)} {k : κ} {v : V} (h : Eu kvs k = some v) : k ∈ kvs.map (·.1) := by
 have q : (kvs.any λ kv => decide (kv.1 = k)) = true := by
  rw [Gw, h]
  all_goals rfl
 obtain ⟨p, hp, e⟩ := List.any_eq_true.mp q
 exact List.mem_map.mpr ⟨p, hp, of_decide_eq_true e⟩
end
end L2
namespace L2
open PySem PySem.W PyProof.Rows
section
variable {prog : Program} {w : World} {A : Around} {E : Value -> Shared -> Prop} {s : Shared}
theorem Uy {T : String} {r d : Addr} {n : Nat} {P : Nat -> Value -> Prop} {OK : Heap -> Prop} {Q : List Value -> Shared -> Prop} (S : KdlSrc prog w T r d n P OK) (hh : A.handled = none) (hok : OK s.heap) (hn : n <= sizeLine)
  (h : ∀ h' tk (acc : Array Value), (∀ b o, s.heap.get? b = some o -> h'.get? b = some o) -> s.heap.objs.size <= h'.objs.size -> ItemsOf P acc n -> Q acc.toList { s with heap := h', toks := tk }) : wpAny (model prog w) A (collect (.ref r)) Q E s := by
 unfold collect
 refine wpAny_bind (wpAny_runValue (codeAny_builtin entry_proto_collect' ?_))
 show wpAny _ _ (do again (.builtin "list.__iadd__" ⟨[← newList [], .ref r], []⟩)) _ _ s
 refine wpAny_bind (wpAny_newList (wpAny_pure ⟨Code.quiet_builtin _ (by decide +kernel), codeAny_builtin entry_list_iadd' ?_⟩))
 show wpAny _ _ (Builtin.List.listExtendWith (.ref s.heap.objs.size) (.ref r) (.ref s.heap.objs.size)) _ _ { s with heap := s.heap.push (seqObj "list" #[] 0) }
 have hS : (s.heap.push (seqObj "list" #[] 0)).get? s.heap.objs.size = some { cls := .type "list", data := .seq #[] 0 } := Heap.get?_push_size _ rfl
 rw [Around.under_plainId PySem.F.plain_list_iadd _]
 refine kdl_extend (A := A) (R := λ r s' => match r with
   |
    Except.ok (Flow.ret v) => wpAny (model prog w) A (match v with
    |
     .ref a => do match (← load a).data with
     | .seq xs _ => pure xs.toList
     | _ => unsupported "internal:collect"
    | _ => unsupported "internal:collect") Q E s'
   | Except.ok _ => False
   | Except.error e => E e s') (s := { s with heap := s.heap.push (seqObj "list" #[] 0) }) S hh (S.keep _ _ hok λ b _ o e => Heap.get?_push_of_some _ e) s.heap.objs.size (Nat.ne_of_gt (S.there _ hok).1) (Nat.ne_of_gt (S.there _ hok).2) (.ref s.heap.objs.size) 0 hS (λ h' tk acc c' hk hS' hacc => ?_) hn
 show wpAny (model prog w) A (do
   let o ← load s.heap.objs.size
   match o.data with
   | .seq xs _ => pure xs.toList
   | _ => unsupported "internal:collect") Q E { s with heap := h', toks := tk }
 refine wpAny_bind (wpAny_load hS' ?_)
 exact wpAny_pure (h h' tk acc (λ b o e => hk b o (Nat.ne_of_lt (Heap.lt_size e)) (Heap.get?_push_of_some _ e)) (Nat.le_of_lt (Heap.lt_size hS')) hacc)
end
section
variable {X : Cx}
end
section
variable {X : Cx}
end
theorem ex1 {us : List Value} (h : us.length = 1) : ∃ a, us = [a] := by
 match us, h with
 | [a], _ => exact ⟨a, rfl⟩
theorem ex2 {us : List Value} (h : us.length = 2) : ∃ a b, us = [a, b] := by
 match us, h with
 | [a, b], _ => exact ⟨a, b, rfl⟩
theorem ex3 {us : List Value} (h : us.length = 3) : ∃ a b c, us = [a, b, c] := by
 match us, h with
 | [a, b, c], _ => exact ⟨a, b, c, rfl⟩
theorem ex5 {us : List Value} (h : us.length = 5) : ∃ a b c d e, us = [a, b, c, d, e] := by
 match us, h with
 | [a, b, c, d, e], _ => exact ⟨a, b, c, d, e, rfl⟩
theorem ex6 {us : List Value} (h : us.length = 6) : ∃ a b c d e f, us = [a, b, c, d, e, f] := by
 match us, h with
 | [a, b, c, d, e, f], _ => exact ⟨a, b, c, d, e, f, rfl⟩
end L2
namespace L2
open PySem PySem.Spec PyProof.Rows PySem.SeqAt
abbrev LA := Addr × List RA
def qt (ls : List LA) : List V := ls.map λ x => V.ref x.1
def RowsOk (H : Hp) (ls : List LA) : Prop := ∀ x ∈ ls, RowAt H x.1 x.2
def RowsAt (H : Hp) (l : Addr) (ls : List LA) : Prop := H l = some (.lst (qt ls)) /\ RowsOk H ls
theorem RowsOk.up {H H' : Hp} {ls : List LA} (h : RowsOk H ls) (s : Same H H') : RowsOk H' ls := λ x hx => (h x hx).up s
theorem RowsAt.up {H H' : Hp} {l : Addr} {ls : List LA} (h : RowsAt H l ls) (s : Same H H') : RowsAt H' l ls := ⟨s _ _ h.1, h.2.up s⟩
def tot (ls : List LA) : List (Int × Int) := ls.flatMap λ x => sps x.2
section
variable {X : Cx}
end
abbrev RT := Addr × (Int × Int × Int)
def Ys (rs : List RT) : List V := rs.map λ x => V.ref x.1
def v9 (t : Int × Int × Int) : List V := [.int t.1, .int t.2.1, .int t.2.2]
def TriOk (H : Hp) (rs : List RT) : Prop := ∀ x ∈ rs, H x.1 = some (.tup (v9 x.2))
def TriAt (H : Hp) (l : Addr) (rs : List RT) : Prop := H l = some (.lst (Ys rs)) /\ TriOk H rs
theorem TriOk.up {H H' : Hp} {rs : List RT} (h : TriOk H rs) (s : Same H H') : TriOk H' rs := λ x hx => s _ _ (h x hx)
theorem TriAt.up {H H' : Hp} {l : Addr} {rs : List RT} (h : TriAt H l rs) (s : Same H H') : TriAt H' l rs := ⟨s _ _ h.1, h.2.up s⟩
theorem X4 (rs : List RT) (a : Addr) (t : Int × Int × Int) : Ys rs ++ [.ref a] = Ys (rs ++ [(a, t)]) := by unfold Ys; rw [List.map_append]; rfl
theorem TriAt.put {H : Hp} {F t : Addr} {fs : List RT} {x y n : Int} (h : TriAt H F fs) (ht : H t = none) : TriAt (upd (upd H t (.tup [.int x, .int y, .int n])) F (.lst (Ys fs ++ [.ref t]))) F (fs ++ [(t, x, y, n)]) := by
 have htF : t ≠ F := λ z => by rw [z, h.1] at ht; cases ht
 refine ⟨by rw [Ae, X4 _ _ (x, y, n)], λ q hq => ?_⟩
 rcases List.mem_append.mp hq with hq | hq
 ·
  have e := h.2 q hq
  rw [Al (λ z => by rw [z, h.1] at e; cases e), Al (Aq e ht)]
  exact e
 ·
  rw [List.mem_singleton] at hq
  subst hq
  rw [Al htF]
  exact Ae
section
variable {X : Cx}
end
section
variable {cm : Bool} {P : Program} {w : World} {K : W.Frag} {mg : Str -> Option Value} {base : Heap} {CX : CXT} {k : Nat} {f : Addr} {fd : FuncData} {ps : List Str} {sp sp' : Sp}
theorem FnOk.or (F : FnOk P w K mg base CX cm k f fd ps sp) (G : FnOk P w K mg base CX cm k f fd ps sp') : FnOk P w K mg base CX cm k f fd ps (λ vs H Q E => sp vs H Q E ∨ sp' vs H Q E) :=
 ⟨λ vs H Q E h => h.elim (F.len vs H Q E) (G.len vs H Q E), λ A outer s H args us vs Q E hr he hb hv hs => hs.elim (F.run A outer s H args us vs Q E hr he hb hv) (G.run A outer s H args us vs Q E hr he hb hv)⟩
end
section
variable {X : Cx}
end
section
variable {X : Cx} {K : W.Frag}
end
end L2
namespace L2
open PySem PySem.Spec PyProof.Rows
section
variable {X : Cx} {tg : Expr}
end
section
variable {X : Cx}
end
end L2
namespace L2
open PySem PySem.Spec PyProof.Rows PySem.Calls
theorem Dy {i0 : Nat} {x0 : Str} {X : Cx} {elt tgt iter : Expr} {ifs : List Expr} {scope : Scope} {pos pos' spos : Pos} {N : List Str} {cap : List (Option Nat)} {wi : TI} {g : TG} {tt : TT} {te : TE} (hN0 : X.N.Nodup) (hi0 : X.N[i0]? = some x0) (hx0 : X.env.scope.names.lookup x0 = some .local)
  (S : Ay X.env.scope scope X.N N cap) (hc : X.calm = true) (hi : PI X tgt iter wi)
  (hb : ∀ (C : Addr) (s : Shared) (H : Hp) (fp : List Addr), PG (Cn X N scope C s H fp) tgt g /\ ox (Cn X N scope C s H fp) ifs tt /\ PE (Cn X N scope C s H fp) elt te)
  (hclos : closureFor scope X.env = pure (O0 X.env scope.names []) := by with_unfolding_all rfl) (hs : ∀ x, foldedSetIterable iter X.env x = pure x := by intro _; rfl)
  (hsw : swapsWith (.ListComp elt [⟨tgt, iter, ifs, 0⟩] scope pos) (some (.Name x0 pos')) spos.line X.env = pure true := by with_unfolding_all rfl) :
  PS X (.Assign [.Name x0 pos'] (.ListComp elt [⟨tgt, iter, ifs, 0⟩] scope pos) spos) (qk (j9 wi cap g tt te) (Nt i0)) := by
 intro pins s σ H D0 I h
 rw [exec_Assign_Name_used _ _ _ _ hsw]
 refine wpAny_bind (wpAny_standAt (wpAny_bind ?_))
 show wpAny (model X.prog X.w) X.A (comprehension (.ListComp elt [⟨tgt, iter, ifs, 0⟩] scope pos) scope X.env (firstIterPos [⟨tgt, iter, ifs, 0⟩] pos) (newList []) (firstAsync [⟨tgt, iter, ifs, 0⟩]) (firstIter [⟨tgt, iter, ifs, 0⟩] X.env) (some (assign (.Name x0 pos') X.env)) >>= λ _ => pure ()) _ _ _
 refine wpAny_bind (wpAny_mono (Q := λ _ s' => SP X pins D0 .next s') ?main (λ _ s' z => wpAny_pure (wpAny_pure z)) λ _ _ z => z)
 refine wpAny_comprehension_free (use := some (assign (.Name x0 pos') X.env)) (cl := O0 X.env scope.names []) rfl hs hclos S.kind S.names ?_
 refine thn (hi pins s σ H _ I h) λ v s1 h1 => thn h1 λ itv s2 h2 => ?_
 obtain ⟨it, fp, tn, J, H2, e, I2, T, st2, f2, k⟩ := h2
 subst e
 refine wpAny_newObj_type (wpAny_newFunctionEnv S.cell (by intro y hy; simp at hy) (λ h₁ hns₁ hsb₁ => ?_) S.kind)
 dsimp only at hns₁ hsb₁ ⊢
 have I3 : Inv X pins σ (upd H2 s2.heap.objs.size (.lst [])) { s2 with heap := s2.heap.push { cls := .type "list", dict := none, data := .seq ([] : List Value).toArray } } := I2.lnew (t' := s2.toks) .nil (Nat.zero_le _)
 obtain ⟨W, ⟨m0, w0⟩, turn⟩ := k s2.heap.objs.size I2.fresh
 generalize hD : s2.heap.objs.size = D at *
 generalize hsD : ({ s2 with heap := s2.heap.push { cls := .type "list", dict := none, data := .seq ([] : List Value).toArray } } : Shared) = sD at *
 have hsz : sD.heap.objs.size = D + 1 := by rw [← hsD, ← hD]; exact Heap.size_push ..
 have hheap : s2.heap.push { cls := .type "list", dict := none, data := .seq ([] : List Value).toArray } = sD.heap := by rw [← hsD]
 rw [hheap] at hns₁ hsb₁ ⊢
 have up : ∀ b o, s2.heap.get? b = some o -> sD.heap.get? b = some o := λ b o e => by rw [← hheap]; exact Heap.get?_push_of_some _ e
 have keep : ∀ b o, sD.heap.get? b = some o -> h₁.get? b = some o := λ b o e => hsb₁.extBut b o (Nat.ne_of_lt (Heap.lt_size e)) (Heap.get?_push_of_some _ e)
 have hfD : D ∉ fp := λ hm => by
  obtain ⟨o, e, _⟩ := T.obj _ _ st2 D hm
  have := Heap.lt_size e
  rw [hD] at this
  exact Nat.lt_irrefl _ this
 have f3 : ∀ b ∈ fp, FpOk X pins (upd H2 D (.lst [])) b := λ b hb => ⟨by rw [Al (λ z => hfD (by rw [← z]; exact hb))]; exact (f2 b hb).1, (f2 b hb).2⟩
 have hlt : ∀ b ∈ fp, b < sD.heap.objs.size := λ b hb => by
  obtain ⟨o, e, _⟩ := T.obj _ _ st2 b hb
  exact Heap.lt_size (up b o e)
 have I4 := Ot (t' := s2.toks + ([] : List (Str × Value)).length) S I3 f3 hlt hns₁ keep
 obtain ⟨hg, hif, hel⟩ := hb sD.heap.objs.size sD (upd H2 D (.lst [])) fp
 have st4 : tn 0 h₁ := T.keep _ _ _ st2 λ b hb o e => keep b o (up b o e)
 have stat : ∀ {H' : Hp}, (∀ b ∈ fp, H' b = none) -> ∀ b ∈ fp, FpOk (Cn X N scope sD.heap.objs.size sD (upd H2 D (.lst [])) fp) [] H' b := λ hn b hb =>
  ⟨hn b hb, (I4.ok.exf b hb).1, I4.ok.exfs b hb, .inl hb, λ x c h z => (I4.ok.exf b hb).2 x c h z, λ p hp => (by simp [Cn] at hp)⟩
 have loop : codeAny (model X.prog X.w) X.A (.compLoop (.ListComp elt [⟨tgt, iter, ifs, 0⟩] scope pos) 0 (.ref it) (.ref D) (compEnvC scope (O0 X.env scope.names []) sD.heap.objs.size X.env))
   (compPost (model X.prog X.w) X.A X.xe (some (assign (.Name x0 pos') X.env)) (λ _ s' => SP X pins D0 .next s') (.ref D) sD.heap.objs.size) { sD with heap := h₁, toks := s2.toks + ([] : List (Str × Value)).length } := by
  refine Ln (λ n s' => ∃ i ys σ' H', Inv (Cn X N scope sD.heap.objs.size sD (upd H2 D (.lst [])) fp) [] σ' H' s' /\ tn i s'.heap /\ (∀ b ∈ fp, H' b = none) /\ W i n ys σ' H') ?_ m0
   ⟨0, [], L1 cap σ, _, I4, st4, λ b hb => (f3 b hb).1, w0⟩
  rintro n s5 ⟨i, ys, σ5, H5, I5, st5, fr5, w5⟩
  obtain ⟨hD5, way⟩ := turn i n ys σ5 H5 w5
  rcases way with ⟨stop, q⟩ | ⟨go, step⟩
  ·
   refine thn (T.done (Cn X N scope sD.heap.objs.size sD (upd H2 D (.lst [])) fp) rfl rfl rfl hc i [] s5 σ5 H5 (λ _ _ => False) I5 (stat fr5) st5 stop) λ r s6 ⟨hr, I6⟩ => ?_
   subst hr
   obtain ⟨m, hn, _⟩ := I6.loc
   have hn' : s6.heap.Ns sD.heap.objs.size m := hn
   have J6 : Inv X pins σ H5 s6 := Vf I3 f3 I6 (Heap.SameBut.refl _ _)
   have cellNe : ∀ x c, X.env.cells.lookup x = some c -> c ≠ sD.heap.objs.size := λ x c h z => by
    obtain ⟨v, q⟩ := I3.cell x c h
    have := q.lt
    rw [z] at this
    exact Nat.lt_irrefl _ this
   refine wpAny_assign_Name (Q3 J6 hN0 hi0 (.inl hx0) (v := .ref D) rfl (λ s7 I7 ⟨a7, sb7, ha7⟩ => ⟨m, hn'.sameBut sb7 (λ z => ?_), λ h' sb => ?_⟩) (.inr hx0))
   ·
    rcases ha7 with e | e
    · exact absurd (z.trans e) (Nat.ne_of_gt I3.lt)
    · exact cellNe _ _ e z.symm
   ·
    refine ⟨_, H5, I7.turned (t' := s7.toks) (it := sD.heap.objs.size) (λ b o hb e => (sb.2 b hb).trans e) I6.free (Nat.ne_of_gt I3.lt) (.inr I3.sz) cellNe λ p hp z => ?_, q⟩
    have := Heap.lt_size (I3.pin p hp).1
    rw [z] at this
    exact Nat.lt_irrefl _ this
  ·
   refine thn (T.item (Cn X N scope sD.heap.objs.size sD (upd H2 D (.lst [])) fp) rfl rfl rfl hc i [] s5 σ5 H5 (λ _ _ => False) I5 (stat fr5) st5 go) λ r s6 ⟨u, hr, h6⟩ => ?_
   subst hr
   refine thn h6 λ _ s7 ⟨x, H7, I7, r7, y7, st7, fr7⟩ => ?_
   have I7' := I7.pinned (stat fr7) (T.obj _ _ st7)
   refine thn (hg _ s7 σ5 H7 x u _ I7' r7 (step x H7 y7)) λ _ s8 ⟨σ8, H8, I8, q8⟩ => ?_
   refine thn (hif _ s8 σ8 H8 _ I8 q8) λ b s9 ⟨H9, I9, q9⟩ => ?_
   have back : ∀ {σ' : St} {H' : Hp} {s' : Shared}, Inv (Cn X N scope sD.heap.objs.size sD (upd H2 D (.lst [])) fp) ([] ++ O5 fp s7.heap) σ' H' s' -> tn (i + 1) s'.heap /\ ∀ b ∈ fp, H' b = none := λ {σ' H' s'} J' =>
    ⟨T.keep _ _ _ st7 λ b hb o e => (J'.pin (b, o) (List.mem_append_right _ (List.mem_append_right _ (C0 hb e)))).1, λ b hb => by
     obtain ⟨o, e, d⟩ := T.obj _ _ st7 b hb
     exact (J'.pin (b, o) (List.mem_append_right _ (List.mem_append_right _ (C0 hb e)))).2.1⟩
   cases b with
   |
    false =>
    obtain ⟨m', hm, w9⟩ := (show ∃ m', m' < n /\ W (i + 1) m' ys σ8 H9 from q9)
    exact ⟨m', hm, i + 1, ys, σ8, H9, I9.unpinned, (back I9).1, (back I9).2, w9⟩
   |
    true =>
    refine thn (hel _ s9 σ8 H9 _ I9 (show te σ8 H9 _ from q9)) λ y s10 ⟨v10, H10, I10, r10, q10⟩ => ?_
    obtain ⟨hD10, hz, m', hm, w10⟩ := q10
    refine thn (Ep (X := Cn X N scope sD.heap.objs.size sD (upd H2 D (.lst [])) fp) _ s10 σ8 H10 (.ref D) [v10] (.ref D) [y] (λ _ H' => H' = upd H10 D (.lst (ys ++ [v10]))) I10 rfl (.cons r10 .nil) ⟨D, ys, v10, rfl, rfl, hD10, hz, rfl⟩) λ _ s11 ⟨v11, H11, I11, _, e11⟩ => ?_
    subst e11
    exact ⟨m', hm, i + 1, ys ++ [v10], σ8, _, I11.unpinned, (back I11).1, (back I11).2, w10⟩
 subst hsD
 subst hD
 exact codeAny_compStart_list loop (T.self _ 0 _ _ _ st4 loop)
end L2
namespace L2
open PySem PySem.Spec PyProof.Rows PySem.Calls PySem.SeqAt
section
variable {X : Cx}
end
end L2
namespace L2
open PySem PySem.Spec PyProof.Rows
section
variable {X : Cx} {CX : CXT} {cm : Bool} {k : Nat} {f : Addr} {fd : FuncData} {ps : List Str} {sp : Sp} {dvs : List V} {ds : List Value} {E : St -> XK} {x : Str} {p pos : Pos} {e : Expr} {es : List Expr} {t : TA} {tf : TE}
theorem PE.or {e : Expr} {t1 t2 : TE} (h1 : PE X e t1) (h2 : PE X e t2) : PE X e (λ σ H Q => t1 σ H Q ∨ t2 σ H Q) := by
 intro pins s σ H Q I h
 rcases h with h | h
 · exact h1 pins s σ H Q I h
 · exact h2 pins s σ H Q I h
end
end L2
namespace L2
open PySem PySem.Spec PySem.Calls PyProof.Rows
structure MkN (K : W.Frag) (C : Addr) : Prop where
 makes : W.makesIn K C = true
 init : W.findIn K (.ref C) "__init__" = some (some (.builtin "object.__init__"))
 kp : W.keepIn K (.ref C) = true
section
variable {X : Cx} {C : Addr} {x : Str} {p pos : Pos}
end
end L2
namespace L2
open PySem PySem.Spec PyProof.Rows PySem.SeqAt
abbrev NK := Sum Key (List Key)
section
variable {prog : Program} {w : World}
def NItem (prog : Program) (w : World) (h : Heap) : NK -> Value -> Prop
 | .inl k, v => (Bg prog w).is k v = true
 | .inr ks, v => ∃ a, v = .ref a /\ IsTupleKey (Bg prog w) h ks a
inductive NItems (prog : Program) (w : World) (h : Heap) : List NK -> List Value -> Prop
 | nil : NItems prog w h [] []
 | cons {k : NK} {v : Value} {ks : List NK} {vs : List Value} : NItem prog w h k v -> NItems prog w h ks vs -> NItems prog w h (k :: ks) (v :: vs)
def IsNest (prog : Program) (w : World) (h : Heap) (ks : List NK) (a : Addr) : Prop := ∃ o items n, h.get? a = some o /\ o.cls = .type "tuple" /\ o.data = .seq items n /\ NItems prog w h ks items.toList
theorem NItem.inj {h : Heap} {x y : NK} {v : Value} (hx : NItem prog w h x v) (hy : NItem prog w h y v) : x = y := by
 cases x with
 |
  inl x =>
  cases y with
  | inl y => rw [(Bg prog w).inj _ _ _ hx hy]
  |
   inr y =>
   obtain ⟨a, rfl, _⟩ := hy
   exact absurd ((Bg prog w).byValue _ _ hx) (by simp [carriedByValue])
 |
  inr x =>
  obtain ⟨a, rfl, p⟩ := hx
  cases y with
  | inl y => exact absurd ((Bg prog w).byValue _ _ hy) (by simp [carriedByValue])
  |
   inr y =>
   obtain ⟨b, e, q⟩ := hy
   cases e
   rw [p.inj q]
theorem NItems.inj {h : Heap} {x y : List NK} {vs : List Value} (hx : NItems prog w h x vs) (hy : NItems prog w h y vs) : x = y := by
 induction hx generalizing y with
 | nil => cases hy; rfl
 |
  cons h1 _ ih =>
  cases hy with
  | cons h2 t2 => rw [h1.inj h2, ih t2]
theorem IsNest.typeIs {s : Shared} {ks : List NK} {a : Addr} (x : IsNest prog w s.heap ks a) : s.TypeIs (.ref a) "tuple" := let ⟨o, _, _, ho, hc, _⟩ := x; ⟨o, ho, hc⟩
theorem IsNest.isTuple {h : Heap} {ks : List NK} {a : Addr} (x : IsNest prog w h ks a) : ∃ items, h.IsTuple a items /\ NItems prog w h ks items.toList := let ⟨o, its, n, ho, hc, hd, hi⟩ := x; ⟨its, ⟨o, ho, hc, n, hd⟩, hi⟩
theorem IsNest.inj {h : Heap} {a : Addr} {x y : List NK} (hx : IsNest prog w h x a) (hy : IsNest prog w h y a) : x = y := by
 obtain ⟨o, items, n, ho, _, hd, hi⟩ := hx
 obtain ⟨o', items', n', ho', _, hd', hi'⟩ := hy
 obtain rfl : o = o' := Option.some.inj (ho.symm.trans ho')
 rw [hd] at hd'
 injection hd' with h1 _
 subst h1
 exact hi.inj hi'
theorem NItem.keeps {h h' : Heap} {k : NK} {v : Value} {d : Addr} {o : Obj} {es ep} (x : NItem prog w h k v) (ho : h.get? d = some o) (hd : o.data = .dict es ep) (hs : Heap.SameBut d h h') : NItem prog w h' k v := by
 cases k with
 | inl k => exact x
 | inr ks => obtain ⟨a, e, p⟩ := x; exact ⟨a, e, p.keeps ho hd hs⟩
theorem IsNest.keeps {h h' : Heap} {ks : List NK} {a d : Addr} {o : Obj} {es ep} (x : IsNest prog w h ks a) (ho : h.get? d = some o) (hd : o.data = .dict es ep) (hs : Heap.SameBut d h h') : IsNest prog w h' ks a := by
 obtain ⟨o', items, n, ho', hc, hd', hi⟩ := x
 have hne : a ≠ d := by
  rintro rfl
  obtain rfl : o' = o := Option.some.inj (ho'.symm.trans ho)
  rw [hd] at hd'; exact nomatch hd'
 refine ⟨o', items, n, (hs.2 a hne).trans ho', hc, hd', ?_⟩
 generalize items.toList = vs at hi
 induction hi with
 | nil => exact .nil
 | cons h1 _ ih => exact .cons (h1.keeps ho hd hs) ih
def Uw (prog : Program) (w : World) : NK -> Int
 | .inl k => (Bg prog w).hash k
 | .inr ks => tupleKeyHash (Bg prog w) ks
def Xi : NK -> Nat
 | .inl _ => 1
 | .inr ks => ks.length + 1
def Qq (prog : Program) (w : World) (ks : List NK) : Int := reduceHash (Builtin.Tuple.tupleHashOf (ks.map (Uw prog w)))
def Nh (ks : List NK) : Nat := (ks.map Xi).sum + 1
variable {A : Around} {E : Value -> Shared -> Prop} {s : Shared}
theorem Ym {k : NK} {v : Value} {Q : Int -> Shared -> Prop} (hu : A.units < cLine) (hk : NItem prog w s.heap k v) (h : Q (Uw prog w k) { s with toks := s.toks + Xi k }) : wpAny (model prog w) A (pyHash v) Q E s := by
 cases k with
 | inl k => exact (Bg prog w).pyHash hk h
 | inr ks => obtain ⟨a, rfl, p⟩ := hk; exact wpAny_pyHash_tuple hu p h
theorem T1 {ks : List NK} {a : Addr} {Q : Int -> Shared -> Prop} (hu : A.units + 1 < cLine) (hk : IsNest prog w s.heap ks a) (h : Q (Qq prog w ks) { s with toks := s.toks + Nh ks }) :
  wpAny (model prog w) A (pyHash (.ref a)) Q E s := by
 have hT := hk.typeIs
 obtain ⟨o, items, n, ho, _, hd, hi⟩ := hk
 unfold pyHash
 first | unfold pyHashByItsType | skip
 first | refine wpAny_bind (wpAny_cRoomFor_or (.inr (by omega)) ?_) | skip
 refine wpAny_bind (wpAny_specialOf hT F.slot_tuple_hash.lookup ?_)
 show wpAny _ _ (if (some (Value.builtin "tuple.__hash__") == some Value.none) = true then _ else _) Q E s
 rw [if_neg (by rw [beq_builtin_none]; exact Bool.false_ne_true)]
 refine wpAny_bind (wpAny_specialOf hT F.slot_tuple_hash.lookup ?_)
 show wpAny _ _ (callSpecialIfBoundUnlessNone? (.ref a) "__hash__" _ >>= _) Q E s
 refine wpAny_bind (wpAny_callSpecialIfBoundUnlessNone?_slot hT F.slot_tuple_hash (wpAny_call_entry F.slot_tuple_hash hT F.entry_tuple_hash ?_ (F.args_tuple_hash_1 _)))
 show wpAny _ _ (Builtin.Tuple.tupleItemsOf (.ref a) >>= _) _ _ s
 refine wpAny_bind (wpAny_tupleItemsOf ho hd ?_)
 refine wpAny_bind ?_
 rw [← Array.forIn_toList]
 refine wpAny_forIn_list _
  (λ rest (b : Array Int) s' => ∃ done left, ks = done ++ left /\ NItems prog w s.heap left rest /\ b.toList = done.map (Uw prog w) /\ s' = { s with toks := s.toks + (done.map Xi).sum })
  _ ?_ ?_ _ _ ⟨[], ks, rfl, hi, rfl, rfl⟩
 ·
  rintro x rest b s' ⟨done, left, rfl, hl, hb, rfl⟩
  cases hl with
  |
   @cons k _ ks' _ h1 hl' =>
   refine wpAny_bind (Ym hu h1 ?_)
   first
    | exact wpAny_pure ⟨done ++ [k], ks', by simp, hl', by simp [hb], by simp [Nat.add_assoc]⟩
    | exact wpAny_bind (wpAny_pure (wpAny_pure ⟨done ++ [k], ks', by simp, hl', by simp [hb], by simp [Nat.add_assoc]⟩))
 ·
  rintro b s' ⟨done, left, rfl, hl, hb, rfl⟩
  cases hl
  rw [List.append_nil] at h
  show wpAny _ _ (retInt (Builtin.Tuple.tupleHashOf b.toList)) _ _ _
  rw [hb]
  refine wpAny_ret_mkInt ?_
  show wpAny _ _ (if (decide (-(2 : Int) ^ 63 <= Builtin.Tuple.tupleHashOf (done.map (Uw prog w))) && decide (Builtin.Tuple.tupleHashOf (done.map (Uw prog w)) < 2 ^ 63)) = true then _ else _) Q E _
  unfold Qq Nh reduceHash at h
  by_cases hr : (decide (-(2 : Int) ^ 63 <= Builtin.Tuple.tupleHashOf (done.map (Uw prog w))) && decide (Builtin.Tuple.tupleHashOf (done.map (Uw prog w)) < 2 ^ 63)) = true
  ·
   rw [if_pos hr]
   rw [if_pos hr] at h
   exact wpAny_pure (by simpa [Nat.add_assoc] using h)
  ·
   rw [if_neg hr]
   rw [if_neg hr] at h
   exact wpAny_bind (wpAny_rule (wpAny_pure (by simpa [Nat.add_assoc] using h)))
theorem Px {x y : NK} {u v : Value} (hu : A.units < cLine) (hx : NItem prog w s.heap x u) (hy : NItem prog w s.heap y v) {Q : Bool -> Shared -> Prop} (h : Q (decide (x = y)) s) : wpAny (model prog w) A (eqBool u v) Q E s := by
 cases x with
 |
  inl x =>
  cases y with
  | inl y => refine (Bg prog w).eqBool (a := x) (b := y) hx hy ?_; simpa using h
  |
   inr y =>
   obtain ⟨b, rfl, o, its, n, ho, hc, hd, _⟩ := hy
   have ht : s.heap.IsTuple b its := ⟨o, ho, hc, n, hd⟩
   rw [decide_eq_false (λ z => nomatch z)] at h
   cases x with
   |
    inl i =>
    obtain ⟨t, rfl⟩ := Value.isInt_shape (k := i) (v := u) hx
    exact EqAt.int_tuple i t ht hu prog w E Q h
   |
    inr z =>
    obtain ⟨t, rfl⟩ := Value.isStrOf_shape (x := z) (v := u) hx
    exact EqAt.str_tuple z t ht hu prog w E Q h
 |
  inr x =>
  obtain ⟨a, rfl, p⟩ := hx
  cases y with
  |
   inl y =>
   obtain ⟨o, its, n, ho, hc, hd, _⟩ := p
   have ht : s.heap.IsTuple a its := ⟨o, ho, hc, n, hd⟩
   rw [decide_eq_false (λ z => nomatch z)] at h
   cases y with
   |
    inl i =>
    obtain ⟨t, rfl⟩ := Value.isInt_shape (k := i) (v := v) hy
    exact EqAt.tuple_int i t ht hu prog w E Q h
   |
    inr z =>
    obtain ⟨t, rfl⟩ := Value.isStrOf_shape (x := z) (v := v) hy
    exact EqAt.tuple_str z t ht hu prog w E Q h
  |
   inr y =>
   obtain ⟨b, rfl, q⟩ := hy
   exact wpAny_eqBool_tuple hu p q (by simpa using h)
theorem Rk {x y : List NK} {a b : Addr} {P : PySem.Fin -> Shared -> Prop} (hu : A.units < cLine) (hx : IsNest prog w s.heap x a) (hy : IsNest prog w s.heap y b) (h : P (.done (.ret (.bool (decide (x = y))))) s) :
  wpAny (model prog w) A (Builtin.«tuple.__eq__» ⟨[.ref a, .ref b], []⟩) P E s := by
 have hTb := hy.typeIs
 obtain ⟨oa, xs, na, hoa, _, hda, hia⟩ := hx
 obtain ⟨ob, ys, nb, hob, _, hdb, hib⟩ := hy
 show wpAny _ _ (isInstance (.ref b) (.type "tuple") >>= _) _ _ s
 refine wpAny_bind (wpAny_isInstance hTb isSubtype_tuple_tuple ?_)
 simp only [Bool.not_true, Bool.false_eq_true, if_false]
 refine wpAny_bind (wpAny_tupleItemsOf hoa hda ?_)
 refine wpAny_bind (wpAny_tupleItemsOf hob hdb ?_)
 refine wpAny_bind ?_
 refine wpAny_forIn_list _
  (λ rest r s' => r.1 = none /\ s' = s /\ ∃ x' y' xs' ys', rest = List.zip xs' ys' /\ NItems prog w s.heap x' xs' /\ NItems prog w s.heap y' ys' /\ decide (x' = y') = decide (x = y) /\ (xs'.length == ys'.length) = (xs.size == ys.size))
  _ ?_ ?_ _ _ ⟨rfl, rfl, x, y, xs.toList, ys.toList, rfl, hia, hib, rfl, by simp⟩
 ·
  rintro ⟨u, v⟩ rest r s' ⟨hr, rfl, x', y', xs', ys', hz, hx', hy', hdec, hlen⟩
  cases hx' with
  | nil => simp at hz
  |
   @cons k1 u' x'' xs'' h1 hx'' =>
   cases hy' with
   | nil => simp at hz
   |
    @cons k2 v' y'' ys'' h2 hy'' =>
    simp only [List.zip_cons_cons, List.cons.injEq, Prod.mk.injEq] at hz
    obtain ⟨⟨rfl, rfl⟩, rfl⟩ := hz
    refine wpAny_bind (Px hu h1 h2 ?_)
    by_cases hk : k1 = k2
    ·
     subst hk
     rw [decide_eq_true rfl]
     simp only [Bool.not_true, Bool.false_eq_true, if_false]
     refine wpAny_pure ⟨rfl, rfl, x'', y'', xs'', ys'', rfl, hx'', hy'', ?_, by simpa using hlen⟩
     rw [← hdec]
     by_cases hxy : x'' = y''
     · simp [hxy]
     · simp [hxy]
    ·
     rw [decide_eq_false hk]
     simp only [Bool.not_false, if_true]
     have hf : decide (x = y) = false := by rw [← hdec]; simp [hk]
     rw [hf] at h
     exact wpAny_bind (wpAny_pure (wpAny_pure (wpAny_pure h)))
 ·
  rintro ⟨r1, r2⟩ s' ⟨hr, rfl, x', y', xs', ys', hz, hx', hy', hdec, hlen⟩
  simp only at hr
  subst hr
  refine wpAny_pure ?_
  have hfin : (xs.size == ys.size) = decide (x = y) := by
   rw [← hdec, ← hlen]
   cases hx' with
   |
    nil =>
    cases hy' with
    | nil => simp
    | cons _ _ => simp
   |
    cons _ _ =>
    cases hy' with
    | nil => simp
    | cons _ _ => simp at hz
  show P (.done (.ret (.bool (xs.size == ys.size)))) s'
  rw [hfin]; exact h
theorem Mh {x y : List NK} {a b : Addr} {Q : Bool -> Shared -> Prop} (hu : A.units + 1 < cLine) (hx : IsNest prog w s.heap x a) (hy : IsNest prog w s.heap y b) (h : Q (decide (x = y)) s) :
  wpAny (model prog w) A (eqBool (.ref a) (.ref b)) Q E s := by
 unfold eqBool
 try with_reducible refine wpAny_holding ?_
 show wpAny _ _ (if (Value.ref a == Value.ref b) = true then _ else _) Q E s
 by_cases hab : (Value.ref a == Value.ref b) = true
 ·
  rw [if_pos hab]
  have e : a = b := by have := eq_of_beq hab; injection this
  subst e
  obtain rfl := hx.inj hy
  exact wpAny_bind (wpAny_rule (wpAny_pure (by simpa using h)))
 ·
  rw [if_neg hab]
  exact wpAny_bind (wpAny_richCompare_same_room (op := .Eq) hx.typeIs hy.typeIs F.slot_tuple_eq
   (wpAny_call_entry F.slot_tuple_eq hx.typeIs F.entry_tuple_eq (Rk hu hx hy ⟨_, rfl, (λ e => nomatch e), wpAny_truthy_bool h⟩) (F.args_tuple_eq_2 _ _)) (by omega))
theorem j6 {ks : List Key} {a : Addr} {n : Nat} {Q : Bool -> Shared -> Prop} (hk : IsTupleKey (Bg prog w) s.heap ks a) (h : Q true s) : wpAny (model prog w) A (eqIsQuiet (n + 1) (.ref a)) Q E s := by
 have hT := hk.typeIs
 obtain ⟨o, items, n, ho, _, hd, hi⟩ := hk
 unfold eqIsQuiet
 refine wpAny_bind (wpAny_specialOf hT F.slot_tuple_eq.lookup ?_)
 show wpAny _ _ (isInstance (.ref a) (.type "tuple") >>= _) _ _ s
 refine wpAny_bind (wpAny_isInstance hT isSubtype_tuple_tuple ?_)
 simp only [Bool.not_true, Bool.false_eq_true, if_false]
 refine wpAny_bind (wpAny_seqItems ho hd ?_)
 refine wpAny_bind ?_
 show wpAny _ _ (forIn items _ _) _ _ s
 rw [← Array.forIn_toList]
 refine wpAny_forIn_list _ (λ rest r s' => r.1 = none /\ s' = s /\ ∀ v ∈ rest, carriedByValue v = true) _ ?_ ?_ _ _ ⟨rfl, rfl, hi.byValue⟩
 ·
  rintro v rest r s' ⟨hr, rfl, hall⟩
  rw [eqIsQuiet_byValue _ (hall v List.mem_cons_self)]
  refine wpAny_bind (wpAny_pure ?_)
  simp only [Bool.not_true, Bool.false_eq_true, if_false]
  exact wpAny_pure ⟨rfl, rfl, λ u hu' => hall u (List.mem_cons_of_mem _ hu')⟩
 ·
  rintro ⟨r1, r2⟩ s' ⟨hr, rfl, _⟩
  simp only at hr
  subst hr
  exact wpAny_pure h
theorem ng {ks : List NK} {a : Addr} {n : Nat} {Q : Bool -> Shared -> Prop} (hk : IsNest prog w s.heap ks a) (h : Q true s) : wpAny (model prog w) A (eqIsQuiet (n + 2) (.ref a)) Q E s := by
 have hT := hk.typeIs
 obtain ⟨o, items, m, ho, _, hd, hi⟩ := hk
 unfold eqIsQuiet
 refine wpAny_bind (wpAny_specialOf hT F.slot_tuple_eq.lookup ?_)
 show wpAny _ _ (isInstance (.ref a) (.type "tuple") >>= _) _ _ s
 refine wpAny_bind (wpAny_isInstance hT isSubtype_tuple_tuple ?_)
 simp only [Bool.not_true, Bool.false_eq_true, if_false]
 refine wpAny_bind (wpAny_seqItems ho hd ?_)
 refine wpAny_bind ?_
 show wpAny _ _ (forIn items _ _) _ _ s
 rw [← Array.forIn_toList]
 refine wpAny_forIn_list _ (λ rest r s' => r.1 = none /\ s' = s /\ ∃ left, NItems prog w s.heap left rest) _ ?_ ?_ _ _ ⟨rfl, rfl, ks, hi⟩
 ·
  rintro v rest r s' ⟨hr, rfl, left, hl⟩
  cases hl with
  |
   @cons k _ ks' _ h1 hl' =>
   have go : ∀ {R : Bool -> Shared -> Prop}, R true s' -> wpAny (model prog w) A (eqIsQuiet (n + 1) v) R E s' := λ hR => by
    cases k with
    | inl k => rw [eqIsQuiet_byValue _ ((Bg prog w).byValue _ _ h1)]; exact wpAny_pure hR
    | inr ks => obtain ⟨b, rfl, p⟩ := h1; exact j6 p hR
   refine wpAny_bind (go ?_)
   simp only [Bool.not_true, Bool.false_eq_true, if_false]
   exact wpAny_pure ⟨rfl, rfl, ks', hl'⟩
 ·
  rintro ⟨r1, r2⟩ s' ⟨hr, rfl, _⟩
  simp only at hr
  subst hr
  exact wpAny_pure h
end
def L4 (prog : Program) (w : World) : HeapKind prog w (List NK) where
 is := IsNest prog w
 hash := Qq prog w
 draws := Nh
 room := λ A => A.units + 1 < cLine
 inj := λ hx hy => hx.inj hy
 keeps := λ x ho hd hs => x.keeps ho hd hs
 pyHash := λ hu hk h => T1 hu hk h
 eqBool := λ hu hx hy h => Mh hu hx hy h
 quiet := λ hk h => ng hk h
end L2
namespace DX
structure Lin {α : Type} (lt : α -> α -> Bool) : Prop where
 irr : ∀ a, lt a a = false
 tr : ∀ a b c, lt a b = true -> lt b c = true -> lt a c = true
 tot : ∀ a b, lt a b = false -> lt b a = false -> a = b
theorem Lin.asym {α : Type} {lt : α -> α -> Bool} (L : Lin lt) {a b : α} (h : lt a b = true) : lt b a = false := by
 cases e : lt b a with
 | false => rfl
 | true => have := L.tr a b a h e; rw [L.irr] at this; cases this
theorem Lin.neg {α : Type} {lt : α -> α -> Bool} (L : Lin lt) {a b c : α} (h : lt a c = true) : lt a b = true ∨ lt b c = true := by
 cases e : lt a b with
 | true => exact .inl rfl
 |
  false =>
  refine .inr ?_
  cases f : lt b a with
  | true => exact L.tr b a c f h
  | false => rw [← L.tot a b e f]; exact h
def F4 {α : Type} [DecidableEq α] (lt : α -> α -> Bool) : List α -> List α -> Bool
 | [], [] => false
 | [], _ :: _ => true
 | _ :: _, [] => false
 | x :: xs, y :: ys => if x = y then F4 lt xs ys else lt x y
theorem Lb {α : Type} [DecidableEq α] {lt : α -> α -> Bool} (L : Lin lt) : Lin (F4 lt) where
 irr := λ a => by
  induction a with
  | nil => rfl
  | cons x xs ih => unfold F4; rw [if_pos rfl]; exact ih
 tr := λ a => by
  induction a with
  |
   nil =>
   intro b c h1 h2
   cases b with
   | nil => cases h1
   |
    cons y ys =>
    cases c with
    | nil => cases h2
    | cons z zs => rfl
  |
   cons x xs ih =>
   intro b c h1 h2
   cases b with
   | nil => cases h1
   |
    cons y ys =>
    cases c with
    | nil => cases h2
    |
     cons z zs =>
     unfold F4 at h1 h2 ⊢
     by_cases e1 : x = y
     ·
      subst e1
      rw [if_pos rfl] at h1
      by_cases e2 : x = z
      ·
       rw [if_pos e2] at h2 ⊢
       exact ih ys zs h1 h2
      ·
       rw [if_neg e2] at h2 ⊢
       exact h2
     ·
      rw [if_neg e1] at h1
      by_cases e2 : y = z
      ·
       subst e2
       rw [if_neg e1]
       exact h1
      ·
       rw [if_neg e2] at h2
       have h3 := L.tr _ _ _ h1 h2
       rw [if_neg (λ e => by subst e; rw [L.irr] at h3; cases h3)]
       exact h3
 tot := λ a => by
  induction a with
  |
   nil =>
   intro b h1 h2
   cases b with
   | nil => rfl
   | cons y ys => cases h1
  |
   cons x xs ih =>
   intro b h1 h2
   cases b with
   | nil => cases h2
   |
    cons y ys =>
    unfold F4 at h1 h2
    by_cases e : x = y
    ·
     subst e
     rw [if_pos rfl] at h1 h2
     rw [ih ys h1 h2]
    ·
     rw [if_neg e] at h1
     rw [if_neg (λ z => e z.symm)] at h2
     exact absurd (L.tot _ _ h1 h2) e
def pf {α β : Type} (l : α -> α -> Bool) (r : β -> β -> Bool) : Sum α β -> Sum α β -> Bool
 | .inl a, .inl b => l a b
 | .inr a, .inr b => r a b
 | .inl _, .inr _ => true
 | .inr _, .inl _ => false
theorem Xa {α β : Type} {l : α -> α -> Bool} {r : β -> β -> Bool} (L : Lin l) (R : Lin r) : Lin (pf l r) where
 irr := λ a => by cases a with
  | inl a => exact L.irr a
  | inr a => exact R.irr a
 tr := λ a b c h1 h2 => by
  cases a <;> cases b <;> cases c <;> first | exact L.tr _ _ _ h1 h2 | exact R.tr _ _ _ h1 h2 | rfl | exact absurd h1 Bool.false_ne_true | exact absurd h2 Bool.false_ne_true
 tot := λ a b h1 h2 => by
  cases a with
  |
   inl a => cases b with
   | inl b => rw [L.tot a b h1 h2]
   | inr b => cases h1
  |
   inr a => cases b with
   | inl b => cases h2
   | inr b => rw [R.tot a b h1 h2]
theorem ib : Lin (λ a b : Int => decide (a < b)) where
 irr := λ a => decide_eq_false (by omega)
 tr := λ a b c h1 h2 => by rw [decide_eq_true_eq] at h1 h2 ⊢; omega
 tot := λ a b h1 h2 => by rw [decide_eq_false_iff_not] at h1 h2; omega
theorem jl : Lin (λ a b : Nat => decide (a < b)) where
 irr := λ a => decide_eq_false (by omega)
 tr := λ a b c h1 h2 => by rw [decide_eq_true_eq] at h1 h2 ⊢; omega
 tot := λ a b h1 h2 => by rw [decide_eq_false_iff_not] at h1 h2; omega
theorem Ni {α : Type} {lt : α -> α -> Bool} (L : Lin lt) : ∀ {a b : List α}, a.Perm b -> a.Pairwise (λ x y => lt y x = false) -> b.Pairwise (λ x y => lt y x = false) -> a = b
 | [], b, p, _, _ => (p.nil_eq)
 | x :: xs, [], p, _, _ => absurd p.length_eq (by simp)
 |
  x :: xs, y :: ys, p, h1, h2 => by
  rw [List.pairwise_cons] at h1 h2
  have hx : x ∈ y :: ys := p.mem_iff.mp List.mem_cons_self
  have hy : y ∈ x :: xs := p.mem_iff.mpr List.mem_cons_self
  have e : x = y := by
   rcases List.mem_cons.mp hx with e | hx
   · exact e
   rcases List.mem_cons.mp hy with e | hy
   · exact e.symm
   exact L.tot x y (h2.1 x hx) (h1.1 y hy)
  subst e
  rw [Ni L (List.Perm.cons_inv p) h1.2 h2.2]
end DX
namespace L2
open PySem PySem.Spec PyProof.Rows PySem.SeqAt
def CmpAt (op : CmpOp) (A : Around) (s : Shared) (u v : Value) (b : Bool) : Prop := ∀ (prog : Program) (w : World) (E : Value -> Shared -> Prop) (Q : Value -> Shared -> Prop), Q (.bool b) s -> wpAny (model prog w) A (richCompare op u v) Q E s
def szB : CmpOp -> Nat -> Nat -> Bool
 | .Lt, m, n => decide (m < n)
 | _, m, n => decide (n < m)
inductive Ir (op : CmpOp) (A : Around) (s : Shared) : List Value -> List Value -> Bool -> Prop
 | fin {xs ys : List Value} (h : xs = [] ∨ ys = []) : Ir op A s xs ys (szB op xs.length ys.length)
 | eq {x y : Value} {xs ys : List Value} {b : Bool} (h : EqAt A s x y true) (r : Ir op A s xs ys b) : Ir op A s (x :: xs) (y :: ys) b
 | ne {x y : Value} {xs ys : List Value} {b : Bool} (h : EqAt A s x y false) (r : CmpAt op A s x y b) : Ir op A s (x :: xs) (y :: ys) b
section
variable {prog : Program} {w : World} {A : Around} {E : Value -> Shared -> Prop} {s : Shared}
theorem ik {a b : Addr} {xs ys : Array Value} {r : Bool} {P : PySem.Fin -> Shared -> Prop} (hx : s.heap.IsTuple a xs) (hy : s.heap.IsTuple b ys) (hl : Ir .Lt A s xs.toList ys.toList r) (h : P (.done (.ret (.bool r))) s) :
  wpAny (model prog w) A (Builtin.«tuple.__lt__» ⟨[.ref a, .ref b], []⟩) P E s := by
 obtain ⟨oa, hoa, hca, na, hda⟩ := hx
 obtain ⟨ob, hob, hcb, nb, hdb⟩ := hy
 show wpAny _ _ (isInstance (.ref b) (.type "tuple") >>= _) _ _ s
 refine wpAny_bind (wpAny_isInstance ⟨ob, hob, hcb⟩ isSubtype_tuple_tuple ?_)
 simp only [Bool.not_true, Bool.false_eq_true, if_false]
 refine wpAny_bind (wpAny_tupleItemsOf hoa hda ?_)
 refine wpAny_bind (wpAny_tupleItemsOf hob hdb ?_)
 refine wpAny_bind ?_
 refine wpAny_forIn_list _
  (λ rest q s' => q.1 = none /\ s' = s /\ ∃ xs' ys' k, rest = List.zip xs' ys' /\ Ir .Lt A s xs' ys' r /\ xs.size = xs'.length + k /\ ys.size = ys'.length + k)
  _ ?_ ?_ _ _ ⟨rfl, rfl, xs.toList, ys.toList, 0, rfl, hl, by simp, by simp⟩
 ·
  rintro ⟨u, v⟩ rest q s' ⟨hr, rfl, xs', ys', k, hz, hl', e1, e2⟩
  cases hl' with
  | fin hf => rcases hf with rfl | rfl <;> simp at hz
  |
   @eq x y xs'' ys'' _ he hr' =>
   simp only [List.zip_cons_cons, List.cons.injEq, Prod.mk.injEq] at hz
   obtain ⟨⟨rfl, rfl⟩, rfl⟩ := hz
   refine wpAny_bind (he prog w _ _ ?_)
   simp only [Bool.not_true, Bool.false_eq_true, if_false]
   exact wpAny_pure ⟨rfl, rfl, xs'', ys'', k + 1, rfl, hr', by simp only [List.length_cons] at e1; omega, by simp only [List.length_cons] at e2; omega⟩
  |
   @ne x y xs'' ys'' _ he hc =>
   simp only [List.zip_cons_cons, List.cons.injEq, Prod.mk.injEq] at hz
   obtain ⟨⟨rfl, rfl⟩, rfl⟩ := hz
   refine wpAny_bind (he prog w _ _ ?_)
   simp only [Bool.not_false, if_true]
   refine wpAny_bind (wpAny_rule (wpAny_bind (hc prog w _ _ ?_)))
   exact wpAny_bind (wpAny_pure (wpAny_pure (wpAny_pure h)))
 ·
  rintro ⟨q1, q2⟩ s' ⟨hr, rfl, xs', ys', k, hz, hl', e1, e2⟩
  simp only at hr
  subst hr
  refine wpAny_pure ?_
  cases hl' with
  |
   fin h' =>
   show P (.done (.ret (.bool (decide (xs.size < ys.size))))) s'
   have e : decide (xs.size < ys.size) = szB .Lt xs'.length ys'.length := by
    show _ = decide (xs'.length < ys'.length)
    rw [e1, e2]
    exact decide_eq_decide.mpr (by omega)
   rw [e]
   exact h
  | eq _ _ => simp at hz
  | ne _ _ => simp at hz
theorem jj {a b : Addr} {xs ys : Array Value} {r : Bool} {P : PySem.Fin -> Shared -> Prop} (hx : s.heap.IsTuple a xs) (hy : s.heap.IsTuple b ys) (hl : Ir .Gt A s xs.toList ys.toList r) (h : P (.done (.ret (.bool r))) s) :
  wpAny (model prog w) A (Builtin.«tuple.__gt__» ⟨[.ref a, .ref b], []⟩) P E s := by
 obtain ⟨oa, hoa, hca, na, hda⟩ := hx
 obtain ⟨ob, hob, hcb, nb, hdb⟩ := hy
 show wpAny _ _ (isInstance (.ref b) (.type "tuple") >>= _) _ _ s
 refine wpAny_bind (wpAny_isInstance ⟨ob, hob, hcb⟩ isSubtype_tuple_tuple ?_)
 simp only [Bool.not_true, Bool.false_eq_true, if_false]
 refine wpAny_bind (wpAny_tupleItemsOf hoa hda ?_)
 refine wpAny_bind (wpAny_tupleItemsOf hob hdb ?_)
 refine wpAny_bind ?_
 refine wpAny_forIn_list _
  (λ rest q s' => q.1 = none /\ s' = s /\ ∃ xs' ys' k, rest = List.zip xs' ys' /\ Ir .Gt A s xs' ys' r /\ xs.size = xs'.length + k /\ ys.size = ys'.length + k)
  _ ?_ ?_ _ _ ⟨rfl, rfl, xs.toList, ys.toList, 0, rfl, hl, by simp, by simp⟩
 ·
  rintro ⟨u, v⟩ rest q s' ⟨hr, rfl, xs', ys', k, hz, hl', e1, e2⟩
  cases hl' with
  | fin hf => rcases hf with rfl | rfl <;> simp at hz
  |
   @eq x y xs'' ys'' _ he hr' =>
   simp only [List.zip_cons_cons, List.cons.injEq, Prod.mk.injEq] at hz
   obtain ⟨⟨rfl, rfl⟩, rfl⟩ := hz
   refine wpAny_bind (he prog w _ _ ?_)
   simp only [Bool.not_true, Bool.false_eq_true, if_false]
   exact wpAny_pure ⟨rfl, rfl, xs'', ys'', k + 1, rfl, hr', by simp only [List.length_cons] at e1; omega, by simp only [List.length_cons] at e2; omega⟩
  |
   @ne x y xs'' ys'' _ he hc =>
   simp only [List.zip_cons_cons, List.cons.injEq, Prod.mk.injEq] at hz
   obtain ⟨⟨rfl, rfl⟩, rfl⟩ := hz
   refine wpAny_bind (he prog w _ _ ?_)
   simp only [Bool.not_false, if_true]
   refine wpAny_bind (wpAny_rule (wpAny_bind (hc prog w _ _ ?_)))
   exact wpAny_bind (wpAny_pure (wpAny_pure (wpAny_pure h)))
 ·
  rintro ⟨q1, q2⟩ s' ⟨hr, rfl, xs', ys', k, hz, hl', e1, e2⟩
  simp only at hr
  subst hr
  refine wpAny_pure ?_
  cases hl' with
  |
   fin h' =>
   show P (.done (.ret (.bool (decide (xs.size > ys.size))))) s'
   have e : decide (xs.size > ys.size) = szB .Gt xs'.length ys'.length := by
    show _ = decide (ys'.length < xs'.length)
    rw [e1, e2]
    exact decide_eq_decide.mpr (by omega)
   rw [e]
   exact h
  | eq _ _ => simp at hz
  | ne _ _ => simp at hz
theorem CmpAt.ltT {a b : Addr} {xs ys : Array Value} {r : Bool} (hx : s.heap.IsTuple a xs) (hy : s.heap.IsTuple b ys) (hu : A.units < cLine) (hl : Ir .Lt A.in1 s xs.toList ys.toList r) : CmpAt .Lt A s (.ref a) (.ref b) r := λ prog w E Q h =>
 have hxT : s.TypeIs (.ref a) "tuple" := let ⟨o, ho, hc, _⟩ := hx; ⟨o, ho, hc⟩
 have hyT : s.TypeIs (.ref b) "tuple" := let ⟨o, ho, hc, _⟩ := hy; ⟨o, ho, hc⟩
 wpAny_richCompare_same_room (op := .Lt) hxT hyT F.slot_tuple_lt (wpAny_call_entry F.slot_tuple_lt hxT F.entry_tuple_lt (ik hx hy hl ⟨_, rfl, (λ e => nomatch e), h⟩) (F.args_tuple_lt_2 _ _)) hu
theorem CmpAt.gtT {a b : Addr} {xs ys : Array Value} {r : Bool} (hx : s.heap.IsTuple a xs) (hy : s.heap.IsTuple b ys) (hu : A.units < cLine) (hl : Ir .Gt A.in1 s xs.toList ys.toList r) : CmpAt .Gt A s (.ref a) (.ref b) r := λ prog w E Q h =>
 have hxT : s.TypeIs (.ref a) "tuple" := let ⟨o, ho, hc, _⟩ := hx; ⟨o, ho, hc⟩
 have hyT : s.TypeIs (.ref b) "tuple" := let ⟨o, ho, hc, _⟩ := hy; ⟨o, ho, hc⟩
 wpAny_richCompare_same_room (op := .Gt) hxT hyT F.slot_tuple_gt (wpAny_call_entry F.slot_tuple_gt hxT F.entry_tuple_gt (jj hx hy hl ⟨_, rfl, (λ e => nomatch e), h⟩) (F.args_tuple_gt_2 _ _)) hu
end
def Ga (gt : V -> V -> Bool) : V -> List V -> V
 | b, [] => b
 | b, x :: xs => Ga gt (if gt x b then x else b) xs
theorem M9 {gt : V -> V -> Bool} : ∀ {xs : List V} {b : V}, Ga gt b xs = b ∨ Ga gt b xs ∈ xs
 | [], _ => .inl rfl
 |
  x :: xs, b => by
  unfold Ga
  rcases M9 (gt := gt) (xs := xs) (b := if gt x b then x else b) with h | h
  ·
   rw [h]
   by_cases g : gt x b = true
   · rw [if_pos g]; exact .inr (List.mem_cons_self ..)
   · rw [if_neg g]; exact .inl rfl
  · exact .inr (List.mem_cons_of_mem _ h)
def U3 (X : Cx) (H : Hp) (xs : List V) (G : V -> Hp -> V -> Prop) (key : Value) : Prop :=
 (key = .none /\ ∀ x H', G x H' x) ∨ ∃ f, key = .ref f /\ ∀ (pins : List (Addr × Obj)) (s : Shared) (σ : St) (H' : Hp) (x : V) (u : Value) (Q : VK) (E : Value -> Shared -> Prop), Inv X pins σ H' s -> Same H H' -> x ∈ xs -> RelV x u ->
  (∀ v H'', Same H' H'' -> G x H'' v -> Q v H'') -> wpAny (model X.prog X.w) X.A.in1 (call (.ref f) [u]) (EP X pins σ Q) E s
structure Vi (X : Cx) (it : Addr) (xs : List V) (H : Hp) (tn : Nat -> Heap -> Prop) : Prop where
 item : ∀ (pins : List (Addr × Obj)) (s : Shared) (σ : St) (H' : Hp) (i : Nat) (x : V) (E : Value -> Shared -> Prop) (Q : Option Value -> Shared -> Prop), Inv X pins σ H' s -> Same H H' -> tn i s.heap -> xs[i]? = some x ->
  (∀ u h', RelV x u -> tn (i + 1) h' -> (∀ b o, b ≠ it -> s.heap.get? b = some o -> h'.get? b = some o) -> Q (some u) { s with heap := h' }) -> wpAny (model X.prog X.w) X.A.in1 (pyNext (.ref it)) Q E s
 done : ∀ (pins : List (Addr × Obj)) (s : Shared) (σ : St) (H' : Hp) (i : Nat) (E : Value -> Shared -> Prop) (Q : Option Value -> Shared -> Prop), Inv X pins σ H' s -> Same H H' -> tn i s.heap -> xs.length <= i ->
  (∀ h', (∀ b o, b ≠ it -> s.heap.get? b = some o -> h'.get? b = some o) -> Q none { s with heap := h' }) -> wpAny (model X.prog X.w) X.A.in1 (pyNext (.ref it)) Q E s
 obj : ∀ i h, tn i h -> ∃ o, h.get? it = some o /\ (∀ v, o.data ≠ .cell v) /\ ∀ h' : Heap, h'.get? it = some o -> tn i h'
theorem Zu {X : Cx} {it l : Addr} {xs : List V} {H : Hp} (hc : X.calm = true) (hl : H l = some (.lst xs)) : Vi X it xs H (λ i h => h.IsListIter it l i) where
 item := λ pins s σ H' i x E Q I sm st hx h => by
  obtain ⟨its, rvs, p, hz⟩ := I.list (SqL.of (K := X.K) (sm _ _ hl))
  obtain ⟨w, hw, rw⟩ := rvs.get hx
  exact wpAny_pyNext_list_item st p.isList (x := w) (by simpa using hw) λ h' st' sb => h w h' rw st' λ b o hb e => (sb.2 b hb).trans e
 done := λ pins s σ H' i E Q I sm st hi h => by
  obtain ⟨its, rvs, p, hz⟩ := I.list (SqL.of (K := X.K) (sm _ _ hl))
  have hlen := rvs.length
  exact wpAny_pyNext_list_end (I.ok.hd hc) st p.isList (by simp; omega) λ h' eb => h h' eb
 obj := λ i h st => by
  obtain ⟨o, e, c, d⟩ := st
  exact ⟨o, e, (λ v z => by rw [d] at z; cases z), λ h' e' => ⟨o, e', c, d⟩⟩
theorem cj {X : Cx} {it l : Addr} {xs : List V} {H : Hp} (hc : X.calm = true) (hl : H l = some (.tup xs)) : Vi X it xs H (λ i h => h.IsTupleIter it l i) where
 item := λ pins s σ H' i x E Q I sm st hx h => by
  obtain ⟨its, rvs, p, hz⟩ := I.tuple (SqT.of (K := X.K) (sm _ _ hl))
  obtain ⟨w, hw, rw⟩ := rvs.get hx
  exact wpAny_pyNext_tuple_item st p (x := w) (by simpa using hw) λ h' st' sb => h w h' rw st' λ b o hb e => (sb.2 b hb).trans e
 done := λ pins s σ H' i E Q I sm st hi h => by
  obtain ⟨its, rvs, p, hz⟩ := I.tuple (SqT.of (K := X.K) (sm _ _ hl))
  have hlen := rvs.length
  exact wpAny_pyNext_tuple_end (I.ok.hd hc) st p (by simp; omega) λ h' eb => h h' eb
 obj := λ i h st => by
  obtain ⟨o, e, c, d⟩ := st
  exact ⟨o, e, (λ v z => by rw [d] at z; cases z), λ h' e' => ⟨o, e', c, d⟩⟩
section
variable {X : Cx} {pins : List (Addr × Obj)} {σ : St} {H : Hp} {it S : Addr} {xs : List V} {key : Value} {G : V -> Hp -> V -> Prop} {gt : V -> V -> Bool} {R : Result -> Shared -> Prop}
theorem FpOk.same {b : Addr} {H H' : Hp} (f : FpOk X pins H b) (h : H' b = none) : FpOk X pins H' b := ⟨h, f.2⟩
theorem Vd {f : Addr} (g : ∀ (pins : List (Addr × Obj)) (s : Shared) (σ : St) (H' : Hp) (x : V) (u : Value) (Q : VK) (E : Value -> Shared -> Prop), Inv X pins σ H' s -> Same H H' -> x ∈ xs -> RelV x u ->
   (∀ v H'', Same H' H'' -> G x H'' v -> Q v H'') -> wpAny (model X.prog X.w) X.A.in1 (call (.ref f) [u]) (EP X pins σ Q) E s)
  {s : Shared} {H' : Hp} {x : V} {u : Value} {oi oS : Obj} {Q : Value -> Shared -> Prop} {E : Value -> Shared -> Prop}
  (I : Inv X pins σ H' s) (sm : Same H H') (hx : x ∈ xs) (rx : RelV x u) (fi : FpOk X pins H' it) (fS : FpOk X pins H' S) (hi : s.heap.get? it = some oi) (hS : s.heap.get? S = some oS) (di : ∀ v, oi.data ≠ .cell v) (dS : ∀ v, oS.data ≠ .cell v)
  (h : ∀ uv s' v H'', Inv X pins σ H'' s' -> Same H' H'' -> FpOk X pins H'' it -> FpOk X pins H'' S -> s'.heap.get? it = some oi -> s'.heap.get? S = some oS -> RelV v uv -> G x H'' v -> Q uv s') :
  wpAny (model X.prog X.w) X.A.in1 (call (.ref f) [u]) Q E s := by
 have I2 := I.pinned (fp := [it, S]) (λ b hb => by
  rcases List.mem_cons.mp hb with rfl | hb
  · exact fi
  · rw [List.mem_singleton] at hb; rw [hb]; exact fS) (λ b hb => by
  rcases List.mem_cons.mp hb with rfl | hb
  · exact ⟨_, hi, di⟩
  · rw [List.mem_singleton] at hb; rw [hb]; exact ⟨_, hS, dS⟩)
 refine wpAny_mono (g _ s σ H' x u (λ v H'' => Same H' H'' /\ G x H'' v) _ I2 sm hx rx λ v H'' s1 g1 => ⟨s1, g1⟩) ?_ λ _ _ z => z
 rintro uv s' ⟨v, H'', I3, rv, s1, g1⟩
 have p1 := I3.pin (it, oi) (List.mem_append_right _ (List.mem_append_right _ (C0 (List.mem_cons_self ..) hi)))
 have p2 := I3.pin (S, oS) (List.mem_append_right _ (List.mem_append_right _ (C0 (List.mem_cons_of_mem _ (List.mem_cons_self ..)) hS)))
 exact h uv s' v H'' I3.unpinned s1 (fi.same p1.2.1) (fS.same p2.2.1) p1.1 p2.1 rv g1
theorem ba {s : Shared} {w wv u uv : Value} {b : Bool} {c : Nat} {hdl : Value -> Sem Bool} {k : Unit -> Sem PySem.Fin} {Q : PySem.Fin -> Shared -> Prop} {E : Value -> Shared -> Prop} (hcmp : CmpAt .Gt X.A.in1 s wv uv b) (hS : s.heap.get? S = some { cls := .type "list", data := .seq #[u, uv] c })
  (h1 : b = true -> ∀ h' c', (∀ a o, a ≠ S -> s.heap.get? a = some o -> h'.get? a = some o) -> h'.get? S = some { cls := .type "list", data := .seq #[w, wv] c' } -> wpAny (model X.prog X.w) X.A.in1 (k ()) Q E { s with heap := h' })
  (h0 : b = false -> wpAny (model X.prog X.w) X.A.in1 (k ()) Q E s) :
  wpAny (model X.prog X.w) X.A.in1 (tryCatch (holding [w, wv] (richCompare .Gt wv uv >>= λ answer => holding [answer] (truthy answer) >>= λ yes => letGo [answer] >>= λ _ => pure yes)) hdl >>= λ better =>
   if better = true then (updateSeq S (λ _ => #[w, wv]) >>= λ _ => letGo [uv, u] >>= k) else (letGo [w, wv] >>= k)) Q E s := by
 refine wpAny_bind (wpAny_tryCatch (wpAny_holding (wpAny_bind (hcmp X.prog X.w _ _ ?_))))
 refine wpAny_bind (wpAny_holding (wpAny_truthy_bool ?_))
 refine wpAny_bind (wpAny_letGo (wpAny_pure ?_))
 cases b with
 |
  true =>
  rw [if_pos rfl]
  refine wpAny_bind (wpAny_updateSeq hS rfl (wpAny_bind (wpAny_letGo ?_)))
  exact h1 rfl _ _ (λ a o ha e => (Heap.get?_update_ne _ _ _ _ ha).trans e) (Heap.get?_update_self _ hS rfl)
 |
  false =>
  rw [if_neg Bool.false_ne_true]
  exact wpAny_bind (wpAny_letGo (h0 rfl))
theorem Y4 {tn : Nat -> Heap -> Prop} (N : Vi X it xs H tn) (hK : U3 X H xs G key) (hG : ∀ x H1 H2 v, Same H1 H2 -> G x H1 v -> G x H2 v) (hne : it ≠ S)
  (hcmp : ∀ (pins : List (Addr × Obj)) (s : Shared) (σ : St) (H' : Hp) (x y v v' : V) (u u' : Value), Inv X pins σ H' s -> Same H H' -> x ∈ xs -> y ∈ xs -> G x H' v -> G y H' v' -> RelV v u -> RelV v' u' -> CmpAt .Gt X.A.in1 s u u' (gt x y)) :
  ∀ (rest : List V) (i : Nat) (b bv : V) (s : Shared) (H' : Hp) (c : Nat) (u uv : Value), xs.drop i = rest -> b ∈ xs -> Inv X pins σ H' s -> Same H H' -> FpOk X pins H' it -> FpOk X pins H' S -> tn i s.heap ->
   s.heap.get? S = some { cls := .type "list", data := .seq #[u, uv] c } -> RelV b u -> RelV bv uv -> G b H' bv -> (∀ u s' H'', Inv X pins σ H'' s' -> Same H H'' -> RelV (Ga gt b rest) u -> R (.ok (.ret u)) s') ->
   codeAny (model X.prog X.w) X.A (.builtin "max.loop" ⟨[.ref it, key, .ref S], []⟩) R s := by
 have hname : (toString "max" ++ toString ".loop" : String) = "max.loop" := by decide
 intro rest
 induction rest with
 |
  nil =>
  intro i b bv s H' c u uv hd hb I sm fi fS st hS rb rv gb hR
  have hi : xs.length <= i := List.drop_eq_nil_iff.mp hd
  refine codeAny_builtin F.entry_max_loop ?_
  rw [Around.under_plainId F.plain_max_loop _]
  show wpAny _ X.A.in1 (seqItems? (.ref S) >>= _) _ _ s
  refine wpAny_bind (wpAny_seqItems hS rfl ?_)
  show wpAny _ X.A.in1 (tryCatch (pyNext (.ref it)) _ >>= _) _ _ s
  obtain ⟨f0, f1, f2, f3, f4, f5⟩ := id fi
  obtain ⟨g0, g1, g2, g3, g4, g5⟩ := id fS
  refine wpAny_bind (wpAny_tryCatch (N.done pins s σ H' i _ _ I sm st hi λ h' eb => ?_))
  have I1 : Inv X pins σ H' { s with heap := h' } := I.turned (t' := s.toks) (λ b o hb e => eb b o hb e) f0 f1 f3 f4 f5
  have hS' : h'.get? S = some { cls := .type "list", data := .seq #[u, uv] c } := eb S _ (Ne.symm hne) hS
  show wpAny _ X.A.in1 (updateSeq S (λ _ => #[]) >>= _) _ _ _
  refine wpAny_bind (wpAny_updateSeq hS' rfl (wpAny_bind (wpAny_letGo (wpAny_pure ?_))))
  exact hR u _ H' (I1.turned (t' := s.toks) (λ b o hb e => (Heap.get?_update_ne _ _ _ _ hb).trans e) g0 g1 g3 g4 g5) sm rb
 |
  cons x rest ih =>
  intro i b bv s H' c u uv hd hb I sm fi fS st hS rb rv gb hR
  have hx : xs[i]? = some x := by rw [← List.head?_drop, hd]; rfl
  have hd' : xs.drop (i + 1) = rest := by rw [← List.tail_drop, hd]; rfl
  have hxm := List.mem_of_getElem? hx
  refine codeAny_builtin F.entry_max_loop ?_
  rw [Around.under_plainId F.plain_max_loop _]
  show wpAny _ X.A.in1 (seqItems? (.ref S) >>= _) _ _ s
  refine wpAny_bind (wpAny_seqItems hS rfl ?_)
  show wpAny _ X.A.in1 (tryCatch (pyNext (.ref it)) _ >>= _) _ _ s
  obtain ⟨f0, f1, f2, f3, f4, f5⟩ := id fi
  obtain ⟨g0, g1, g2, g3, g4, g5⟩ := id fS
  refine wpAny_bind (wpAny_tryCatch (N.item pins s σ H' i x _ _ I sm st hx λ w h' rw st' sb => ?_))
  have I1 : Inv X pins σ H' { s with heap := h' } := I.turned (t' := s.toks) sb f0 f1 f3 f4 f5
  have hS' : h'.get? S = some { cls := .type "list", data := .seq #[u, uv] c } := sb S _ (Ne.symm hne) hS
  obtain ⟨oi, hoi, di, kp0⟩ := N.obj _ _ st'
  have go : ∀ (wv : Value) (s2 : Shared) (v : V) (H2 : Hp) (hdl : Value -> Sem Bool), Inv X pins σ H2 s2 -> Same H' H2 -> FpOk X pins H2 it -> FpOk X pins H2 S -> s2.heap.get? it = some oi ->
    s2.heap.get? S = some { cls := .type "list", data := .seq #[u, uv] c } -> RelV v wv -> G x H2 v -> wpAny (model X.prog X.w) X.A.in1 (tryCatch (holding [w, wv] (richCompare .Gt wv uv >>= λ answer => holding [answer] (truthy answer) >>= λ yes => letGo [answer] >>= λ _ => pure yes)) hdl >>= λ better =>
     if better = true then (updateSeq S (λ _ => #[w, wv]) >>= λ _ => letGo [uv, u] >>= λ _ => again (Code.builtin (toString "max" ++ toString ".loop") ⟨[.ref it, key, .ref S], []⟩)) else (letGo [w, wv] >>= λ _ => again (Code.builtin (toString "max" ++ toString ".loop") ⟨[.ref it, key, .ref S], []⟩))) (λ fin s' => match fin with | .done f => R (.ok f) s' | .again c' => c'.quiet = true /\ codeAny (model X.prog X.w) X.A c' R s') (λ e s' => R (.error e) s') s2 := by
   intro wv s2 v H2 hdl I2 sm2 fi2 fS2 hi2 hS2 rv2 gv2
   have gb2 := hG b H' H2 bv sm2 gb
   obtain ⟨g0, g1, g2, g3, g4, g5⟩ := id fS2
   refine ba (hcmp pins s2 σ H2 x b v bv wv uv I2 (sm.trans sm2) hxm hb gv2 gb2 rv2 rv) hS2 (λ hg h' c' kp hS3 => ?_) (λ hg => ?_)
   ·
    rw [hname]
    refine wpAny_pure ⟨plainId_quiet F.plain_max_loop _, ih (i + 1) x v _ H2 c' w wv hd' hxm (I2.turned (t' := s2.toks) (λ b o hb e => kp b o hb e) g0 g1 g3 g4 g5) (sm.trans sm2) fi2 fS2 (kp0 _ (kp _ _ hne hi2)) hS3 rw rv2 gv2 λ u' s' H'' a1 a2 a3 => hR u' s' H'' a1 a2 ?_⟩
    unfold Ga
    rw [if_pos hg]
    exact a3
   ·
    rw [hname]
    refine wpAny_pure ⟨plainId_quiet F.plain_max_loop _, ih (i + 1) b bv _ H2 c u uv hd' hb I2 (sm.trans sm2) fi2 fS2 (kp0 _ hi2) hS2 rb rv gb2 λ u' s' H'' a1 a2 a3 => hR u' s' H'' a1 a2 ?_⟩
    unfold Ga
    rw [if_neg (by rw [hg]; exact Bool.false_ne_true)]
    exact a3
  rcases hK with ⟨rfl, g⟩ | ⟨f, rfl, g⟩
  · exact go w _ x H' _ I1 (Same.refl _) fi fS hoi hS' rw (g x H')
  ·
   show wpAny _ X.A.in1 (tryCatch (holding [w] (call (.ref f) [w])) _ >>= _) _ _ _
   refine wpAny_bind (wpAny_tryCatch (wpAny_holding (Vd g I1 sm hxm rw fi fS hoi hS' di (λ v z => nomatch z) λ wv s2 v H2 I2 sm2 fi2 fS2 hi2 hS2 rv2 gv2 => ?_)))
   exact go wv s2 v H2 _ I2 sm2 fi2 fS2 hi2 hS2 rv2 gv2
end
section
variable {X : Cx} {pins : List (Addr × Obj)} {σ : St} {H : Hp} {it S : Addr} {xs : List V} {key : Value} {G : V -> Hp -> V -> Prop} {gt : V -> V -> Bool} {R : Result -> Shared -> Prop}
abbrev Q0 (X : Cx) (H : Hp) (xs : List V) (G : V -> Hp -> V -> Prop) (gt : V -> V -> Bool) : Prop := ∀ (pins : List (Addr × Obj)) (s : Shared) (σ : St) (H' : Hp) (x y v v' : V) (u u' : Value), Inv X pins σ H' s -> Same H H' -> x ∈ xs -> y ∈ xs -> G x H' v -> G y H' v' -> RelV v u -> RelV v' u' -> CmpAt .Gt X.A.in1 s u u' (gt x y)
theorem Oj {tn : Nat -> Heap -> Prop} {x : V} {ys : List V} (N : Vi X it (x :: ys) H tn) (hK : U3 X H (x :: ys) G key) (hG : ∀ x H1 H2 v, Same H1 H2 -> G x H1 v -> G x H2 v) (hne : it ≠ S) (hcmp : Q0 X H (x :: ys) G gt)
  {s : Shared} {H' : Hp} {c : Nat} (I : Inv X pins σ H' s) (sm : Same H H') (fi : FpOk X pins H' it) (fS : FpOk X pins H' S) (st : tn 0 s.heap) (hS : s.heap.get? S = some { cls := .type "list", data := .seq #[] c })
  (hR : ∀ u s' H'', Inv X pins σ H'' s' -> Same H H'' -> RelV (Ga gt x ys) u -> R (.ok (.ret u)) s') : codeAny (model X.prog X.w) X.A (.builtin "max.loop" ⟨[.ref it, key, .ref S], []⟩) R s := by
 have hname : (toString "max" ++ toString ".loop" : String) = "max.loop" := by decide
 refine codeAny_builtin F.entry_max_loop ?_
 rw [Around.under_plainId F.plain_max_loop _]
 show wpAny _ X.A.in1 (seqItems? (.ref S) >>= _) _ _ s
 refine wpAny_bind (wpAny_seqItems hS rfl ?_)
 show wpAny _ X.A.in1 (tryCatch (pyNext (.ref it)) _ >>= _) _ _ s
 obtain ⟨f0, f1, f2, f3, f4, f5⟩ := id fi
 refine wpAny_bind (wpAny_tryCatch (N.item pins s σ H' 0 x _ _ I sm st rfl λ w h' rw st' sb => ?_))
 have I1 : Inv X pins σ H' { s with heap := h' } := I.turned (t' := s.toks) sb f0 f1 f3 f4 f5
 have hS' : h'.get? S = some { cls := .type "list", data := .seq #[] c } := sb S _ (Ne.symm hne) hS
 obtain ⟨oi, hoi, di, kp0⟩ := N.obj _ _ st'
 have go : ∀ (wv : Value) (s2 : Shared) (v : V) (H2 : Hp), Inv X pins σ H2 s2 -> Same H' H2 -> FpOk X pins H2 it -> FpOk X pins H2 S -> s2.heap.get? it = some oi ->
   s2.heap.get? S = some { cls := .type "list", data := .seq #[] c } -> RelV v wv -> G x H2 v -> wpAny (model X.prog X.w) X.A.in1 (updateSeq S (λ _ => #[w, wv]) >>= λ _ => again (Code.builtin (toString "max" ++ toString ".loop") ⟨[.ref it, key, .ref S], []⟩))
    (λ fin s' => match fin with | .done f => R (.ok f) s' | .again c' => c'.quiet = true /\ codeAny (model X.prog X.w) X.A c' R s') (λ e s' => R (.error e) s') s2 := by
  intro wv s2 v H2 I2 sm2 fi2 fS2 hi2 hS2 rv2 gv2
  obtain ⟨g0, g1, g2, g3, g4, g5⟩ := id fS2
  rw [hname]
  refine wpAny_bind (wpAny_updateSeq hS2 rfl (wpAny_pure ⟨plainId_quiet F.plain_max_loop _, Y4 N hK hG hne hcmp ys 1 x v _ H2 _ w wv rfl (List.mem_cons_self ..) (I2.turned (t' := s2.toks) (λ b o hb e => (Heap.get?_update_ne _ _ _ _ hb).trans e) g0 g1 g3 g4 g5) (sm.trans sm2) fi2 fS2
   (kp0 _ ((Heap.get?_update_ne _ _ _ _ hne).trans hi2)) (Heap.get?_update_self _ hS2 rfl) rw rv2 gv2 hR⟩))
 rcases hK with ⟨rfl, g⟩ | ⟨f, rfl, g⟩
 · exact go w _ x H' I1 (Same.refl _) fi fS hoi hS' rw (g x H')
 ·
  show wpAny _ X.A.in1 (tryCatch (holding [w] (call (.ref f) [w])) _ >>= _) _ _ _
  refine wpAny_bind (wpAny_tryCatch (wpAny_holding (Vd g I1 sm (List.mem_cons_self ..) rw fi fS hoi hS' di (λ v z => nomatch z) λ wv s2 v H2 I2 sm2 fi2 fS2 hi2 hS2 rv2 gv2 => ?_)))
  exact go wv s2 v H2 I2 sm2 fi2 fS2 hi2 hS2 rv2 gv2
end
end L2
namespace L2
open PySem PySem.W PyProof.Rows
structure SortsV (prog : Program) (w : World) (A : Around) (s : Shared) (κ : SortKind) {O : KeyOrd} (key : Value -> O.α) (vs : List Value) : Prop where
 kind : ∀ (E : Value -> Shared -> Prop) (Q : SortKind -> Shared -> Prop), Q κ s -> wpAny (model prog w) A (keyKind' vs.toArray) Q E s
 cmp : ∀ x ∈ vs, ∀ y ∈ vs, ∀ C : Bool -> Shared -> Prop, C (O.blt (key x) (key y)) s -> wpAny (model prog w) A (keyLt' κ x y) C (λ _ _ => False) s
def N2 (vs : List Value) (p : Array Nat) : List Value := p.toList.map λ i => vs.getD i Value.none
section
variable {prog : Program} {w : World} {A : Around} {E : Value -> Shared -> Prop} {s : Shared} {vs : List Value} {O : KeyOrd} {key : Value -> O.α} {κ : SortKind}
theorem getD_in {i : Nat} (hi : i < vs.length) : vs.getD i Value.none ∈ vs := by
 have e : vs.getD i Value.none = vs[i] := by simp [hi]
 rw [e]
 exact List.getElem_mem hi
theorem SortsV.asks (S : SortsV prog w A s κ key vs) : bt (O := O) (λ i => key (vs.getD i Value.none)) vs.length (kas_ask prog w A κ vs) s := by
 intro i j C hi hj h
 unfold kas_ask
 exact S.cmp _ (getD_in hi) _ (getD_in hj) C h
theorem Ow {p : Array Nat} (hp : Rg vs.length p) : (N2 vs p).Perm vs := by
 have h := (Array.perm_iff_toList_perm.mp hp).map λ i => vs.getD i Value.none
 have e : (List.range vs.length).map (λ i => vs.getD i Value.none) = vs := by
  apply List.ext_getElem
  · simp
  ·
   intro i h1 h2
   simp [h2]
 rw [List.toList_toArray, e] at h
 exact h
theorem c6 {p : Array Nat} (hp : Rg vs.length p) (hu : Up (O := O) (λ i => key (vs.getD i Value.none)) p vs.length) : (N2 vs p).Pairwise λ x y => O.kle (key x) (key y) := by
 rw [List.pairwise_iff_getElem]
 intro i j hi hj hij
 have hz := hp.size
 have hl : (N2 vs p).length = vs.length := by unfold N2; rw [List.length_map, Array.length_toList, hz]
 have h := hu i j (by omega) (by omega)
 have gi : ∀ k (hk : k < (N2 vs p).length), (N2 vs p)[k] = vs.getD (p.getD k 0) Value.none := by
  intro k hk
  have hk' : k < p.size := by omega
  have e : (N2 vs p)[k]? = some (vs.getD (p.getD k 0) Value.none) := by
   unfold N2
   rw [List.getElem?_map, Array.getElem?_toList, Array.getElem?_eq_getElem hk', Array.getD, dif_pos hk']
   rfl
  rw [List.getElem?_eq_getElem hk] at e
  exact Option.some.inj e
 rw [gi i hi, gi j hj]
 exact h
theorem Tv {a : Addr} {k : Nat} {P : PySem.Fin -> Shared -> Prop} (ho : s.heap.get? a = some (seqObj "list" vs.toArray k)) (h64 : vs.length < 64)
  (hS : 2 <= vs.length -> ∀ h' : Heap, (∀ b o, b ≠ a -> s.heap.get? b = some o -> h'.get? b = some o) -> SortsV prog w A { s with heap := h' } κ key vs)
  (h : ∀ us : List Value, us.Perm vs -> us.Pairwise (λ x y => O.kle (key x) (key y)) -> P (.done (.ret .none)) { s with heap := sortedHeap s.heap a vs us.toArray }) : wpAny (model prog w) A (Builtin.«list.sort» ⟨[.ref a], []⟩) P E s := by
 obtain ⟨c1, g1⟩ : ∃ c, (s.heap.update a (Obj.mapSeq λ _ => (#[] : Array Value))).get? a = some (seqObj "list" #[] c) := ⟨_, get?_update_seq ho λ _ => #[]⟩
 have g2 : (((s.heap.update a (Obj.mapSeq λ _ => (#[] : Array Value))).push (seqObj "tuple" vs.toArray 0)).push (seqObj "list" #[] 0)).get? a = some (seqObj "list" #[] c1) := Heap.get?_push_of_some _ (Heap.get?_push_of_some _ g1)
 have kp : ∀ b o, b ≠ a -> s.heap.get? b = some o -> (((s.heap.update a (Obj.mapSeq λ _ => (#[] : Array Value))).push (seqObj "tuple" vs.toArray 0)).push (seqObj "list" #[] 0)).get? b = some o := λ b o hb e =>
  Heap.get?_push_of_some _ (Heap.get?_push_of_some _ (by rw [Heap.get?_update_ne _ _ _ _ hb]; exact e))
 rw [list_sort_plain]
 refine wpAny_bind (listItems_at ho rfl (wpAny_bind (listUpdate_at ho rfl (wpAny_bind (seqEpoch_at g1 rfl (wpAny_bind (wpAny_newTuple (wpAny_bind (wpAny_newList (wpAny_holding ?_) (Nat.zero_le _))) (by rw [sizeLine_eq]; show vs.length <= _; omega))))) (by rw [List.size_toArray, sizeLine_eq]; omega) (Nat.zero_le _))))
 show wpAny (model prog w) A _ P E { s with heap := ((s.heap.update a (Obj.mapSeq λ _ => (#[] : Array Value))).push (seqObj "tuple" vs.toArray 0)).push (seqObj "list" #[] 0) }
 dsimp only
 by_cases h2 : vs.toArray.size < 2
 ·
  have hl2 : vs.length < 2 := by rw [List.size_toArray] at h2; exact h2
  rw [if_pos h2, if_pos h2]
  refine wpAny_bind (wpAny_pure ?_)
  rw [StateT.run_pure]
  refine wpAny_bind (wpAny_pure ?_)
  dsimp only
  have e : (arrOf (SortSt.mk' general' (vs.toArray.zip vs.toArray) #[] 7 none)).map (·.2) = vs.toArray := by
   show (vs.toArray.zip vs.toArray).map (·.2) = _
   apply Array.toList_inj.mp
   simp
   rw [List.map_snd_zip]
   simp
  rw [e]
  refine wpAny_bind (seqEpoch_at g2 rfl (wpAny_bind (listUpdate_at g2 rfl ?_ (Nat.zero_le _) (by rw [List.size_toArray, sizeLine_eq]; omega))))
  simp only [bne_self_eq_false, Bool.false_eq_true, if_false]
  refine wpAny_pure (h vs (.refl _) ?_)
  match vs, hl2 with
  | [], _ => exact .nil
  | [_], _ => exact List.pairwise_singleton _ _
 ·
  have hl2 : 2 <= vs.length := by rw [List.size_toArray] at h2; omega
  rw [if_neg h2, if_neg h2]
  have S := hS hl2 _ kp
  refine wpAny_bind (S.kind _ _ ?_)
  have run := kat_run (prog := prog) (w := w) (A := A) (E := E) (κ := κ) (ks := vs) (vs := vs) (s := { s with heap := ((s.heap.update a (Obj.mapSeq λ _ => (#[] : Array Value))).push (seqObj "tuple" vs.toArray 0)).push (seqObj "list" #[] 0) })
   (Q := λ st' s' => s' = { s with heap := ((s.heap.update a (Obj.mapSeq λ _ => (#[] : Array Value))).push (seqObj "tuple" vs.toArray 0)).push (seqObj "list" #[] 0) } /\ failedOf st' = none /\ ∃ p, Rg vs.length p /\ Up (O := O) (λ i => key (vs.getD i Value.none)) p vs.length /\ arrOf st' = p.map (kas_item (vs.toArray.zip vs.toArray)))
   (G := λ p s' => s' = { s with heap := ((s.heap.update a (Obj.mapSeq λ _ => (#[] : Array Value))).push (seqObj "tuple" vs.toArray 0)).push (seqObj "list" #[] 0) } /\ Rg vs.length p /\ Up (O := O) (λ i => key (vs.getD i Value.none)) p vs.length)
   rfl hl2 h64 (λ p st' s' a1 a2 a3 a4 => ⟨a4.1, a3, p, a4.2.1, a4.2.2, a2⟩) (ij S.asks (by omega) λ p hp hu => ⟨rfl, hp, hu⟩)
  refine wpAny_bind (wpAny_mono run ?_ λ _ _ z => z)
  rintro ⟨⟨⟩, st'⟩ s' ⟨rfl, hf, p, hp, hu, har⟩
  dsimp only
  rw [kat_snds rfl har]
  have hz : (N2 vs p).length = vs.length := (Ow hp).length_eq
  refine wpAny_bind (seqEpoch_at g2 rfl (wpAny_bind (listUpdate_at g2 rfl ?_ (Nat.zero_le _) (by rw [List.size_toArray]; show (N2 vs p).length <= _; rw [hz, sizeLine_eq]; omega))))
  rw [hf]
  simp only [bne_self_eq_false, Bool.false_eq_true, if_false]
  exact wpAny_pure (h _ (Ow hp) (c6 hp hu))
theorem J0 {c : Value} {Q : Value -> Shared -> Prop} {G : List Value -> Prop}
  (hcol : ∀ (E' : Value -> Shared -> Prop) (Q' : List Value -> Shared -> Prop), (∀ h' tk vs, (∀ b o, s.heap.get? b = some o -> h'.get? b = some o) -> s.heap.objs.size <= h'.objs.size -> G vs -> Q' vs { s with heap := h', toks := tk }) -> wpAny (model prog w) A.in1 (collect c) Q' E' s)
  (hz : ∀ vs, G vs -> vs.length < 64) (hS : ∀ vs, G vs -> 2 <= vs.length -> ∀ (s' : Shared), (∀ b o, s.heap.get? b = some o -> s'.heap.get? b = some o) -> SortsV prog w A.in1.in1 s' κ key vs)
  (h : ∀ (D : Addr) h' tk (vs us : List Value) (e : Nat), G vs -> us.Perm vs -> us.Pairwise (λ x y => O.kle (key x) (key y)) -> (∀ b o, s.heap.get? b = some o -> h'.get? b = some o) -> s.heap.objs.size <= D -> h'.get? D = some (seqObj "list" us.toArray e) -> Q (.ref D) { s with heap := h', toks := tk }) :
  wpAny (model prog w) A (call (.builtin "sorted") [c]) Q E s := by
 refine Calls.call_function_entry kind_sorted plain_sorted entry_sorted (args_sorted1 _) ?_
 unfold Builtin.«sorted»
 refine wpAny_bind (m := checkCount "sorted" 1 1 _) (wpAny_pure (wpAny_bind (hcol _ _ λ h1 tk vs kp hge hg => ?_)))
 have h64 := hz vs hg
 refine wpAny_bind (wpAny_newList ?_ (by rw [sizeLine_eq]; omega))
 have hoL : (h1.push (seqObj "list" vs.toArray 0)).get? h1.objs.size = some (seqObj "list" vs.toArray 0) := Heap.get?_push_size _ rfl
 have keep : ∀ b o, s.heap.get? b = some o -> (h1.push (seqObj "list" vs.toArray 0)).get? b = some o := λ b o q => Heap.get?_push_of_some _ (kp b o q)
 have ne : ∀ b o, s.heap.get? b = some o -> b ≠ h1.objs.size := λ b o q => Nat.ne_of_lt (Heap.lt_size (kp b o q))
 show wpAny _ _ _ _ _ { s with heap := h1.push (seqObj "list" vs.toArray 0), toks := tk }
 refine wpAny_bind (wpAny_holding (wpAny_call_entry slot_list_sort ⟨_, hoL, rfl⟩ entry_list_sort (Tv (κ := κ) (key := key) hoL h64 (λ h2 h' kp' => hS vs hg h2 _ λ b o q => kp' b o (ne b o q) (keep b o q)) λ us a1 a2 => ⟨_, rfl, wpAny_pure ⟨_, rfl, ?_⟩⟩) (args_list_sort _)))
 obtain ⟨e, he⟩ := sortedHeap_at (out := us.toArray) hoL
 refine h h1.objs.size _ tk vs us e hg a1 a2 (λ b o q => ?_) hge he
 rw [sortedHeap_old (ne b o q) (Heap.lt_size (keep b o q))]
 exact keep b o q
end
end L2
namespace L2
open PySem PySem.Spec PyProof.Rows PySem.SeqAt DX
def ltS (x y : Str) : Bool := decide (x.cps.toList < y.cps.toList)
theorem Xs : ∀ (a b : List Nat), decide (a < b) = F4 (λ x y : Nat => decide (x < y)) a b
 | [], [] => by simp [F4]
 | [], _ :: _ => by simp [F4]
 | _ :: _, [] => by simp [F4]
 |
  x :: xs, y :: ys => by
  unfold F4
  rw [← Xs xs ys]
  by_cases e : x = y
  ·
   subst e
   rw [if_pos rfl]
   exact decide_eq_decide.mpr (by rw [List.cons_lt_cons_iff]; simp)
  ·
   rw [if_neg e]
   exact decide_eq_decide.mpr (by rw [List.cons_lt_cons_iff]; simp [e])
theorem ix {a b : Str} (h : a.cps.toList = b.cps.toList) : a = b := by
 obtain ⟨⟨a⟩⟩ := a
 obtain ⟨⟨b⟩⟩ := b
 simp at h
 rw [h]
theorem Yp : Lin ltS := by
 have L := Lb jl
 have e : ∀ x y : Str, ltS x y = F4 (λ x y : Nat => decide (x < y)) x.cps.toList y.cps.toList := λ x y => Xs _ _
 exact ⟨λ a => by rw [e]; exact L.irr _, λ a b c h1 h2 => by rw [e] at h1 h2 ⊢; exact L.tr _ _ _ h1 h2, λ a b h1 h2 => by rw [e] at h1 h2; exact ix (L.tot _ _ h1 h2)⟩
def ltK : Key -> Key -> Bool := pf (λ a b : Int => decide (a < b)) ltS
def ltN : NK -> NK -> Bool := pf ltK (F4 ltK)
def ltL : List NK -> List NK -> Bool := F4 ltN
theorem Mv : Lin ltK := Xa ib Yp
theorem Du : Lin ltL := Lb (Xa Mv (Lb Mv))
def okK : Key -> Key -> Bool
 | .inl _, .inl _ => true
 | .inr _, .inr _ => true
 | _, _ => false
def okT : List Key -> List Key -> Bool
 | x :: xs, y :: ys => if x = y then okT xs ys else okK x y
 | _, _ => true
def okN : NK -> NK -> Bool
 | .inl a, .inl b => okK a b
 | .inr a, .inr b => okT a b
 | _, _ => false
def okL : List NK -> List NK -> Bool
 | x :: xs, y :: ys => if x = y then okL xs ys else okN x y
 | _, _ => true
def fl {α : Type} (op : CmpOp) (lt : α -> α -> Bool) (x y : α) : Bool :=
 match op with
 | .Lt => lt x y
 | _ => lt y x
abbrev Two (op : CmpOp) : Prop := op = .Lt ∨ op = .Gt
theorem d6 {α : Type} [DecidableEq α] {op : CmpOp} (hop : Two op) {lt : α -> α -> Bool} {x y : α} {xs ys : List α} : fl op (F4 lt) (x :: xs) (y :: ys) = if x = y then fl op (F4 lt) xs ys else fl op lt x y := by
 rcases hop with rfl | rfl
 · rfl
 ·
  show F4 lt (y :: ys) (x :: xs) = if x = y then F4 lt ys xs else lt y x
  show (if y = x then F4 lt ys xs else lt y x) = _
  by_cases e : x = y
  · rw [if_pos e, if_pos e.symm]
  · rw [if_neg e, if_neg λ z => e z.symm]
theorem Ou {α : Type} [DecidableEq α] {op : CmpOp} (hop : Two op) {lt : α -> α -> Bool} {xs ys : List α} (h : xs = [] ∨ ys = []) : szB op xs.length ys.length = fl op (F4 lt) xs ys := by
 rcases hop with rfl | rfl <;> rcases h with rfl | rfl
 · cases ys <;> simp [szB, fl, F4]
 · cases xs <;> simp [szB, fl, F4]
 · cases ys <;> simp [szB, fl, F4]
 · cases xs <;> simp [szB, fl, F4]
section
variable {prog : Program} {w : World} {A : Around} {s : Shared} {op : CmpOp}
theorem CmpAt.tup (hop : Two op) {a b : Addr} {xs ys : Array Value} {r : Bool} (hx : s.heap.IsTuple a xs) (hy : s.heap.IsTuple b ys) (hu : A.units < cLine) (hl : Ir op A.in1 s xs.toList ys.toList r) : CmpAt op A s (.ref a) (.ref b) r := by
 rcases hop with rfl | rfl
 · exact .ltT hx hy hu hl
 · exact .gtT hx hy hu hl
theorem e9 {k k' : Key} {u u' : Value} (h : Ny k u = true) (h' : Ny k' u' = true) : EqAt A s u u' (decide (k = k')) := λ prog w E Q q => (Bg prog w).eqBool (a := k) (b := k') h h' q
theorem Ur (hop : Two op) {k k' : Key} {u u' : Value} (h : Ny k u = true) (h' : Ny k' u' = true) (ok : okK k k' = true) : CmpAt op A s u u' (fl op ltK k k') := by
 intro prog w E Q q
 cases k with
 |
  inl i =>
  obtain ⟨t, rfl⟩ := Value.isInt_shape (k := i) (v := u) h
  cases k' with
  |
   inl j =>
   obtain ⟨t', rfl⟩ := Value.isInt_shape (k := j) (v := u') h'
   rcases hop with rfl | rfl
   · exact PySem.P.lt_int q
   · exact PySem.P.gt_int q
  | inr y => cases ok
 |
  inr x =>
  obtain ⟨t, rfl⟩ := Value.isStrOf_shape (x := x) (v := u) h
  cases k' with
  | inl j => cases ok
  |
   inr y =>
   obtain ⟨t', rfl⟩ := Value.isStrOf_shape (x := y) (v := u') h'
   rcases hop with rfl | rfl
   · exact PySem.P.lt_str q
   · exact PySem.P.gt_str q
theorem Pk (hop : Two op) : ∀ {ks ks' : List Key} {us us' : List Value}, ItemsAre (Bg prog w) ks us -> ItemsAre (Bg prog w) ks' us' -> okT ks ks' = true -> Ir op A s us us' (fl op (F4 ltK) ks ks')
 |
  [], ks', _, us', .nil, h', _ => by
  have e : szB op ([] : List Value).length us'.length = fl op (F4 ltK) [] ks' := by rw [← h'.length]; exact Ou hop (xs := ([] : List Key)) (.inl rfl)
  rw [← e]
  exact .fin (.inl rfl)
 |
  k :: ks, [], us, _, h, .nil, _ => by
  have e : szB op us.length ([] : List Value).length = fl op (F4 ltK) (k :: ks) [] := by rw [← h.length]; exact Ou hop (ys := ([] : List Key)) (.inr rfl)
  rw [← e]
  exact .fin (.inr rfl)
 |
  k :: ks, k' :: ks', _, _, .cons h1 h2, .cons h1' h2', ok => by
  rw [d6 hop]
  unfold okT at ok
  have he := e9 (A := A) (s := s) h1 h1'
  by_cases e : k = k'
  ·
   rw [if_pos e] at ok ⊢
   rw [decide_eq_true e] at he
   exact .eq he (Pk hop h2 h2' ok)
  ·
   rw [if_neg e] at ok ⊢
   rw [decide_eq_false e] at he
   exact .ne he (Ur hop h1 h1' ok)
theorem Pa {ks : List Key} {a : Addr} {h : Heap} (x : IsTupleKey (Bg prog w) h ks a) : ∃ its, h.IsTuple a its /\ ItemsAre (Bg prog w) ks its.toList := let ⟨o, its, n, ho, hc, hd, hi⟩ := x; ⟨its, ⟨o, ho, hc, n, hd⟩, hi⟩
theorem jm {prog' : Program} {w' : World} {ks : List Key} {a : Addr} {h : Heap} (x : IsTupleKey (Bg prog w) h ks a) : IsTupleKey (Bg prog' w') h ks a := by
 obtain ⟨o, its, n, ho, hc, hd, hi⟩ := x
 refine ⟨o, its, n, ho, hc, hd, ?_⟩
 generalize its.toList = vs at hi
 induction hi with
 | nil => exact .nil
 | cons h1 _ ih => exact .cons h1 ih
theorem NItem.any {prog' : Program} {w' : World} {k : NK} {v : Value} {h : Heap} (x : NItem prog w h k v) : NItem prog' w' h k v := by
 cases k with
 | inl k => exact x
 | inr ks => obtain ⟨a, e, p⟩ := x; exact ⟨a, e, jm p⟩
theorem IsNest.any {prog' : Program} {w' : World} {ks : List NK} {a : Addr} {h : Heap} (x : IsNest prog w h ks a) : IsNest prog' w' h ks a := by
 obtain ⟨o, its, n, ho, hc, hd, hi⟩ := x
 refine ⟨o, its, n, ho, hc, hd, ?_⟩
 generalize its.toList = vs at hi
 induction hi with
 | nil => exact .nil
 | cons h1 _ ih => exact .cons h1.any ih
theorem X6 {k k' : NK} {u u' : Value} (hu : A.units < cLine) (h : NItem prog w s.heap k u) (h' : NItem prog w s.heap k' u') : EqAt A s u u' (decide (k = k')) := λ prog' w' E Q q => Px hu h.any h'.any q
theorem Vu (hop : Two op) {k k' : NK} {u u' : Value} (hu : A.units < cLine) (h : NItem prog w s.heap k u) (h' : NItem prog w s.heap k' u') (ok : okN k k' = true) : CmpAt op A s u u' (fl op ltN k k') := by
 cases k with
 |
  inl k =>
  cases k' with
  |
   inl k' =>
   have e : fl op ltN (.inl k) (.inl k') = fl op ltK k k' := by rcases hop with rfl | rfl <;> rfl
   rw [e]
   exact Ur hop h h' ok
  | inr _ => cases ok
 |
  inr ks =>
  cases k' with
  | inl _ => cases ok
  |
   inr ks' =>
   obtain ⟨a, rfl, p⟩ := h
   obtain ⟨b, rfl, p'⟩ := h'
   obtain ⟨xs, t1, i1⟩ := Pa p
   obtain ⟨ys, t2, i2⟩ := Pa p'
   have e : fl op ltN (.inr ks) (.inr ks') = fl op (F4 ltK) ks ks' := by rcases hop with rfl | rfl <;> rfl
   rw [e]
   exact .tup hop t1 t2 hu (Pk hop i1 i2 ok)
theorem NItems.length {ks : List NK} {us : List Value} {h : Heap} (x : NItems prog w h ks us) : ks.length = us.length := by
 induction x with
 | nil => rfl
 | cons _ _ ih => simp [ih]
theorem Sq (hop : Two op) (hu : A.units < cLine) : ∀ {ks ks' : List NK} {us us' : List Value}, NItems prog w s.heap ks us -> NItems prog w s.heap ks' us' -> okL ks ks' = true -> Ir op A s us us' (fl op ltL ks ks')
 |
  [], ks', _, us', .nil, h', _ => by
  have e : szB op ([] : List Value).length us'.length = fl op (F4 ltN) [] ks' := by rw [← h'.length]; exact Ou hop (xs := ([] : List NK)) (.inl rfl)
  show Ir op A s _ _ (fl op (F4 ltN) [] ks')
  rw [← e]
  exact .fin (.inl rfl)
 |
  k :: ks, [], us, _, h, .nil, _ => by
  have e : szB op us.length ([] : List Value).length = fl op (F4 ltN) (k :: ks) [] := by rw [← h.length]; exact Ou hop (ys := ([] : List NK)) (.inr rfl)
  show Ir op A s _ _ (fl op (F4 ltN) (k :: ks) [])
  rw [← e]
  exact .fin (.inr rfl)
 |
  k :: ks, k' :: ks', _, _, .cons h1 h2, .cons h1' h2', ok => by
  show Ir op A s _ _ (fl op (F4 ltN) (k :: ks) (k' :: ks'))
  rw [d6 hop]
  unfold okL at ok
  have he := X6 hu h1 h1'
  by_cases e : k = k'
  ·
   rw [if_pos e] at ok ⊢
   rw [decide_eq_true e] at he
   exact .eq he (Sq hop hu h2 h2' ok)
  ·
   rw [if_neg e] at ok ⊢
   rw [decide_eq_false e] at he
   exact .ne he (Vu hop hu h1 h1' ok)
theorem Yg {ks ks' : List NK} {a b : Addr} (hu : A.units + 1 < cLine) (h : IsNest prog w s.heap ks a) (h' : IsNest prog w s.heap ks' b) : EqAt A s (.ref a) (.ref b) (decide (ks = ks')) := λ prog' w' E Q q => Mh hu h.any h'.any q
theorem Vg (hop : Two op) {ks ks' : List NK} {a b : Addr} (hu : A.units + 1 < cLine) (h : IsNest prog w s.heap ks a) (h' : IsNest prog w s.heap ks' b) (ok : okL ks ks' = true) : CmpAt op A s (.ref a) (.ref b) (fl op ltL ks ks') := by
 obtain ⟨xs, t1, i1⟩ := h.isTuple
 obtain ⟨ys, t2, i2⟩ := h'.isTuple
 exact .tup hop t1 t2 (by omega) (Sq hop hu i1 i2 ok)
end
end L2
namespace L2
open PySem PySem.Spec PyProof.Rows PySem.SeqAt
theorem Wh {prog : Program} {w : World} {A : Around} {E : Value -> Shared -> Prop} {s : Shared} {id : String} {b : Builtin} {args : List Value} {kw : List (Str × Value)} {Q : Value -> Shared -> Prop} (hk : builtinKind id = none) (hp : plainId id = true)
  (hb : entryFor table id = some b) (ha : argsOk id ⟨args, kw⟩)
  (hc : wpAny (model prog w) A.in1 (b ⟨args, kw⟩) (λ fin s' => match fin with
   | .done f => (match (Except.ok f : Result) with | .ok (.ret v) => Q v s' | .ok _ => False | .error e => E e s')
   | .again c' => c'.quiet = true /\ codeAny (model prog w) A c' (λ r s' => match r with | .ok (.ret v) => Q v s' | .ok _ => False | .error e => E e s') s') E s) :
  wpAny (model prog w) A (call (.builtin id) args kw) Q E s := by
 refine wpAny_call (codeAny_call_builtin hp hb ?_)
 simp only [checkBuiltinCall, hk]
 cases hsig : Manifest.signature? id with
 | none => exact wpAny_pure hc
 |
  some sig =>
  simp only [argsOk, hsig] at ha
  have h2 : Bind.checkArgs id sig ⟨args, kw⟩ = pure () := ha
  show wpAny _ A.in1 (Bind.checkArgs id sig ⟨args, kw⟩) _ _ s
  rw [h2]; exact wpAny_pure hc
theorem Rt (a v : Value) : argsOk "max" ⟨[a], [(Str.ofString "key", v)]⟩ := by unfold argsOk; kernel_rfl
section
variable {X : Cx} {pins : List (Addr × Obj)} {σ : St} {H : Hp} {key : Value} {G : V -> Hp -> V -> Prop} {gt : V -> V -> Bool}
theorem Q8 (hc : X.calm = true) {p : Addr} {x : V} {ys : List V} (hl : H p = some (.lst (x :: ys))) (hK : U3 X H (x :: ys) G key) (hG : ∀ x H1 H2 v, Same H1 H2 -> G x H1 v -> G x H2 v) (hcmp : Q0 X H (x :: ys) G gt) {s : Shared} (I : Inv X pins σ H s) {R : Result -> Shared -> Prop}
  (q : ∀ u s' H'', Inv X pins σ H'' s' -> Same H H'' -> RelV (Ga gt x ys) u -> R (.ok (.ret u)) s') : wpAny (model X.prog X.w) X.A.in1 (pyIter (.ref p) >>= λ it => newList [] >>= λ S => again (.builtin (toString "max" ++ toString ".loop") ⟨[it, key, S], []⟩))
   (λ fin s' => match fin with | .done f => R (.ok f) s' | .again c' => c'.quiet = true /\ codeAny (model X.prog X.w) X.A c' R s') (λ e s' => R (.error e) s') s := by
 have hname : (toString "max" ++ toString ".loop" : String) = "max.loop" := by decide
 obtain ⟨its, rvs, pl, hz⟩ := I.list (SqL.of (K := X.K) hl)
 refine wpAny_bind (wpAny_pyIter_list pl.isList (wpAny_bind (wpAny_newList ?_ (Nat.zero_le _))))
 rw [hname]
 have I1 : Inv X pins σ H { s with heap := (s.heap.push { cls := .type "list_iterator", data := .fields #[.ref p, .int 0 0] }).push { cls := .type "list", data := .seq #[] } } :=
  I.kept (t' := s.toks) λ b u e => Heap.get?_push_of_some _ (Heap.get?_push_of_some _ e)
 have hs1 : (s.heap.push { cls := .type "list_iterator", data := .fields #[.ref p, .int 0 0] }).objs.size = s.heap.objs.size + 1 := Heap.size_push ..
 have n0 : H s.heap.objs.size = none := I.hok.fresh (Nat.le_refl _)
 have n1 : H (s.heap.objs.size + 1) = none := I.hok.fresh (Nat.le_succ _)
 refine wpAny_pure ⟨plainId_quiet F.plain_max_loop _, ?_⟩
 have hg0 : ((s.heap.push { cls := .type "list_iterator", data := .fields #[.ref p, .int 0 0] }).push { cls := .type "list", data := .seq #[] }).get? s.heap.objs.size = some { cls := .type "list_iterator", data := .fields #[.ref p, .int 0 0] } :=
  Heap.get?_push_of_some _ (Heap.get?_push_size _ rfl)
 exact Oj (Zu hc hl) hK hG (by rw [hs1]; exact Nat.ne_of_lt (Nat.lt_succ_self _)) hcmp I1 (Same.refl _) (I.fpOk (Nat.le_refl _) n0) (I.fpOk (by rw [hs1]; exact Nat.le_succ _) (by rw [hs1]; exact n1)) ⟨_, hg0, rfl, rfl⟩ (Heap.get?_push_size _ rfl) q
theorem Ya (hc : X.calm = true) {p : Addr} {x : V} {ys : List V} (hl : H p = some (.lst (x :: ys))) (hcmp : Q0 X H (x :: ys) (λ x _ v => v = x) gt) {s : Shared} (I : Inv X pins σ H s) {Q : VK} (q : ∀ H', Same H H' -> Q (Ga gt x ys) H') :
  wpAny (model X.prog X.w) X.A (call (.builtin "max") [.ref p]) (EP X pins σ Q) X.xe s := by
 refine call_function_tree F.kind_max F.plain_max F.entry_max (F.args_max1 _) ?_
 show wpAny _ X.A.in1 (Builtin.Builtins.bindParams "max" ["key", "default"] 0 ⟨[], []⟩ >>= _) _ _ s
 refine wpAny_bind (wpAny_of_eq (show Builtin.Builtins.bindParams "max" ["key", "default"] 0 ⟨[], []⟩ = pure [none, none] from rfl) ?_)
 refine wpAny_bind (wpAny_pure ?_)
 exact Q8 (G := λ x _ v => v = x) hc hl (.inl ⟨rfl, λ _ _ => rfl⟩) (λ x H1 H2 v _ e => e) hcmp I (R := λ r s' => match r with | .ok (.ret v) => EP X pins σ Q v s' | .ok _ => False | .error e => X.xe e s') λ u s' H'' I2 sm r => ⟨_, H'', I2, r, q H'' sm⟩
theorem Xe (hc : X.calm = true) {p f : Addr} {x : V} {ys : List V} (hl : H p = some (.lst (x :: ys))) (hK : U3 X H (x :: ys) G (.ref f)) (hG : ∀ x H1 H2 v, Same H1 H2 -> G x H1 v -> G x H2 v) (hcmp : Q0 X H (x :: ys) G gt) {s : Shared} (I : Inv X pins σ H s) {Q : VK} (q : ∀ H', Same H H' -> Q (Ga gt x ys) H') :
  wpAny (model X.prog X.w) X.A (call (.builtin "max") [.ref p] [(Str.ofString "key", .ref f)]) (EP X pins σ Q) X.xe s := by
 refine Wh F.kind_max F.plain_max F.entry_max (Rt _ _) ?_
 show wpAny _ X.A.in1 (Builtin.Builtins.bindParams "max" ["key", "default"] 0 ⟨[], [(Str.ofString "key", .ref f)]⟩ >>= _) _ _ s
 refine wpAny_bind (wpAny_of_eq (show Builtin.Builtins.bindParams "max" ["key", "default"] 0 ⟨[], [(Str.ofString "key", .ref f)]⟩ = pure [some (.ref f), none] from by kernel_rfl) ?_)
 refine wpAny_bind (wpAny_pure ?_)
 exact Q8 hc hl hK hG hcmp I (R := λ r s' => match r with | .ok (.ret v) => EP X pins σ Q v s' | .ok _ => False | .error e => X.xe e s') λ u s' H'' I2 sm r => ⟨_, H'', I2, r, q H'' sm⟩
theorem b4 (hc : X.calm = true) {x y : V} {a b : Value} (ra : RelV x a) (rb : RelV y b) (hcmp : ∀ H', Same H H' -> Q0 X H' [x, y] (λ x _ v => v = x) gt) {s : Shared} (I : Inv X pins σ H s) {Q : VK} (q : ∀ H', Same H H' -> Q (if gt y x then y else x) H') :
  wpAny (model X.prog X.w) X.A (call (.builtin "max") [a, b]) (EP X pins σ Q) X.xe s := by
 have hname : (toString "max" ++ toString ".loop" : String) = "max.loop" := by decide
 refine call_function_tree F.kind_max F.plain_max F.entry_max (F.args_max2 _ _) ?_
 show wpAny _ X.A.in1 (Builtin.Builtins.bindParams "max" ["key", "default"] 0 ⟨[], []⟩ >>= _) _ _ s
 refine wpAny_bind (wpAny_of_eq (show Builtin.Builtins.bindParams "max" ["key", "default"] 0 ⟨[], []⟩ = pure [none, none] from rfl) ?_)
 show wpAny _ X.A.in1 (newTuple [a, b] >>= _) _ _ s
 refine wpAny_bind (wpAny_newTuple ?_ (by rw [sizeLine_eq]; show 2 <= _; omega))
 have n0 : H s.heap.objs.size = none := I.hok.fresh (Nat.le_refl _)
 have I1 : Inv X pins σ (upd H s.heap.objs.size (.tup [x, y])) { s with heap := s.heap.push { cls := .type "tuple", data := .seq #[a, b] } } :=
  I.laid (t' := s.toks) (λ b u e => Heap.get?_push_of_some _ e) (Nat.le_refl _) ⟨by rw [sizeLine_eq]; show 2 <= _; omega, [a, b], .cons ra (.cons rb .nil), IsTup.new _ _⟩
 have sm1 : Same H (upd H s.heap.objs.size (.tup [x, y])) := Ag n0
 have hl : upd H s.heap.objs.size (.tup [x, y]) s.heap.objs.size = some (.tup [x, y]) := Ae
 obtain ⟨its, rvs, pl, hz⟩ := I1.tuple (SqT.of (K := X.K) hl)
 refine wpAny_bind (wpAny_pyIter_tuple pl (wpAny_bind (wpAny_newList ?_ (Nat.zero_le _))))
 rw [hname]
 have hs0 : (s.heap.push { cls := .type "tuple", data := .seq #[a, b] }).objs.size = s.heap.objs.size + 1 := Heap.size_push ..
 have hs1 : ((s.heap.push { cls := .type "tuple", data := .seq #[a, b] }).push { cls := .type "tuple_iterator", data := .fields #[.ref s.heap.objs.size, .int 0 0] }).objs.size = s.heap.objs.size + 2 := by rw [Heap.size_push, hs0]
 have I2 : Inv X pins σ (upd H s.heap.objs.size (.tup [x, y])) { s with heap := ((s.heap.push { cls := .type "tuple", data := .seq #[a, b] }).push { cls := .type "tuple_iterator", data := .fields #[.ref s.heap.objs.size, .int 0 0] }).push { cls := .type "list", data := .seq #[] } } :=
  I1.kept (t' := s.toks) λ b u e => Heap.get?_push_of_some _ (Heap.get?_push_of_some _ e)
 have m1 : upd H s.heap.objs.size (.tup [x, y]) (s.heap.objs.size + 1) = none := I1.hok.fresh (by show (s.heap.push _).objs.size <= _; rw [hs0]; exact Nat.le_refl _)
 have m2 : upd H s.heap.objs.size (.tup [x, y]) (s.heap.objs.size + 2) = none := I1.hok.fresh (by show (s.heap.push _).objs.size <= _; rw [hs0]; exact Nat.le_succ _)
 refine wpAny_pure ⟨plainId_quiet F.plain_max_loop _, ?_⟩
 have hg0 : (((s.heap.push { cls := .type "tuple", data := .seq #[a, b] }).push { cls := .type "tuple_iterator", data := .fields #[.ref s.heap.objs.size, .int 0 0] }).push { cls := .type "list", data := .seq #[] }).get? (s.heap.objs.size + 1) = some { cls := .type "tuple_iterator", data := .fields #[.ref s.heap.objs.size, .int 0 0] } :=
  Heap.get?_push_of_some _ (by rw [← hs0]; exact Heap.get?_push_size _ rfl)
 have hg1 : (((s.heap.push { cls := .type "tuple", data := .seq #[a, b] }).push { cls := .type "tuple_iterator", data := .fields #[.ref s.heap.objs.size, .int 0 0] }).push { cls := .type "list", data := .seq #[] }).get? (s.heap.objs.size + 2) = some { cls := .type "list", data := .seq #[] } := by
  rw [← hs1]; exact Heap.get?_push_size _ rfl
 suffices e : codeAny (model X.prog X.w) X.A (.builtin "max.loop" ⟨[.ref (s.heap.objs.size + 1), .none, .ref (s.heap.objs.size + 2)], []⟩) (λ r s' => match r with | .ok (.ret v) => EP X pins σ Q v s' | .ok _ => False | .error e => X.xe e s')
   { s with heap := ((s.heap.push { cls := .type "tuple", data := .seq #[a, b] }).push { cls := .type "tuple_iterator", data := .fields #[.ref s.heap.objs.size, .int 0 0] }).push { cls := .type "list", data := .seq #[] } } by
  rw [← hs0, ← hs1] at e
  exact e
 refine Oj (G := λ x _ v => v = x) (it := s.heap.objs.size + 1) (S := s.heap.objs.size + 2) (x := x) (ys := [y]) (cj hc hl) (.inl ⟨rfl, λ _ _ => rfl⟩) (λ x H1 H2 v _ e => e) (Nat.ne_of_lt (Nat.lt_succ_self _)) (hcmp _ sm1) I2 (Same.refl _) (I1.fpOk (by show (s.heap.push _).objs.size <= _; rw [hs0]; exact Nat.le_refl _) m1)
  (I1.fpOk (by show (s.heap.push _).objs.size <= _; rw [hs0]; exact Nat.le_succ _) m2) ⟨_, hg0, rfl, rfl⟩ hg1 λ u s' H'' I3 sm r => ⟨_, H'', I3, r, q H'' (sm1.trans sm)⟩
end
def NkV (H : Hp) : NK -> V -> Prop
 | .inl k, v => v = kV k
 | .inr ks, v => ∃ q, v = .ref q /\ H q = some (.tup (ks.map kV))
inductive NkVs (H : Hp) : List NK -> List V -> Prop
 | nil : NkVs H [] []
 | cons {k : NK} {v : V} {ks : List NK} {vs : List V} : NkV H k v -> NkVs H ks vs -> NkVs H (k :: ks) (v :: vs)
def NkAt (H : Hp) (ks : List NK) (p : Addr) : Prop := ∃ vs, H p = some (.tup vs) /\ NkVs H ks vs
theorem NkV.up {H H' : Hp} {k : NK} {v : V} (h : NkV H k v) (ht : ∀ b xs, H b = some (.tup xs) -> H' b = some (.tup xs)) : NkV H' k v := by
 cases k with
 | inl k => exact h
 | inr ks => obtain ⟨q, e, h⟩ := h; exact ⟨q, e, ht _ _ h⟩
theorem NkVs.up {H H' : Hp} {ks : List NK} {vs : List V} (h : NkVs H ks vs) (ht : ∀ b xs, H b = some (.tup xs) -> H' b = some (.tup xs)) : NkVs H' ks vs := by
 induction h with
 | nil => exact .nil
 | cons h1 _ ih => exact .cons (h1.up ht) ih
theorem NkAt.upT {H H' : Hp} {ks : List NK} {p : Addr} (h : NkAt H ks p) (ht : ∀ b xs, H b = some (.tup xs) -> H' b = some (.tup xs)) : NkAt H' ks p := let ⟨vs, h1, h2⟩ := h; ⟨vs, ht _ _ h1, h2.up ht⟩
theorem NkAt.up {H H' : Hp} {ks : List NK} {p : Addr} (h : NkAt H ks p) (s : Same H H') : NkAt H' ks p := h.upT λ b xs e => s b _ e
theorem NkAt.upd {H : Hp} {ks : List NK} {p a : Addr} {o : HO} (h : NkAt H ks p) (na : ∀ xs, H a ≠ some (.tup xs)) : NkAt (upd H a o) ks p := h.upT λ b xs e => by
 rw [Al (λ z => na xs (by rw [← z]; exact e))]
 exact e
section
variable {X : Cx} {pins : List (Addr × Obj)} {σ : St} {H : Hp} {s : Shared}
theorem dt {P : Program} {w : World} {h : Heap} (ok : HOk P w H h) {ks : List NK} {vs : List V} (r : NkVs H ks vs) : ∀ {us : List Value}, Vals vs us -> NItems P w h ks us := by
 induction r with
 | nil => intro us v; cases v; exact .nil
 |
  @cons k v ks vs h1 _ ih =>
  intro us v
  cases v with
  |
   cons v1 v2 =>
   refine .cons ?_ (ih v2)
   cases k with
   | inl k => cases (show _ = kV k from h1); exact Th v1
   |
    inr ks =>
    obtain ⟨q, rfl, hq⟩ := h1
    cases v1
    exact ⟨q, rfl, Jc ok hq⟩
theorem B6 {P : Program} {w : World} {h : Heap} (ok : HOk P w H h) {ks : List NK} {p : Addr} (x : NkAt H ks p) : IsNest P w h ks p := by
 obtain ⟨vs, hp, r⟩ := x
 obtain ⟨_, its, rv, o, h1, h2, n, h3⟩ := (show ObjOk P w H h p (.tup vs) from ok p _ hp)
 exact ⟨o, its.toArray, n, h1, h2, h3, by simpa using dt ok r rv⟩
theorem NkAt.inj {P : Program} {w : World} {h : Heap} (ok : HOk P w H h) {ks ks' : List NK} {p : Addr} (x : NkAt H ks p) (y : NkAt H ks' p) : ks = ks' := (B6 ok x).inj (B6 ok y)
end
abbrev keysOf (xs : List (List NK × Addr)) : List (List NK) := xs.map (·.1)
def O6 (xs : List (List NK × Addr)) (ks : List NK) : Bool := xs.any λ x => decide (x.1 = ks)
def Jv (P : Program) (w : World) (a : Addr) (xs : List (List NK × Addr)) : HO := .ext λ h => ∃ o es ep, h.get? a = some o /\ o.ExactDict /\ o.data = .dict es ep /\ es.toList = (xs.map λ x => entryOfKey (L4 P w) (x.1, x.2, .bool true)) /\ (xs.map (·.1)).Nodup /\ (a == sysModules) = false
structure KeptAt (P : Program) (w : World) (H : Hp) (a : Addr) (xs : List (List NK × Addr)) : Prop where
 at_ : H a = some (Jv P w a xs) ∨ (xs = [] /\ H a = some (.dK []))
 ok : ∀ x ∈ xs, NkAt H x.1 x.2
 few : xs.length <= 1000
theorem KeptAt.notup {P : Program} {w : World} {H : Hp} {a : Addr} {xs : List (List NK × Addr)} (h : KeptAt P w H a xs) (ys : List V) : H a ≠ some (.tup ys) := by
 rcases h.at_ with e | ⟨_, e⟩ <;> rw [e] <;> exact λ z => nomatch z
theorem KeptAt.up {P : Program} {w : World} {H H' : Hp} {a : Addr} {xs : List (List NK × Addr)} (h : KeptAt P w H a xs) (s : Same H H') : KeptAt P w H' a xs :=
 ⟨h.at_.elim (λ e => .inl (s _ _ e)) λ ⟨e1, e2⟩ => .inr ⟨e1, s _ _ e2⟩, λ x hx => (h.ok x hx).up s, h.few⟩
section
variable {P : Program} {w : World} {H : Hp} {h : Heap} {a : Addr} {xs : List (List NK × Addr)}
def Lr (xs : List (List NK × Addr)) : List (List NK × Addr × Value) := xs.map λ x => (x.1, x.2, .bool true)
theorem Rc (ok : HOk P w H h) (k : KeptAt P w H a xs) : (a == sysModules) = false /\ h.DictOfH (L4 P w) a (Lr xs) := by
 rcases k.at_ with e | ⟨rfl, e⟩
 ·
  obtain ⟨⟨o, es, ep, h1, h2, h3, h4, h5, h6⟩, _⟩ := (show ObjOk P w H h a (Jv P w a xs) from ok a _ e)
  refine ⟨h6, o, es, ep, h1, h2, h3, by rw [h4]; unfold Lr; rw [List.map_map]; rfl, λ x hx => ?_, by unfold Lr; rw [List.map_map]; exact h5⟩
  obtain ⟨y, hy, rfl⟩ := List.mem_map.mp hx
  exact B6 ok (k.ok y hy)
 ·
  obtain ⟨_, hs, vs, rel, o, es, ep, h1, h2, h3, _, h4, _⟩ := l8 ok e
  cases rel
  have he : es.toList = [] := List.length_eq_zero_iff.mp h4.length
  exact ⟨hs, o, es, ep, h1, h2, h3, he, (λ x hx => by cases hx), List.nodup_nil⟩
theorem Jw (ks : List NK) : ∀ xs : List (List NK × Addr), (atKey (Lr xs) ks).isSome = O6 xs ks
 | [] => rfl
 |
  x :: xs => by
  have ih := Jw ks xs
  unfold Lr atKey O6 at ih ⊢
  rw [List.map_cons, List.find?_cons, List.any_cons]
  by_cases e : x.1 = ks
  · simp [e]
  ·
   simp only [e, decide_false, Bool.false_or]
   exact ih
end
section
variable {X : Cx}
theorem X0 (hu : X.A.units + 2 < cLine) : OpR X (compareOp .In) (λ x y H Q => ∃ (p a : Addr) (ks : List NK) (xs : List (List NK × Addr)), x = .ref p /\ y = .ref a /\ NkAt H ks p /\ KeptAt X.prog X.w H a xs /\ Q (.bl (O6 xs ks)) H) := by
 intro pins s σ H x y v u Q I rx ry h
 obtain ⟨p, a, ks, xs, rfl, rfl, hp, hk, q⟩ := h
 cases rx
 cases ry
 obtain ⟨hs, dd⟩ := Rc I.hok hk
 refine wpAny_in_heap (knd := L4 X.prog X.w) hu (B6 I.hok hp) hs dd ?_
 rw [Jw]
 exact ⟨.bl _, H, I.tok _, rfl, q⟩
theorem b7 {A : Around} {E : Value -> Shared -> Prop} {pins : List (Addr × Obj)} {σ : St} {H : Hp} {s : Shared} {p a : Addr} {ks : List NK} {xs : List (List NK × Addr)} {Q : Unit -> Shared -> Prop} (hu : A.units + 2 < cLine) (I : Inv X pins σ H s) (hp : NkAt H ks p) (hk : KeptAt X.prog X.w H a xs) (hn : O6 xs ks = false) (hl : xs.length < 1000)
  (h : ∀ s', Inv X pins σ (upd H a (Jv X.prog X.w a (xs ++ [(ks, p)]))) s' -> Q () s') : wpAny (model X.prog X.w) A (setItem (.ref a) (.ref p) (.bool true)) Q E s := by
 obtain ⟨hs, dd⟩ := Rc I.hok hk
 have hz : (Lr xs).length <= sizeLine := by unfold Lr; rw [List.length_map, sizeLine_eq]; omega
 refine wpAny_setItem_heap (knd := L4 X.prog X.w) (hsz := hz) hu (B6 I.hok hp) dd λ h' dd' hb => h _ ?_
 obtain ⟨q, es, ep, hq, h2, h3, h4, _, h5⟩ := dd'
 have hno : atKey (Lr xs) ks = none := by
  cases e : atKey (Lr xs) ks with
  | none => rfl
  |
   some z =>
   have := Jw ks xs
   rw [e] at this
   rw [hn] at this; cases this
 rw [storedH_new hno] at h4 h5
 have mu : Mut (H a) := by rcases hk.at_ with e | ⟨_, e⟩ <;> rw [e] <;> exact True.intro
 refine Qc I mu hb ⟨q, hq⟩ ⟨⟨q, es, ep, hq, h2, h3, ?_, ?_, hs⟩, ⟨q, hq⟩, ?_⟩
 · rw [h4]; unfold Lr; rw [List.map_append, List.map_append, List.map_map]; rfl
 · rw [show (Lr xs ++ [(ks, p, Value.bool true)]).map (·.1) = (xs ++ [(ks, p)]).map (·.1) from by unfold Lr; rw [List.map_append, List.map_append, List.map_map]; rfl] at h5; exact h5
 ·
  rintro h1 h2 ⟨o, es, ep, e1, e2⟩ kp
  exact ⟨o, es, ep, kp _ e1, e2⟩
theorem KeptAt.put {P : Program} {w : World} {H : Hp} {p a : Addr} {ks : List NK} {xs : List (List NK × Addr)} (hk : KeptAt P w H a xs) (hp : NkAt H ks p) (hl : xs.length < 1000) : KeptAt P w (upd H a (Jv P w a (xs ++ [(ks, p)]))) a (xs ++ [(ks, p)]) :=
 ⟨.inl Ae, λ x hx => by
  rcases List.mem_append.mp hx with hx | hx
  · exact (hk.ok x hx).upd hk.notup
  · rw [List.mem_singleton] at hx; subst hx; exact hp.upd hk.notup, by rw [List.length_append]; show _ + 1 <= _; omega⟩
end
end L2
namespace L2
open PySem PySem.W PyProof.Rows
def RawD (h : Heap) (d : Addr) (es : Array DictEntry) (ep : Nat) : Prop := ∃ o, h.get? d = some o /\ o.ExactDict /\ o.data = .dict es ep
section
variable {prog : Program} {w : World} {A : Around} {E : Value -> Shared -> Prop} {s : Shared} {d it : Addr} {es : Array DictEntry} {ep i : Nat}
theorem RawD.typeIs (h : RawD s.heap d es ep) : s.TypeIs (.ref d) "dict" := let ⟨o, ho, hc, _⟩ := h; ⟨o, ho, hc.1⟩
theorem RawD.keep {h h' : Heap} (x : RawD h d es ep) (k : ∀ o, h.get? d = some o -> h'.get? d = some o) : RawD h' d es ep := let ⟨o, ho, r⟩ := x; ⟨o, k o ho, r⟩
theorem cx {Q : Value -> Shared -> Prop} (hd : (d == sysModules) = false) (hm : RawD s.heap d es ep)
  (hQ : Q (.ref s.heap.objs.size) { s with heap := s.heap.push { cls := .type "dict_keyiterator", data := .fields #[.ref d, .int 0 0, .int es.size 0, .int ep 0] } }) : wpAny (model prog w) A (pyIter (.ref d)) Q E s := by
 have hT := hm.typeIs
 obtain ⟨o, ho, hc, hdat⟩ := id hm
 refine wpAny_pyIter_slot hT F.slot_dict_iter (wpAny_call_entry F.slot_dict_iter hT F.entry_dict_iter ?_ (F.args_dict_iter_1 _))
 unfold Builtin.«dict.__iter__»
 refine wpAny_bind ?_
 unfold Builtin.Dict.dictSlotNone
 refine wpAny_bind (wpAny_notOrdered_dict hT (wpAny_pure ?_))
 show wpAny _ _ (Builtin.Dict.showsAll d >>= _) _ _ s
 unfold Builtin.Dict.showsAll
 rw [if_neg (by rw [hd]; exact Bool.false_ne_true)]
 refine wpAny_bind (wpAny_pure (wpAny_bind (wpAny_dictEntries ho hdat (wpAny_bind (wpAny_dictEpoch ho hdat ?_)))))
 refine wpAny_bind (wpAny_newObj_type (wpAny_pure ⟨_, rfl, "dict_keyiterator", _, ⟨_, Heap.get?_push_size _ rfl, rfl⟩, F.slot_dict_keyiterator_next.lookup, ?_⟩))
 simpa [rawInt] using hQ
theorem dj {Q : Option Value -> Shared -> Prop} (hit : s.heap.IsKeyIter it d i es.size ep) (hm : RawD s.heap d es ep) (hi : i < es.size)
  (hQ : ∀ h', h'.IsKeyIter it d (i + 1) es.size ep -> Heap.SameBut it s.heap h' -> Q (some es[i].key) { s with heap := h' }) : wpAny (model prog w) A (pyNext (.ref it)) Q E s := by
 obtain ⟨o, ho, hc, hd⟩ := id hit
 obtain ⟨od, hod, hcd, hdd⟩ := id hm
 unfold pyNext
 refine wpAny_bind (wpAny_attempt (wpAny_callSpecial?_slot (name := Str.ofString "__next__") hit.typeIs F.slot_dict_keyiterator_next
  (wpAny_call_entry F.slot_dict_keyiterator_next hit.typeIs F.entry_dict_keyiterator_next ?_ (F.args_dict_keyiterator_next_1 _))))
 refine wpAny_bind (wpAny_pure (wpAny_bind (wpAny_bind ?_)))
 first | refine wpAny_bind (wpAny_typeNameOfWhole_keyiter hit.typeIs (wpAny_pure ?_)) | refine wpAny_bind (wpAny_typeNameOf_keyiter hit.typeIs (wpAny_pure ?_))
 refine wpAny_bind (wpAny_fieldsOf ho hd ?_)
 simp only [show Builtin.Dict_items.ownsTuple "dict_keyiterator" = false from by decide, Bool.false_eq_true, if_false]
 show wpAny _ _ (if (Value.ref d == Value.none) = true then _ else _) _ _ s
 rw [if_neg (show ¬ ((Value.ref d == Value.none) = true) from Bool.false_ne_true)]
 refine wpAny_bind (wpAny_pure (wpAny_bind (wpAny_dictEntries hod hdd ?_)))
 rw [if_neg (by simp)]
 refine wpAny_bind (wpAny_pure (wpAny_bind (wpAny_dictEpoch hod hdd ?_)))
 rw [if_neg (by simp)]
 refine wpAny_pure ?_
 simp only [show ¬ ((i : Int) < 0) from by omega, if_false, Int.toNat_natCast, Array.getElem?_eq_getElem hi]
 refine wpAny_bind ?_
 first | refine wpAny_bind (wpAny_typeNameOfWhole_keyiter hit.typeIs (wpAny_pure ?_)) | refine wpAny_bind (wpAny_typeNameOf_keyiter hit.typeIs (wpAny_pure ?_))
 refine wpAny_bind (wpAny_isOneOf_keyiter hit.typeIs ?_)
 show wpAny _ _ (setField (.ref it) 1 (rawInt ((i : Int) + 1)) >>= _) _ _ s
 refine wpAny_bind (wpAny_setField ho hd (by simp) ?_)
 have hit' : (s.heap.update it (Obj.mapFields (·.setIfInBounds 1 (rawInt ((i : Int) + 1))))).IsKeyIter it d (i + 1) es.size ep :=
  ⟨_, Heap.get?_update_self _ ho (Obj.isFreed_of_fields (Obj.data_mapFields hd _)), (Obj.cls_mapFields ..).trans hc, by rw [Obj.data_mapFields hd]; simp [rawInt]⟩
 refine wpAny_bind (wpAny_holding (wpAny_bind (wpAny_isOneOf_keyiter (s := { s with heap := s.heap.update it (Obj.mapFields (·.setIfInBounds 1 (rawInt ((i : Int) + 1)))) }) hit'.typeIs ?_)))
 exact wpAny_pure (wpAny_pure ⟨_, rfl, wpAny_pure (hQ _ hit' (Heap.SameBut.update ..))⟩)
theorem ji {Q : Option Value -> Shared -> Prop} (hh : A.handled = none) (hit : s.heap.IsKeyIter it d i es.size ep) (hm : RawD s.heap d es ep) (hi : es.size <= i)
  (hQ : ∀ h', Heap.ExtBut it s.heap h' -> Q none { s with heap := h' }) : wpAny (model prog w) A (pyNext (.ref it)) Q E s := by
 obtain ⟨o, ho, hc, hd⟩ := id hit
 obtain ⟨od, hod, hcd, hdd⟩ := id hm
 unfold pyNext
 refine wpAny_bind (wpAny_attempt (wpAny_callSpecial?_slot (name := Str.ofString "__next__") hit.typeIs F.slot_dict_keyiterator_next
  (wpAny_call_entry F.slot_dict_keyiterator_next hit.typeIs F.entry_dict_keyiterator_next ?_ (F.args_dict_keyiterator_next_1 _))))
 refine wpAny_bind (wpAny_pure (wpAny_bind (wpAny_bind ?_)))
 first | refine wpAny_bind (wpAny_typeNameOfWhole_keyiter hit.typeIs (wpAny_pure ?_)) | refine wpAny_bind (wpAny_typeNameOf_keyiter hit.typeIs (wpAny_pure ?_))
 refine wpAny_bind (wpAny_fieldsOf ho hd ?_)
 simp only [show Builtin.Dict_items.ownsTuple "dict_keyiterator" = false from by decide, Bool.false_eq_true, if_false]
 show wpAny _ _ (if (Value.ref d == Value.none) = true then _ else _) _ _ s
 rw [if_neg (show ¬ ((Value.ref d == Value.none) = true) from Bool.false_ne_true)]
 refine wpAny_bind (wpAny_pure (wpAny_bind (wpAny_dictEntries hod hdd ?_)))
 rw [if_neg (by simp)]
 refine wpAny_bind (wpAny_pure (wpAny_bind (wpAny_dictEpoch hod hdd ?_)))
 rw [if_neg (by simp)]
 refine wpAny_pure ?_
 simp only [show ¬ ((i : Int) < 0) from by omega, if_false, Int.toNat_natCast, Array.getElem?_eq_none hi]
 refine wpAny_bind ?_
 first | refine wpAny_bind (wpAny_typeNameOfWhole_keyiter hit.typeIs (wpAny_pure ?_)) | refine wpAny_bind (wpAny_typeNameOf_keyiter hit.typeIs (wpAny_pure ?_))
 show wpAny _ _ (setField (.ref it) 0 .none >>= _) _ _ s
 refine wpAny_bind (wpAny_setField ho hd (by simp) (wpAny_bind ?_))
 simp only [newExc, newTuple]
 refine wpAny_bind (wpAny_newObj_type ?_ (by size_fits))
 refine wpAny_bind (m := firstArgMember _ _) (wpAny_of_eq (a := Value.none) (by first | rfl | (simp only [firstArgMember]; rfl)) ?_)
 refine wpAny_newObj_type ?_ (by size_fits)
 simp only [raiseNew]
 refine wpAny_bind (wpAny_handled ?_)
 rw [show A.in1.handled = none from hh]
 refine wpAny_bind (wpAny_pure (wpAny_throw ?_))
 refine wpAny_bind (wpAny_isInstance (T := "StopIteration") (b := true) ⟨_, Heap.get?_push_size _ rfl, rfl⟩ isSubtype_stop ?_)
 exact wpAny_pure (hQ _ (((Heap.SameBut.update ..).extBut.push _).push _))
theorem jh (lo : (d == sysModules) = false) : KdlSrc prog w "dict" d d es.size (λ i v => ∃ h : i < es.size, v = es[i].key) (λ h => RawD h d es ep) where
 type := λ _ hm => hm.typeIs
 there := λ h hm => let ⟨_, ho, _⟩ := hm; ⟨Heap.lt_size ho, Heap.lt_size ho⟩
 keep := λ _ _ hm hk => hm.keep λ o e => hk d (.inl rfl) o e
 notList := by decide
 notTuple := by decide
 hint := λ _ _ _ _ hm hq => kdl_hint_dict hm.typeIs hq
 iter := λ A s hh hm => by
  have hne : d ≠ s.heap.objs.size := by obtain ⟨_, ho, _⟩ := id hm; exact Nat.ne_of_lt (Heap.lt_size ho)
  refine ⟨_, λ i h => h.IsKeyIter s.heap.objs.size d i es.size ep /\ RawD h d es ep, (λ _ _ hq => cx lo hm hq), ?_, ⟨⟨_, Heap.get?_push_size _ rfl, rfl, rfl⟩, hm.keep λ o e => Heap.get?_push_of_some _ e⟩⟩
  exact {
   sub := λ b hb => by simp at hb; simp [hb]
   frame := λ _ _ _ st hk => ⟨st.1.at λ o e => hk _ (by simp) o e, st.2.keep λ o e => hk d (by simp) o e⟩
   item := λ i s' Q E hi st hQ => dj st.1 st.2 hi λ h' hit' hs' => hQ _ h' s'.toks ⟨hi, rfl⟩ ⟨hit', st.2.keep λ o e => (hs'.2 d hne).trans e⟩ λ b o hb e => (hs'.2 b (λ h => hb (by simp [h]))).trans e
   done := λ s' Q E st hQ => ji hh st.1 st.2 (Nat.le_refl _) λ h' he' => hQ h' s'.toks λ b o hb e => he' b o (λ h => hb (by simp [h])) e
   self := λ _ _ _ _ st hQ => wpAny_pyIter_keyiter st.1 hQ }
end
end L2
namespace L2
open PySem PySem.W PyProof.Rows PySem.SeqAt DX
def nkO : KeyOrd where
 α := List NK
 blt := ltL
 irrefl := Du.irr
 trans := Du.tr
 negTrans := λ a b c h => Du.neg h
 total := Du.tot
section
variable {prog : Program} {w : World} {A : Around} {s : Shared}
theorem Nf {C : Bool -> Shared -> Prop} {fin : Bool} (hu : A.units < cLine) : ∀ {ks ks' : List NK} {us us' : List Value} (i : Nat), NItems prog w s.heap ks us -> NItems prog w s.heap ks' us' -> okL ks ks' = true -> fin = decide (ks.length < ks'.length) ->
  (i = 0 -> ∃ t r t' r', ks = .inl (.inr t) :: r /\ ks' = .inl (.inr t') :: r') -> C (ltL ks ks') s -> KatLex prog w A true fin C (us.zip us') i s
 |
  [], ks', _, us', i, .nil, h', _, hf, _, hC => by
  have e : ltL [] ks' = fin := by rw [hf]; exact (Ou (op := .Lt) (.inl rfl) (lt := ltN) (xs := []) (.inl rfl)).symm
  rw [e] at hC
  exact kat_nil hC
 |
  k :: ks, [], us, _, i, h, .nil, _, hf, _, hC => by
  have e : ltL (k :: ks) [] = fin := by rw [hf]; exact (Ou (op := .Lt) (.inl rfl) (lt := ltN) (ys := []) (.inr rfl)).symm
  rw [e] at hC
  rw [List.zip_nil_right]
  exact kat_nil hC
 |
  k :: ks, k' :: ks', _, _, i, .cons (v := u) (vs := us) h1 h2, .cons (v := u') (vs := us') h1' h2', ok, hf, h0, hC => by
  have e : ltL (k :: ks) (k' :: ks') = if k = k' then ltL ks ks' else ltN k k' := rfl
  rw [e] at hC
  unfold okL at ok
  rw [List.zip_cons_cons]
  refine kat_cons (Px hu h1 h1' ?_)
  by_cases ek : k = k'
  ·
   rw [if_pos ek] at ok hC
   rw [decide_eq_true ek]
   exact kat_yes (Nf hu (i + 1) h2 h2' ok (by rw [hf]; exact decide_eq_decide.mpr (by simp only [List.length_cons]; omega)) (λ z => absurd z (Nat.succ_ne_zero _)) hC)
  ·
   rw [if_neg ek] at ok hC
   rw [decide_eq_false ek]
   refine kat_no ?_
   by_cases hi : i = 0
   ·
    subst hi
    obtain ⟨t, r, t', r', e1, e2⟩ := h0 rfl
    injection e1 with e1 _
    injection e2 with e2 _
    subst e1 e2
    obtain ⟨tk, rfl⟩ := Value.isStrOf_shape (x := t) (v := u) h1
    obtain ⟨tk', rfl⟩ := Value.isStrOf_shape (x := t') (v := u') h1'
    exact oneLt_str hC
   ·
    have ei : (true && i == 0) = false := by rw [Bool.true_and]; exact beq_eq_false_iff_ne.mpr hi
    rw [ei]
    exact kat_one _ _ (Vu (op := .Lt) (.inl rfl) hu h1 h1' ok prog w _ _ hC)
abbrev Rm (ks : List NK) : Prop := ∃ t r, ks = .inl (.inr t) :: r
theorem U5 {h : Heap} : ∀ {ms : List (List NK × Addr)}, (∀ x ∈ ms, IsNest prog w h x.1 x.2 /\ Rm x.1) -> ∃ fs, KatTups h (ms.map λ x => Value.ref x.2) fs /\ fs.length = ms.length /\ ∀ v ∈ fs, ∃ (t : Str) (k : Tok), v = .str t k
 | [], _ => ⟨[], trivial, rfl, λ _ z => nomatch z⟩
 |
  x :: ms, H => by
  obtain ⟨fs, k, e, hv⟩ := U5 (ms := ms) λ y hy => H y (List.mem_cons_of_mem _ hy)
  obtain ⟨⟨o, its, n, ho, hc, hd, hi⟩, t, r, ex⟩ := H x (List.mem_cons_self ..)
  rw [ex] at hi
  generalize hl : its.toList = l at hi
  cases hi with
  |
   cons h1 h2 =>
   obtain ⟨tk, rfl⟩ := Value.isStrOf_shape (x := t) h1
   refine ⟨.str t tk :: fs, KatTups.cons ho hc hd (by rw [← Array.getElem?_toList, hl]; rfl) k, by rw [List.length_cons, List.length_cons, e], λ v hm => ?_⟩
   rcases List.mem_cons.mp hm with rfl | hm
   · exact ⟨_, _, rfl⟩
   · exact hv v hm
open Classical in
noncomputable def Qs (prog : Program) (w : World) (h : Heap) : Value -> List NK
 | .ref a => if x : ∃ ks, IsNest prog w h ks a then x.choose else []
 | _ => []
open Classical in
theorem Fh {h : Heap} {ks : List NK} {a : Addr} (x : IsNest prog w h ks a) : Qs prog w h (.ref a) = ks := by
 unfold Qs
 have y : ∃ ks, IsNest prog w h ks a := ⟨ks, x⟩
 show (if x : ∃ ks, IsNest prog w h ks a then x.choose else []) = ks
 rw [dif_pos y]
 exact y.choose_spec.inj x
theorem IsNest.kept {h h' : Heap} {ks : List NK} {a : Addr} (x : IsNest prog w h ks a) (kp : ∀ b o, h.get? b = some o -> h'.get? b = some o) : IsNest prog w h' ks a := by
 obtain ⟨o, its, n, ho, hc, hd, hi⟩ := x
 refine ⟨o, its, n, kp _ _ ho, hc, hd, ?_⟩
 generalize its.toList = vs at hi
 induction hi with
 | nil => exact .nil
 |
  @cons k v ks vs h1 _ ih =>
  refine .cons ?_ ih
  cases k with
  | inl k => exact h1
  | inr ks => obtain ⟨b, e, o, its, n, ho, r⟩ := h1; exact ⟨b, e, o, its, n, kp _ _ ho, r⟩
theorem O4 {h₀ : Heap} {ms : List (List NK × Addr)} (hu : A.units < cLine) (h1 : 1 <= ms.length) (kp : ∀ b o, h₀.get? b = some o -> s.heap.get? b = some o) (H : ∀ x ∈ ms, IsNest prog w h₀ x.1 x.2 /\ Rm x.1) (ok : ∀ x ∈ ms, ∀ y ∈ ms, okL x.1 y.1 = true) :
  SortsV prog w A s (tuples' true) (O := nkO) (Qs prog w h₀) (ms.map λ x => Value.ref x.2) where
 kind := λ E Q hq => by
  obtain ⟨fs, k, e, hv⟩ := U5 (h := s.heap) (ms := ms) λ x hx => ⟨(H x hx).1.kept kp, (H x hx).2⟩
  refine kat_kind (T := .type "str") k (by omega) (λ v hm => ?_) rfl hq
  obtain ⟨i, t, rfl⟩ := hv v hm
  exact W.Looks.now
 cmp := λ u hu' v hv C hC => by
  obtain ⟨x, hx, rfl⟩ := List.mem_map.mp hu'
  obtain ⟨y, hy, rfl⟩ := List.mem_map.mp hv
  have ax := H x hx
  have ay := H y hy
  have hC' : C (ltL (Qs prog w h₀ (.ref x.2)) (Qs prog w h₀ (.ref y.2))) s := hC
  rw [Fh ax.1, Fh ay.1] at hC'
  obtain ⟨o, its, n, ho, hc, hd, hi⟩ := ax.1.kept kp
  obtain ⟨o', its', n', ho', hc', hd', hi'⟩ := ay.1.kept kp
  refine kat_lt ho hd ho' hd' (Nf hu 0 hi hi' (ok x hx y hy) ?_ (λ _ => ?_) hC')
  · rw [hi.length, hi'.length, Array.length_toList, Array.length_toList]
  ·
   obtain ⟨t, r, e⟩ := ax.2
   obtain ⟨t', r', e'⟩ := ay.2
   exact ⟨t, r, t', r', e, e'⟩
end
section
variable {X : Cx}
end
end L2
namespace L2
open PySem PySem.Spec PySem.Calls PyProof.Rows
section
variable {X : Cx} {m : Str} {apos pos : Pos} {o : Expr} {ta : TE}
def ni (m : Str) (D : Addr -> (V -> List V -> Hp -> VK -> Prop) -> Prop) (ta : TE) : TE := λ σ H Q => ta σ H λ x H1 => ∃ a C dx fs R, x = .ref a /\ H1 a = some (.ins C dx fs) /\ fs.lookup m = none /\ D C R /\ R x [] H1 Q
theorem R7 {pl : Sem Bool} {D : Addr -> (V -> List V -> Hp -> VK -> Prop) -> Prop} (he : PE X o ta) (hD : ∀ C R, D C R -> Ans X m 0 C R)
  (ht : eval (.Call (.Attribute o m apos) [] [] pos) X.env = (do
   let ov ← eval o X.env
   standAt apos.atName
   let (f, first) ← holding [ov] (getMethod ov m pl)
   callWith pos f first (backTo pos (starEach [] X.env)) (backToKw pos (keywordEach [] X.env))) := by rfl) :
  PE X (.Call (.Attribute o m apos) [] [] pos) (ni m D ta) := by
 intro pins s σ H Q I h
 refine W.methodCall_KW (pl := pl) (thn (he pins s σ H _ I h) λ u s1 ⟨x, H1, I1, rx, a, C, dx, fs, R, ex, ea, l, d, q⟩ => ?_) ht
 subst ex
 obtain rfl : u = Value.ref a := rx
 obtain ⟨c, f, fd, ps, ds, dvs, CX, cm, k, sp, E, hm, F, hr, hb, hd, hx, hR⟩ := hD C R d
 refine O7 I1 ea c hm l ?_
 refine W.callWith_K0 (first := [.ref a]) (Inv.kIn (I1.tok _)) hm.kp ?_
 exact Yj (us := [.ref a]) (vs := [.ref a]) F hr hb hd hx (I1.tok _) (.cons rfl .nil) (hR _ _ _ _ rfl q)
end
def asV (o : Option (Option V)) (k : V -> Prop) : Prop := match o with | some (some v) => k v | _ => False
def asI (x : V) (k : Int -> Prop) : Prop := match x with | .int i => k i | _ => False
def asB (x : V) (k : Bool -> Prop) : Prop := match x with | .bl i => k i | _ => False
def asR (x : V) (k : Addr -> Prop) : Prop := match x with | .ref i => k i | _ => False
def asN (x : V) (k : Prop) : Prop := match x with | .non => k | _ => False
def as2 (xs : List V) (k : V -> V -> Prop) : Prop := match xs with | [x, y] => k x y | _ => False
def rn (j : Int) (k : Prop) : Prop := match j with | .ofNat (n + 1) => cond (Nat.ble (n + 1) 1073741823) k False | _ => False
def uf (j : Int) (k : Prop) : Prop := match j with | .ofNat (_ + 1) => k | _ => False
def tupQ (n : Nat) (k : Prop) : Prop := cond (Nat.ble n 1000) k False
def ux (vs : List V) (n : Nat) (k : Prop) : Prop := cond (Nat.beq vs.length n) k False
theorem jx {o : Option (Option V)} {k : V -> Prop} (h : asV o k) : ∃ v, o = some (some v) /\ k v := match o, h with | some (some v), h => ⟨v, rfl, h⟩ | some none, h => h.elim | none, h => h.elim
theorem Gf {x : V} {k : Int -> Prop} (h : asI x k) : ∃ i, x = .int i /\ k i := by cases x <;> first | exact ⟨_, rfl, h⟩ | exact h.elim
theorem Kn {x : V} {k : Bool -> Prop} (h : asB x k) : ∃ i, x = .bl i /\ k i := by cases x <;> first | exact ⟨_, rfl, h⟩ | exact h.elim
theorem Ox {x : V} {k : Addr -> Prop} (h : asR x k) : ∃ i, x = .ref i /\ k i := by cases x <;> first | exact ⟨_, rfl, h⟩ | exact h.elim
theorem d9 {x : V} {k : Prop} (h : asN x k) : x = .non /\ k := by cases x <;> first | exact ⟨rfl, h⟩ | exact h.elim
theorem fm {xs : List V} {k : V -> V -> Prop} (h : as2 xs k) : ∃ x y, xs = [x, y] /\ k x y := match xs, h with | [x, y], h => ⟨x, y, rfl, h⟩ | [], h => h.elim | [_], h => h.elim | _ :: _ :: _ :: _, h => h.elim
theorem cond_of {b : Bool} {k : Prop} (h : cond b k False) : b = true /\ k := by cases b with | true => exact ⟨rfl, h⟩ | false => exact h.elim
theorem i9 {j : Int} {k : Prop} (h : rn j k) : (0 < j /\ j < 1073741824) /\ k := by
 match j, h with
 |
  .ofNat (n + 1), h =>
  obtain ⟨e, q⟩ := cond_of h
  have := Nat.le_of_ble_eq_true e
  refine ⟨⟨?_, ?_⟩, q⟩ <;> simp only [Int.ofNat_eq_natCast] <;> omega
theorem iy {j : Int} {k : Prop} (h : uf j k) : 0 < j /\ k := by
 match j, h with
 | .ofNat (n + 1), h => exact ⟨by simp only [Int.ofNat_eq_natCast]; omega, h⟩
theorem Zw {n : Nat} {k : Prop} (h : tupQ n k) : n <= sizeLine /\ k := by
 obtain ⟨e, q⟩ := cond_of h
 exact ⟨Nat.le_trans (Nat.le_of_ble_eq_true e) (by decide), q⟩
theorem i6 {vs : List V} {n : Nat} {k : Prop} (h : ux vs n k) : vs.length = n /\ k := by
 obtain ⟨e, q⟩ := cond_of h
 exact ⟨Nat.eq_of_beq_eq_true e, q⟩
structure Br (b : Bool) (A B : Prop) : Prop where
 t : b = true -> A
 f : ¬ b = true -> B
theorem Br.of {b : Bool} {A B : Prop} (h : Br b A B) : if b = true then A else B := by cases b with | true => exact h.t rfl | false => exact h.f (by decide)
theorem x9 {A B : Prop} (h : A) : Br true A B := ⟨λ _ => h, λ e => absurd rfl e⟩
theorem xi {A B : Prop} (h : B) : Br false A B := ⟨λ e => (nomatch e), λ _ => h⟩
theorem wq {c A B : Prop} [Decidable c] (hc : c) (h : B) : Br (!decide c) A B := by rw [decide_eq_true hc]; exact xi h
theorem ya {b : Bool} {A B : Prop} (e : b = false) (h : B) : Br b A B := ⟨λ z => (nomatch e.symm.trans z), λ _ => h⟩
theorem yc {b : Bool} {A B : Prop} (e : b = true) (h : A) : Br b A B := ⟨λ _ => h, λ z => absurd e z⟩
theorem x6 {b : Bool} {A B : Prop} (h1 : b = true -> A) (h2 : ¬ b = true -> B) : Br b A B := ⟨h1, h2⟩
noncomputable def slot (σ : St) (i : Nat) : Option (Option V) := List.rec (motive := λ _ => Nat -> Option (Option V)) (λ _ => none) (λ a _ ih i => Nat.rec (some a) (λ j _ => ih j) i) σ i
theorem Xk : ∀ (σ : St) (i : Nat), slot σ i = σ[i]?
 | [], _ => rfl
 | _ :: _, 0 => rfl
 | _ :: σ, i + 1 => by rw [List.getElem?_cons_succ]; exact Xk σ i
noncomputable def uc (i : Nat) : TE := λ σ H Q => asV (slot σ i) λ v => Q v H
def rj : R2 := λ x y H Q => asI x λ i => asI y λ j => Q (.int (i + j)) H
def o9 : R2 := λ x y H Q => asI x λ i => asI y λ j => Q (.int (i - j)) H
def xt : R2 := λ x y H Q => asI x λ i => asI y λ j => Q (.bl (decide (i < j))) H
def vi : R2 := λ x y H Q => asI x λ i => asI y λ j => Q (.bl (decide (i <= j))) H
def vt : R2 := λ x y H Q => asI x λ i => asI y λ j => Q (.bl (decide (j < i))) H
def wj : R2 := λ x y H Q => asI x λ i => asI y λ j => Q (.bl (decide (j <= i))) H
def qe : R2 := λ x y H Q => asI x λ i => asI y λ j => uf j (Q (.int (i % j)) H)
def p6 : R2 := λ x y H Q => asI x λ i => asI y λ j => rn j (Q (.int (i / j)) H)
def rf : V -> Hp -> VK -> Prop := λ x H Q => asI x λ i => Q (.int (-i)) H
def wu : R2 := λ x y H Q => cond (oo x y) (Q (.bl (decide (x = y))) H) False
def wb : R2 := λ x y H Q => cond (oo x y) (Q (.bl (!decide (x = y))) H) False
def xp : R2 := λ x y H Q => asN y (Q (.bl (decide (x = .non))) H)
def wc : R2 := λ x y H Q => asN y (Q (.bl (!decide (x = .non))) H)
def ic (t : TE) : TT := λ σ H Q => t σ H λ x H' => asB x λ k => Q k H'
def pq (ta tb : TE) : TE := λ σ H Q => ta σ H λ x H1 => asB x λ c => Br c (tb σ H1 Q) (Q (.bl false) H1)
def xl (ta tb : TE) : TE := λ σ H Q => ta σ H λ x H1 => asB x λ c => Br c (Q (.bl true) H1) (tb σ H1 Q)
def qIf (t : TT) (ta tb : TE) : TE := λ σ H Q => t σ H λ c H1 => Br c (ta σ H1 Q) (tb σ H1 Q)
def wt (c : TT) (t u : TS) : TS := λ D σ H => c σ H λ b H1 => Br b (t D σ H1) (u D σ H1)
def xf (t u : TT) : TT := λ σ H Q => t σ H λ c H1 => Br c (u σ H1 Q) (Q false H1)
def qOr (t u : TT) : TT := λ σ H Q => t σ H λ c H1 => Br c (Q true H1) (u σ H1 Q)
def lz (c : TT) (tb : TS) : TS := λ D σ H => ∃ W : Nat -> St -> Hp -> Prop, (∃ m, W m σ H) /\ ∀ m σ H, W m σ H ->
 c σ H λ b H1 => Br b (∃ N : St -> Hp -> Prop, (∀ σ' H', N σ' H' -> ∃ m', m' < m /\ W m' σ' H') /\ tb { D with nx := N, ct := N, bk := D.nx } σ H1) (D.nx σ H1)
def fg (r r' : R2) (ta tb tc : TE) : TE := λ σ H Q => ta σ H λ x H1 => tb σ H1 λ y H2 => r x y H2 λ z H3 => asB z λ k => Br k (tc σ H3 λ w' H4 => r' y w' H4 Q) (Q (.bl false) H3)
def qj (ta : TE) : TE := λ σ H Q => ta σ H λ x H1 => asB x λ c => Q (.bl (!c)) H1
def xg (t : TA) : TE := λ σ H Q => t σ H λ xs H1 => tupQ xs.length (∀ p, H1 p = none -> Q (.ref p) (upd H1 p (.tup xs)))
def wk (t : TA) : TE := λ σ H Q => t σ H λ xs H1 => tupQ xs.length (∀ p, H1 p = none -> Q (.ref p) (upd H1 p (.lst xs)))
def qo : List V -> Hp -> VK -> Prop := λ xs H Q => as2 xs λ x y => asI x λ i => asI y λ j => Q (.int (if j > i then j else i)) H
def qr : List V -> Hp -> VK -> Prop := λ xs H Q => as2 xs λ x y => asI x λ i => asI y λ j => Q (.int (if j < i then j else i)) H
inductive IxT (K : W.Frag) (H : Hp) (p : Addr) (i : Int) (k : V -> Prop) : Prop where
 | mk {xs : List V} {v : V} (h : SqT K H p xs) (e : atI xs i = some v) (q : k v) : IxT K H p i k
inductive IxL (K : W.Frag) (H : Hp) (p : Addr) (i : Int) (k : V -> Prop) : Prop where
 | mk {xs : List V} {v : V} (h : SqL K H p xs) (e : atI xs i = some v) (q : k v) : IxL K H p i k
def rQT (K : W.Frag) : R2 := λ x y H Q => asR x λ p => asI y λ i => IxT K H p i λ v => Q v H
def rQL (K : W.Frag) : R2 := λ x y H Q => asR x λ p => asI y λ i => IxL K H p i λ v => Q v H
inductive FdQ (K : W.Frag) (H : Hp) (a : Addr) (f : Str) (k : V -> Prop) : Prop where
 | mk {C dx : Addr} {fs : List (Str × V)} {v : V} (h : H a = some (.ins C dx fs)) (c : Cls K C) (n : NoAttr K C f) (e : fs.lookup f = some v) (q : k v) : FdQ K H a f k
def tu (K : W.Frag) (ta : TE) (f : Str) : TE := λ σ H Q => ta σ H λ x H1 => asR x λ a => FdQ K H1 a f λ v => Q v H1
def oh (f : Str) (v : V) : List (Str × V) -> List (Str × V)
 | [] => [(f, v)]
 | (g, x) :: r => cond (g == f) ((g, v) :: r) ((g, x) :: oh f v r)
theorem Yw (f : Str) (v : V) : ∀ fs : List (Str × V), oh f v fs = La f v fs
 | [] => rfl
 |
  (g, x) :: r => by
  show cond (g == f) ((g, v) :: r) ((g, x) :: oh f v r) = if g = f then (g, v) :: r else (g, x) :: La f v r
  rw [Yw f v r]
  by_cases h : g = f
  · rw [if_pos h, show (g == f) = true by rw [beq_iff_eq]; exact h]; rfl
  · rw [if_neg h, show (g == f) = false by rw [beq_eq_false_iff_ne]; exact h]; rfl
def shQ (n : Nat) (k : Prop) : Prop := cond (Nat.ble n 999) k False
theorem lq {n : Nat} {k : Prop} (h : shQ n k) : n < 1000 /\ k := by
 obtain ⟨e, q⟩ := cond_of h
 exact ⟨Nat.lt_succ_of_le (Nat.le_of_ble_eq_true e), q⟩
inductive SfQ (K : W.Frag) (H : Hp) (a : Addr) (f : Str) (y : V) (k : Hp -> Prop) : Prop where
 | mk {C dx : Addr} {fs : List (Str × V)} (h : H a = some (.ins C dx fs)) (c : Cls K C) (n : NoAttr K C f) (q : shQ fs.length (k (upd H a (.ins C dx (oh f y fs))))) : SfQ K H a f y k
def o8 (K : W.Frag) (ta tv : TE) (f : Str) : TS := λ D σ H => tv σ H λ y H1 => ta σ H1 λ x H2 => asR x λ a => SfQ K H2 a f y (D.nx σ)
inductive MtQ (H : Hp) (a : Addr) (m : Str) (D : Addr -> (V -> List V -> Hp -> VK -> Prop) -> Prop) (k : (V -> List V -> Hp -> VK -> Prop) -> Prop) : Prop where
 | mk {C dx : Addr} {fs : List (Str × V)} {R : V -> List V -> Hp -> VK -> Prop} (h : H a = some (.ins C dx fs)) (e : fs.lookup m = none) (d : D C R) (q : k R) : MtQ H a m D k
def kj (m : Str) (n : Nat) (D : Addr -> (V -> List V -> Hp -> VK -> Prop) -> Prop) (ta : TE) (t : TA) : TE := λ σ H Q => ta σ H λ x H1 => asR x λ a => MtQ H1 a m D λ R => t σ H1 λ vs H2 => ux vs n (R x vs H2 Q)
def kq (m : Str) (D : Addr -> (V -> List V -> Hp -> VK -> Prop) -> Prop) (ta : TE) : TE := λ σ H Q => ta σ H λ x H1 => asR x λ a => MtQ H1 a m D λ R => R x [] H1 Q
section
variable {X : Cx} {a b c e : Expr} {ta tb tc te : TE} {pos : Pos}
theorem OpR.mono {f : Value -> Value -> Sem Value} {r r' : R2} (h : OpR X f r) (m : ∀ x y H Q, r' x y H Q -> r x y H Q) : OpR X f r' := λ p s σ H x y v u Q I rx ry q => h p s σ H x y v u Q I rx ry (m x y H Q q)
theorem PE.mono {t t' : TE} (h : PE X e t) (m : ∀ σ H Q, t' σ H Q -> t σ H Q) : PE X e t' := λ p s σ H Q I q => h p s σ H Q I (m σ H Q q)
theorem PT.mono {t t' : TT} (h : PT X e t) (m : ∀ σ H Q, t' σ H Q -> t σ H Q) : PT X e t' := λ p s σ H Q I q => h p s σ H Q I (m σ H Q q)
theorem jv {f : Value -> Value -> Sem Value} {g : Int -> Int -> V} (h : OpR X f (rI0 g)) : OpR X f (λ x y H Q => asI x λ i => asI y λ j => Q (g i j) H) := h.mono λ x y H Q q => by
 obtain ⟨i, rfl, q1⟩ := Gf q
 obtain ⟨j, rfl, q2⟩ := Gf q1
 exact ⟨i, j, rfl, rfl, q2⟩
theorem xr {f : Value -> Value -> Sem Value} {C : Int -> Int -> Prop} {g : Int -> Int -> V} (h : OpR X f (rI C g)) (hc : ∀ i j : Int, 0 < j -> j < 1073741824 -> C i j) : OpR X f (λ x y H Q => asI x λ i => asI y λ j => rn j (Q (g i j) H)) := h.mono λ x y H Q q => by
 obtain ⟨i, rfl, q1⟩ := Gf q
 obtain ⟨j, rfl, q2⟩ := Gf q1
 obtain ⟨⟨l, u⟩, q⟩ := i9 q2
 exact ⟨i, j, rfl, rfl, hc i j l u, q⟩
theorem uw : OpR X (binaryOp .Add) rj := jv Cr
theorem um : OpR X (binaryOp .Sub) o9 := jv Om
theorem x4 : OpR X (compareOp .Lt) xt := jv Tq
theorem xx : OpR X (compareOp .LtE) vi := jv qy
theorem wm : OpR X (compareOp .Gt) vt := jv Ts
theorem xq : OpR X (compareOp .GtE) wj := jv lj
theorem t8 : OpR X (binaryOp .Mod) qe := En.mono λ x y H Q q => by
 obtain ⟨i, rfl, q1⟩ := Gf q
 obtain ⟨j, rfl, q2⟩ := Gf q1
 exact ⟨i, j, rfl, rfl, iy q2⟩
theorem pj : OpR X (binaryOp .FloorDiv) p6 := xr Hz λ _ _ h g => ⟨h, g⟩
theorem xb : OpR X (compareOp .Eq) wu := Cg.mono λ _ _ _ _ q => cond_of q
theorem xk : OpR X (compareOp .NotEq) wb := Pf.mono λ _ _ _ _ q => cond_of q
theorem ue : OpR X (compareOp .Is) xp := Rh.mono λ _ _ _ _ q => d9 q
theorem sk : OpR X (compareOp .IsNot) wc := Yx.mono λ _ _ _ _ q => d9 q
theorem vd : UnR X (unaryOp .USub) rf := λ p s σ H x v Q I rx q => Yc p s σ H x v Q I rx (Gf q)
theorem qv (i : Nat) {x : Str} {pos : Pos} (hN : X.N[i]? = some x := by rfl) (hv : Vis X.env.scope x := by first | exact Or.inl rfl | exact Or.inr (Or.inl rfl) | exact Or.inr (Or.inr rfl)) (hd : (x == ("__debug__" : Str)) = false := by decide)
 (hcd : (x == ("__classdict__" : Str)) = false := by decide) : PE X (.Name x pos) (uc i) := (d3 hN hv hd hcd).mono λ σ _ _ q => by rw [uc, Xk] at q; exact jx q
def clo (t : TE) : TE := λ σ H Q => ∃ R, t σ H R /\ ∀ x H1, R x H1 -> Q x H1
def wz (t : TA) : TA := λ σ H Q => ∃ R, t σ H R /\ ∀ x H1, R x H1 -> Q x H1
theorem PE.clo {t : TE} (h : PE X e t) : PE X e (clo t) := λ p s σ H _ I ⟨R, q, m⟩ => thn (h p s σ H R I q) λ _ _ ⟨v, H1, I1, r, q⟩ => ⟨v, H1, I1, r, m v H1 q⟩
theorem PA.clo {es : List Expr} {t : TA} (h : PA X es t) : PA X es (wz t) := λ o p s σ H _ I ⟨R, q, m⟩ => thn (h o p s σ H R I q) λ _ _ ⟨v, H1, I1, r, q⟩ => ⟨v, H1, I1, r, m v H1 q⟩
theorem OpR.clo {f : Value -> Value -> Sem Value} {r : R2} (h : OpR X f r) : OpR X f (λ x y H Q => ∃ R, r x y H R /\ ∀ x H1, R x H1 -> Q x H1) := λ p s σ H x y v u _ I rx ry ⟨R, q, m⟩ => thn (h p s σ H x y v u R I rx ry q) λ _ _ ⟨v, H1, I1, r, q⟩ => ⟨v, H1, I1, r, m v H1 q⟩
def xm (t : TT) : TT := λ σ H Q => ∃ R, t σ H R /\ ∀ x H1, R x H1 -> Q x H1
theorem PT.clo {t : TT} (h : PT X e t) : PT X e (xm t) := λ p s σ H _ I ⟨R, q, m⟩ => thn (h p s σ H R I q) λ _ _ ⟨H1, I1, q⟩ => ⟨H1, I1, m _ H1 q⟩
theorem sf {op : CmpOp} {r : R2} (ho : OpR X (compareOp op) r) (ha : PE X a ta) (hb : PE X b tb) (hm : behindInMarks op b = false) : PT X (.Compare a [op] [b] pos) (ic (tOp r ta tb)) :=
 (Am ho.clo ha.clo hb.clo hm).mono λ _ _ _ q => ⟨_, q, λ _ _ q => ⟨_, q, λ _ _ q => ⟨_, q, λ _ _ q => Kn q⟩⟩⟩
theorem vb {t : TE} (h : PE X e t) (he : ∀ whole, isTrue e X.env whole = (do let v ← whole; standAt e.pos; holding [v] (truthy v)) := by intro _; rfl) : PT X e (ic t) :=
 (De h.clo he).mono λ _ _ _ q => ⟨_, q, λ _ _ q => Kn q⟩
variable {rest es : List Expr} {t : TA} {K : W.Frag} {f m : Str} {o value : Expr} {tv : TE} {pos' apos : Pos}
theorem uj (ha : PE X a ta) (hb : PE X (.BoolOp .And (b :: rest) pos) tb) : PE X (.BoolOp .And (a :: b :: rest) pos) (pq ta tb) := (Ew ha.clo hb).mono λ _ _ _ q => ⟨_, q, λ _ _ q => (Kn q).elim λ c q => ⟨c, q.1, q.2.of⟩⟩
theorem vv (ha : PE X a ta) (hb : PE X (.BoolOp .Or (b :: rest) pos) tb) : PE X (.BoolOp .Or (a :: b :: rest) pos) (xl ta tb) := (Ze ha.clo hb).mono λ _ _ _ q => ⟨_, q, λ _ _ q => (Kn q).elim λ c q => ⟨c, q.1, q.2.of⟩⟩
theorem uu {tA tB' : TT} (ha : PT X a tA) (hb : PW X (.BoolOp .And (b :: rest) pos) tB') : PW X (.BoolOp .And (a :: b :: rest) pos) (xf tA tB') := λ wh p s σ H Q I q => Il ha.clo hb wh p s σ H Q I ⟨_, q, λ _ _ q => q.of⟩
theorem x3 {tA tB' : TT} (ha : PT X a tA) (hb : PW X (.BoolOp .Or (b :: rest) pos) tB') : PW X (.BoolOp .Or (a :: b :: rest) pos) (qOr tA tB') := λ wh p s σ H Q I q => Js ha.clo hb wh p s σ H Q I ⟨_, q, λ _ _ q => q.of⟩
theorem o6 {tA : TT} (hc : PT X c tA) (ha : PE X a ta) (hb : PE X b tb) : PE X (.IfExp c a b pos) (qIf tA ta tb) := (U7 hc.clo ha hb).mono λ _ _ _ q => ⟨_, q, λ _ _ q => q.of⟩
theorem vx {sa sb : List Stmt} {tc : TT} {t u : TS} (hc : PT X c tc) (ha : PSs X sa t) (hb : PSs X sb u) : PS X (.If c sa sb pos) (wt tc t u) := λ p s σ H D I q => Bv hc.clo ha hb p s σ H D I ⟨_, q, λ _ _ q => q.of⟩
theorem ow {body : List Stmt} {tc : TT} {tb : TS} (hp : PassesOwn (model X.prog X.w) X.A X.env X.xe) (hc : PT X c tc) (hb : PSs X body tb) : PS X (.While c body [] pos) (lz tc tb) := λ p s σ H D I ⟨W, w, q⟩ => cf hp hc.clo hb p s σ H D I ⟨W, w, λ m σ H w => ⟨_, q m σ H w, λ _ _ q => q.of⟩⟩
theorem oz {op op' : CmpOp} {r r' : R2} (ho : OpR X (compareOp op) r) (ho' : OpR X (compareOp op') r') (ha : PE X a ta) (hb : PE X b tb) (hc : PE X c tc)
  (hm : lastMarks [op, op'] [b, c] = false := by with_unfolding_all rfl) : PE X (.Compare a [op, op'] [b, c] pos) (fg r r' ta tb tc) :=
 (Z5 ho.clo ho'.clo ha.clo hb.clo hc.clo hm).mono λ _ _ _ q => ⟨_, q, λ _ _ q => ⟨_, q, λ _ _ q => ⟨_, q, λ _ _ q => (Kn q).elim λ c q => ⟨c, q.1, by
  have := q.2.of
  cases c with
  | true => exact ⟨_, this, λ _ _ q => ⟨_, q, λ _ _ q => q⟩⟩
  | false => exact this⟩⟩⟩⟩
theorem om {op op' : CmpOp} {r r' : R2} (ho : OpR X (compareOp op) r) (ho' : OpR X (compareOp op') r') (ha : PE X a ta) (hb : PE X b tb) (hc : PE X c tc)
  (hm : lastMarks [op, op'] [b, c] = false := by with_unfolding_all rfl) : PT X (.Compare a [op, op'] [b, c] pos) (ic (fg r r' ta tb tc)) :=
 (aa ho.clo ho'.clo ha.clo hb.clo hc.clo hm).mono λ _ _ _ q => ⟨_, q, λ _ _ q => ⟨_, q, λ _ _ q => ⟨_, q, λ _ _ q => (Kn q).elim λ c q => ⟨c, q.1, by
  have := q.2.of
  cases c with
  | true => exact ⟨_, this, λ _ _ q => ⟨_, q, λ _ _ q => Kn q⟩⟩
  | false => exact Kn this⟩⟩⟩⟩
theorem uz (ha : PE X a ta) : PE X (.UnaryOp .Not a pos) (qj ta) := (Yq ha.clo).mono λ _ _ _ q => ⟨_, q, λ _ _ q => Kn q⟩
theorem ud {x1} (h : PA X es t) : PE X (.Tuple es x1 pos) (xg t) := (Bp h.clo).mono λ _ _ _ q => ⟨_, q, λ _ _ q => Zw q⟩
theorem uh (h : PA X es t) : PE X (.List es pos) (wk t) := (F1 h.clo).mono λ _ _ _ q => ⟨_, q, λ _ _ q => Zw q⟩
theorem sq (hc : X.calm = true) : CallR X (.builtin "max") qo := λ p s σ H xs us Q I r q => Xy hc p s σ H xs us Q I r (by
 obtain ⟨x, y, rfl, q0⟩ := fm q
 obtain ⟨i, rfl, q1⟩ := Gf q0
 obtain ⟨j, rfl, q2⟩ := Gf q1
 exact ⟨i, j, rfl, q2⟩)
theorem p9 (hc : X.calm = true) : CallR X (.builtin "min") qr := λ p s σ H xs us Q I r q => Mp hc p s σ H xs us Q I r (by
 obtain ⟨x, y, rfl, q0⟩ := fm q
 obtain ⟨i, rfl, q1⟩ := Gf q0
 obtain ⟨j, rfl, q2⟩ := Gf q1
 exact ⟨i, j, rfl, q2⟩)
theorem IxR.mono {r r' : R2} (h : IxR X r) (m : ∀ x y H Q, r' x y H Q -> r x y H Q) : IxR X r' := λ a b p s σ H x y v u Q I rx ry q => h a b p s σ H x y v u Q I rx ry (m x y H Q q)
theorem jz (hK : X.K = K) : IxR X (rQT K) := (Ah hK).mono λ x y H Q q => by
 obtain ⟨p, rfl, q0⟩ := Ox q
 obtain ⟨i, rfl, h, e, q⟩ := Gf q0
 exact ⟨p, _, i, _, rfl, rfl, h, e, q⟩
theorem gw (hK : X.K = K) : IxR X (rQL K) := (By hK).mono λ x y H Q q => by
 obtain ⟨p, rfl, q0⟩ := Ox q
 obtain ⟨i, rfl, h, e, q⟩ := Gf q0
 exact ⟨p, _, i, _, rfl, rfl, h, e, q⟩
theorem kc (hK : X.K = K) (he : PE X e ta) (hb : attributeBase e f X.env (eval e X.env) = eval e X.env := by rfl) : PE X (.Attribute e f pos) (tu K ta f) := (Ie hK he.clo hb).mono λ _ _ _ q => ⟨_, q, λ _ _ q => by
 obtain ⟨p, rfl, h, c, n, e, q⟩ := Ox q
 exact ⟨p, _, _, _, _, rfl, h, c, n, e, q⟩⟩
theorem uy (hK : X.K = K) (ha : PE X o ta) (hv : PE X value tv) (hs : swapsWith value (some (.Attribute o f pos')) pos.line X.env = pure false := by rfl) : PS X (.Assign [.Attribute o f pos'] value pos) (o8 K ta tv f) :=
 λ p s σ H D I q => P6 hK ha.clo hv.clo hs p s σ H D I ⟨_, q, λ _ _ q => ⟨_, q, λ _ _ q => by
  obtain ⟨p, rfl, h, c, n, q⟩ := Ox q
  obtain ⟨l, q⟩ := lq q
  rw [Yw] at q
  exact ⟨p, _, _, _, rfl, h, c, n, l, q⟩⟩⟩
theorem ou {pl : Sem Bool} {n : Nat} {D : Addr -> (V -> List V -> Hp -> VK -> Prop) -> Prop} (he : PE X o ta) (hD : ∀ C R, D C R -> Ans X m n C R) (ha : PA X (e :: es) t)
  (hst : starEach (e :: es) X.env = (false, eval e X.env) :: starEach es X.env := by rfl) (hpl : (backTo pos (starEach es X.env)).any (·.1) = false := by rfl)
  (ht : eval (.Call (.Attribute o m apos) (e :: es) [] pos) X.env = (do
   let ov ← eval o X.env
   standAt apos.atName
   let (f, first) ← holding [ov] (getMethod ov m pl)
   callWith pos f first (backTo pos (starEach (e :: es) X.env)) (backToKw pos (keywordEach [] X.env))) := by rfl) :
  PE X (.Call (.Attribute o m apos) (e :: es) [] pos) (kj m n D ta t) := (L3 he.clo hD ha.clo hst hpl ht).mono λ _ _ _ q => ⟨_, q, λ _ _ q => by
 obtain ⟨p, rfl, h, e, d, q⟩ := Ox q
 exact ⟨p, _, _, _, _, rfl, h, e, d, _, q, λ _ _ q => i6 q⟩⟩
theorem ko {pl : Sem Bool} {D : Addr -> (V -> List V -> Hp -> VK -> Prop) -> Prop} (he : PE X o ta) (hD : ∀ C R, D C R -> Ans X m 0 C R)
  (ht : eval (.Call (.Attribute o m apos) [] [] pos) X.env = (do
   let ov ← eval o X.env
   standAt apos.atName
   let (f, first) ← holding [ov] (getMethod ov m pl)
   callWith pos f first (backTo pos (starEach [] X.env)) (backToKw pos (keywordEach [] X.env))) := by rfl) :
  PE X (.Call (.Attribute o m apos) [] [] pos) (kq m D ta) := (R7 he.clo hD ht).mono λ _ _ _ q => ⟨_, q, λ _ _ q => by
 obtain ⟨p, rfl, h, e, d, q⟩ := Ox q
 exact ⟨p, _, _, _, _, rfl, h, e, d, q⟩⟩
end
section
variable {X : Cx} {K : W.Frag} {a b e value : Expr} {es : List Expr} {ta tb tv te : TE} {t : TA} {pos p pos' : Pos} {x f' : Str}
theorem qc {j k : Nat} {f : Addr} {fd : FuncData} {ps : List Str} {sp : Sp} {x1 x2 : Str} {st : Stmt} (F : FnOk X.prog X.w X.K X.mg X.base CX0 true j f fd ps sp) (hr : Room true k X.A) (hm : X.mg x = some (.ref f)) (G : Fun X.K x1 x2 st f fd) (hb : Binds X.K fd ps []) (ha : PA X (e :: es) t)
 (hj : j <= k := by first | decide | lia) (hg : Gl X x := by rfl) (hdb : (x == ("__debug__" : Str)) = false := by decide) (he : starEach (e :: es) X.env = (false, eval e X.env) :: starEach es X.env := by rfl) (hpl : (backTo pos (starEach es X.env)).any (·.1) = false := by rfl) :
 PE X (.Call (.Name x p) (e :: es) [] pos) (n6 sp [] E0 t) := Ak (F.mono hj) hr hg hm G.kp hb .nil Bd ha hdb he hpl
theorem yb (i : Nat) (hN : X.N.Nodup) (he : PE X e te) (hi : X.N[i]? = some x := by rfl) (hx : Loc X.env.scope x := by first | exact .inl rfl | exact .inr rfl) (hs : swapsWith e (some (.Name x pos')) pos.line X.env = pure false := by rfl)
 (hf : X.fn x = true ∨ X.env.scope.names.lookup x = some .local := by first | exact .inl rfl | exact .inr rfl | assumption) : PS X (.Assign [.Name x pos'] e pos) (qk te (Nt i)) := A9 hN hi hx he hs hf
theorem qnm (i : Nat) (hN : X.N.Nodup) (hi : X.N[i]? = some x := by rfl) (hx : Loc X.env.scope x := by first | exact .inl rfl | exact .inr rfl)
 (hf : X.fn x = true ∨ X.env.scope.names.lookup x = some .local := by first | exact .inl rfl | exact .inr rfl | assumption) : PG X (.Name x pos) (Nt i) := Bh hN hi hx hf
theorem qsc {N P : List Str} {s : Scope} (h1 : s.kind = .function := by rfl) (h2 : s.isCoroutine = false := by rfl) (h3 : s.isGenerator = false := by rfl) (h4 : N.Nodup := by decide +kernel) (h5 : N.take P.length = P := by rfl)
 (h6 : ∀ x ∈ P, s.names.lookup x = some .local ∨ s.names.lookup x = some .cell := by decide +kernel) (h7 : ∀ y ∈ s.names, y.2 ≠ .free := by decide +kernel) : Ax N P s := ⟨h1, h2, h3, h4, h5, h6, h7⟩
theorem qix (K) (ha : PE X a ta) (hb : PE X b tb) (hK : X.K = K := by rfl) (hs : Tr b := by exact λ _ _ => rfl) : PE X (.Subscript a b pos) (tOp (rQT K) ta tb) := Ap (jz hK) ha hb hs
theorem qil (K) (ha : PE X a ta) (hb : PE X b tb) (hK : X.K = K := by rfl) (hs : Tr b := by exact λ _ _ => rfl) : PE X (.Subscript a b pos) (tOp (rQL K) ta tb) := Ap (gw hK) ha hb hs
theorem qf (K) (he : PE X e te) (hK : X.K = K := by rfl) (hb : attributeBase e f' X.env (eval e X.env) = eval e X.env := by rfl) : PE X (.Attribute e f' pos) (tu K te f') := kc hK he hb
end
theorem Fun.go {P : Program} {w : World} {K : W.Frag} {mg : Str -> Option Value} {base : Heap} {cm : Bool} {x qual : Str} {st : Stmt} {f : Addr} {fd : FuncData} {N ps : List Str} {k : Nat} {sp : Sp} (F : Fun K x qual st f fd) (S : Ax N ps (Ac st))
 (hbody : ∀ (cdv : Value) (A : Around) (outer : List Env) (s : Shared) (H : Hp) (vs : List V) (Q : VK) (E : XK), Room cm k (A.deeper (envOfC qual (Ac st) s.heap.objs.size f cdv)) -> sp vs H Q E ->
  ∃ t, PSs (c9 CX0 cm P w K mg base N qual (Ac st) f cdv A outer s H E).nox (Av st) t /\ t { nx := λ _ H' => Q .non H', rt := λ _ => Q } (start N vs) H)
 (len : ∀ vs H Q E, sp vs H Q E -> vs.length = ps.length := by intro vs H Q E h; (repeat (first | (obtain ⟨e, _⟩ := h; subst e; rfl) | obtain ⟨_, h⟩ := h))) : FnOk P w K mg base CX0 cm (k + 1) f fd ps sp := F.ok S len hbody
theorem FunD.go {P : Program} {w : World} {K : W.Frag} {mg : Str -> Option Value} {base : Heap} {cm : Bool} {x qual : Str} {st : Stmt} {f : Addr} {fd : FuncData} {N ps : List Str} {k : Nat} {sp : Sp} (F : FunD K x qual st f fd) (S : Ax N ps (Ac st))
 (hbody : ∀ (cdv : Value) (A : Around) (outer : List Env) (s : Shared) (H : Hp) (vs : List V) (Q : VK) (E : XK), Room cm k (A.deeper (envOfC qual (Ac st) s.heap.objs.size f cdv)) -> sp vs H Q E ->
  ∃ t, PSs (c9 CX0 cm P w K mg base N qual (Ac st) f cdv A outer s H E).nox (Av st) t /\ t { nx := λ _ H' => Q .non H', rt := λ _ => Q } (start N vs) H)
 (len : ∀ vs H Q E, sp vs H Q E -> vs.length = ps.length := by intro vs H Q E h; (repeat (first | (obtain ⟨e, _⟩ := h; subst e; rfl) | obtain ⟨_, h⟩ := h))) : FnOk P w K mg base CX0 cm (k + 1) f fd ps sp := F.ok S len hbody
section
variable {X : Cx} {e : Expr} {es : List Expr} {t : TA} {pos p : Pos} {x m : Str} {n j k : Nat} {cm : Bool} {C f : Addr} {fd : FuncData} {ps : List Str} {sp : Sp}
theorem qan (c : Cls X.K C) (hm : Meth X.K C m f) (F : FnOk X.prog X.w X.K X.mg X.base CX0 cm k f fd ps sp) (hr : Room cm k X.A) (hb : Binds X.K fd ps []) : Ans X m n C (λ x vs H Q => sp (x :: (vs ++ [])) H Q E0) :=
 ⟨c, _, _, _, _, _, _, _, _, _, _, hm, F, hr, hb, .nil, Bd, λ _ _ _ _ _ h => h⟩
theorem qb {id : String} {r : List V -> Hp -> VK -> Prop} (hc : CallR X (.builtin id) r) (hm : X.mg x = none) (ha : PA X (e :: es) t) (hg : Gl X x := by rfl) (hv : bootBuiltins x = some (.builtin id) := by decide +kernel) (hn : x ≠ "__name__" := by decide) (hdb : (x == ("__debug__" : Str)) = false := by decide)
 (he : starEach (e :: es) X.env = (false, eval e X.env) :: starEach es X.env := by rfl) (hpl : (backTo pos (starEach es X.env)).any (·.1) = false := by rfl) : PE X (.Call (.Name x p) (e :: es) [] pos) (tCB r t) := Aj hc hg hm hv ha hn hdb he hpl
theorem qty {T : String} {r : List V -> Hp -> VK -> Prop} (hc : CallR X (.type T) r) (hm : X.mg x = none) (ha : PA X (e :: es) t) (hg : Gl X x := by rfl) (hv : bootBuiltins x = some (.type T) := by decide +kernel) (hn : x ≠ "__name__" := by decide) (hdb : (x == ("__debug__" : Str)) = false := by decide)
 (he : starEach (e :: es) X.env = (false, eval e X.env) :: starEach es X.env := by rfl) (hpl : (backTo pos (starEach es X.env)).any (·.1) = false := by rfl) : PE X (.Call (.Name x p) (e :: es) [] pos) (tCB r t) := Df hc hg hm hv ha hn hdb he hpl
theorem qm (M : Mk X.K C f) (F : FnOk X.prog X.w X.K X.mg X.base CX0 true j f fd ps sp) (hr : Room true (k + 1) X.A) (hm : X.mg x = some (.ref C)) (hb : Binds X.K fd ps []) (ha : PA X (e :: es) t) (hj : j <= k := by first | decide | lia) (hg : Gl X x := by rfl)
 (hdb : (x == ("__debug__" : Str)) = false := by decide) (he : starEach (e :: es) X.env = (false, eval e X.env) :: starEach es X.env := by rfl) (hpl : (backTo pos (starEach es X.env)).any (·.1) = false := by rfl) :
 PE X (.Call (.Name x p) (e :: es) [] pos) (jk C sp [] E0 t) := ja M (F.mono hj) hr hg hm hb .nil Bd ha hdb he hpl
end
end L2
namespace L2
open PySem PySem.Spec PyProof.Rows PySem.SeqAt
def GtV (X : Cx) (H : Hp) (v v' : V) (b : Bool) : Prop := ∀ (pins : List (Addr × Obj)) (s : Shared) (σ : St) (u u' : Value), Inv X pins σ H s -> RelV v u -> RelV v' u' -> CmpAt .Gt X.A.in1 s u u' b
section
variable {X : Cx} {cm : Bool} {k : Nat} {f : Addr} {fd : FuncData} {pn x fx : Str} {sp : Sp} {e : Expr} {te : TE} {p p2 kpos pos : Pos}
def il (X : Cx) (sp : Sp) (te : TE) : TE := λ σ H Q => te σ H λ v H1 => ∃ (l : Addr) (y : V) (ys : List V) (G : V -> Hp -> V -> Prop) (gt : V -> V -> Bool), v = .ref l /\ H1 l = some (.lst (y :: ys)) /\
 (∀ z ∈ y :: ys, ∀ H', Same H1 H' -> sp [z] H' (λ w H2 => Same H' H2 /\ G z H2 w) E0) /\ (∀ z H1 H2 w, Same H1 H2 -> G z H1 w -> G z H2 w) /\
 (∀ z ∈ y :: ys, ∀ z' ∈ y :: ys, ∀ H' w w', Same H1 H' -> G z H' w -> G z' H' w' -> GtV X H' w w' (gt z z')) /\ ∀ H', Same H1 H' -> Q (Ga gt y ys) H'
def tm (X : Cx) (sp : Sp) (Q : VK) (v : V) (H1 : Hp) : Prop := ∃ (l : Addr) (y : V) (ys : List V) (G : V -> Hp -> V -> Prop) (gt : V -> V -> Bool), v = .ref l /\ H1 l = some (.lst (y :: ys)) /\
 (∀ z ∈ y :: ys, ∀ H', Same H1 H' -> sp [z] H' (λ w H2 => Same H' H2 /\ G z H2 w) E0) /\ (∀ z H1 H2 w, Same H1 H2 -> G z H1 w -> G z H2 w) /\
 (∀ z ∈ y :: ys, ∀ z' ∈ y :: ys, ∀ H' w w', Same H1 H' -> G z H' w -> G z' H' w' -> GtV X H' w w' (gt z z')) /\ ∀ H', Same H1 H' -> Q (Ga gt y ys) H'
def qq (P : V -> Hp -> Prop) : List V -> Hp -> Prop
 | [v], H => P v H
 | _, _ => False
theorem Xg (hc : X.calm = true) (F : FnOk X.prog X.w X.K X.mg X.base CX0 cm k f fd [pn] sp) (hr : Room cm (k + 1) X.A) (hb : Binds X.K fd [pn] []) (hg : Gl X "max") (hm : X.mg "max" = none) (hgf : Gl X fx) (hmf : X.mg fx = some (.ref f)) (he : PE X e te)
  (hdb : (fx == ("__debug__" : Str)) = false := by decide)
  (hst : starEach [e] X.env = (false, eval e X.env) :: starEach [] X.env := by rfl)
  (hall : (backToKw pos (keywordEach [⟨some "key", .Name fx p2, kpos⟩] X.env)).all (·.1.isSome) = true := by rfl) (hks : (backToKw pos (keywordEach [⟨some "key", .Name fx p2, kpos⟩] X.env)).filterMap (·.1) = [Str.ofString "key"] := by rfl)
  (hpl : ((backTo pos (starEach [e] X.env)).any (·.1) || (backToKw pos (keywordEach [⟨some "key", .Name fx p2, kpos⟩] X.env)).any (·.1.isNone)) = false := by rfl) : PE X (.Call (.Name "max" p) [e] [⟨some "key", .Name fx p2, kpos⟩] pos) (il X sp te) := by
 intro pins s σ H Q I h
 refine wpAny_Call_Name_kw (Oe I hg hm boot_max ?_)
 have ha : PA X [e] (bc te mf) := Aa he Ad hst
 have hf : PE X (.Name fx p2) (λ σ H Q => Q (.ref f) H) := λ pins s σ H Q I h => Md I hgf hmf ⟨.ref f, H, I, rfl, h⟩ hdb
 have hkw : PK X [⟨some "key", .Name fx p2, kpos⟩] (bc (λ σ H Q => Q (.ref f) H) mf) := jc hf j4
 refine W.callWith_of (P := λ _ => True) hpl (λ h _ => ⟨.machine, .inr (.inl rfl), W.Looks.now⟩) (evalArgs_kw2 hall (thn (ha pos pins s σ H (qq (tm X sp Q)) I h) λ us s1 ⟨vs, H1, I1, r, q⟩ => ?_) hst)
 match vs, q with
 |
  [v], q =>
  refine thn (hkw pos pins s1 σ H1 (λ zs H2 => zs = [V.ref f] /\ tm X sp Q v H2) I1 ⟨rfl, q⟩) λ ws s2 ⟨zs, H2, I2, rz, ez, q2⟩ => ⟨True.intro, ?_⟩
  subst ez
  obtain ⟨u, rfl, ru⟩ := vals1 r
  obtain ⟨w, rfl, rw⟩ := vals1 rz
  cases rw
  rw [hks]
  obtain ⟨l, y, ys, G, gt, rfl, hl, g1, g2, g3, g4⟩ := q2
  cases ru
  refine Xe hc hl (.inr ⟨f, rfl, λ pins s σ H' x u Q' E I' sm hx rx hq => ?_⟩) g2 (λ pins s σ H' x y v v' u u' I' sm hx hy gx gy rv rv' => g3 x hx y hy H' v v' sm gx gy pins s σ u u' I' rv rv') I2 g4
  have r2 : Vals [x] [u] := .cons rx .nil
  refine wpAny_call (codeAny_mono (F.run X.A.in1 X.stack s H' ⟨[u], []⟩ [u] [x] (λ w H2 => Same H' H2 /\ G x H2 w) E0 hr.in1 I'.env0.in1 (by have := hb s [u] I'.kIn rfl; simpa using this) r2 (g1 x hx H' sm)) λ r s' hq' => ?_)
  cases r with
  | error e => exact False.elim hq'
  |
   ok fl =>
   cases fl with
   | ret u => obtain ⟨v, H3, I3, rv, s3, g3⟩ := I'.after hq'; exact ⟨v, H3, I3, rv, hq v H3 s3 g3⟩
   | next => exact False.elim hq'
   | brk => exact False.elim hq'
   | cont => exact False.elim hq'
end
theorem Mu : ∀ {ts : List Str} {us : List Value}, Vals (ts.map V.str) us -> StrsAre us ts
 | [], _, .nil => .nil
 |
  _ :: _, _, .cons r1 r2 => by
  obtain ⟨t, rfl⟩ := r1
  exact .cons _ t (Mu r2)
theorem Sm : ∀ {ts : List Str} {us : List Value}, StrsAre us ts -> Vals (ts.map V.str) us
 | _, _, .nil => .nil
 | _, _, .cons y t h => .cons ⟨t, rfl⟩ (Sm h)
section
variable {X : Cx}
theorem Qv : CallR X (.builtin "sorted") (λ xs H Q => ∃ (p : Addr) (ts : List Str), xs = [.ref p] /\ H p = some (.lst (ts.map V.str)) /\ ts.length < 64 /\
  ∀ (D : Addr) (ms : List Str), H D = none -> ms.Perm ts -> sortedS ms = true -> Q (.ref D) (upd H D (.lst (ms.map V.str)))) := by
 intro pins s σ H xs us Q I r h
 obtain ⟨p, ts, rfl, hp, h64, q⟩ := h
 obtain ⟨u, rfl, ru⟩ := vals1 r
 cases ru
 obtain ⟨its, rv, pl, hz⟩ := I.list (SqL.of (K := X.K) hp)
 have hi := Mu rv
 have hl := rv.length
 rw [List.length_map] at hl
 refine sorted_strs (vs := its) pl.isList hi (by omega) λ out ms a1 a2 a3 => ?_
 obtain ⟨c, hc⟩ := sortedAll_at s.heap its out
 have hn : H (s.heap.objs.size + 1) = none := I.hok.fresh (Nat.le_succ _)
 refine ⟨.ref (s.heap.objs.size + 1), _, I.laid (t' := s.toks) (o := .lst (ms.map V.str)) (λ b o => sortedAll_old) (Nat.le_succ _) ?_, rfl, q _ ms hn a2 a3⟩
 exact ⟨by rw [List.length_map, a2.length_eq, sizeLine_eq]; omega, out.toList, c, Sm a1, by rw [Array.toArray_toList]; exact hc⟩
theorem Jd (hu : X.A.units + 1 < cLine) : OpR X (compareOp .Eq) (λ x y H Q => ∃ t, y = .str t /\ ((rEq x y H Q) ∨ ∃ a xs, x = .ref a /\ H a = some (.tup xs) /\ Q (.bl false) H)) := by
 intro pins s σ H x y v u Q I rx ry h
 obtain ⟨t, rfl, h | ⟨a, xs, rfl, ha, q⟩⟩ := h
 · exact Cg pins s σ H _ _ v u Q I rx ry h
 ·
  cases rx
  obtain ⟨tk, rfl⟩ := ry
  obtain ⟨its, r1, p1, _⟩ := I.tuple (SqT.of (K := X.K) ha)
  exact RcAt.tuple_str t tk p1 (by omega) X.prog X.w X.xe _ ⟨.bl false, H, I, rfl, q⟩
end
end L2
namespace HT
open PySem PySem.Spec PyProof.Rows
section
variable {prog : Program} {w : World} {A : Around} {E : Value -> Shared -> Prop} {s : Shared}
theorem Jn {t sl : Addr} {items : Array Value} {vl vu : Value} {lo hi : Option Int} {Q : Value -> Shared -> Prop} (ht : IsTup s.heap t items) (hs : s.heap.IsSliceOf sl vl vu .none) (pl : IsPart vl lo) (pu : IsPart vu hi)
  (hw : sIx items.size 0 lo = 0 /\ sIx items.size items.size hi = items.size) (h : Q (.ref t) s) : wpAny (model prog w) A (getItem (.ref t) (.ref sl)) Q E s := by
 obtain ⟨os, hos, hcs, hds⟩ := id hs
 have hTs : s.TypeIs (.ref sl) "slice" := ⟨os, hos, hcs⟩
 unfold getItem
 try with_reducible refine wpAny_holding ?_
 first | refine wpAny_bind (wpAny_pure ?_) | skip
 refine wpAny_bind (wpAny_sequenceKey ht.typeIs (by decide) ?_)
 refine wpAny_bind (wpAny_callSpecial?_slot (name := Str.ofString "__getitem__") ht.typeIs PyProof.Rows.slot_tuple_getitem
  (wpAny_call_entry PyProof.Rows.slot_tuple_getitem ht.typeIs entry_tuple_getitem ?_ (args_tuple_getitem _ _)))
 show wpAny _ _ (Builtin.Tuple.tupleItemsOf (.ref t) >>= _) _ _ s
 refine wpAny_bind (tupleItemsOf_ ht ?_)
 refine wpAny_bind (wpAny_typeOf hTs ?_)
 rw [if_pos (by decide)]
 refine wpAny_bind (Hv hs pl pu ?_)
 have hyes : (((sIx items.size 0 lo : Nat) : Int) == 0 && (1 : Int) == 1 && (sIx items.size items.size hi - sIx items.size 0 lo) == items.size) = true := by
  rw [hw.1, hw.2, Nat.sub_zero]
  simp
 show wpAny _ _ (if (((sIx items.size 0 lo : Nat) : Int) == 0 && (1 : Int) == 1 && (sIx items.size items.size hi - sIx items.size 0 lo) == items.size) = true then _ else _) _ _ s
 rw [if_pos hyes]
 unfold Builtin.Tuple.tupleIsExact
 refine wpAny_bind (wpAny_bind (wpAny_typeOf ht.typeIs (wpAny_pure ?_)))
 rw [if_pos (by decide)]
 first
  | exact wpAny_bind (wpAny_pure (wpAny_pure ⟨_, rfl, wpAny_pure h⟩))
  | exact wpAny_bind (wpAny_rule (wpAny_pure ⟨_, rfl, wpAny_pure h⟩))
  | exact wpAny_pure ⟨_, rfl, wpAny_pure h⟩
end
end HT
namespace L2
open PySem PySem.Spec PyProof.Rows PySem.SeqAt
theorem dr {xs : List V} {lo hi : Option Int} (hw : HT.sIx xs.length 0 lo = 0 /\ HT.sIx xs.length xs.length hi = xs.length) : Wx xs lo hi = xs := by
 unfold Wx
 rw [hw.1, hw.2, List.drop_zero, Nat.sub_zero, List.take_length]
section
variable {X : Cx}
theorem M0 : SlR X (λ x lo hi H Q => ∃ (a : Addr) (xs : List V), x = .ref a /\ H a = some (.tup xs) /\ ∀ p H', Same H H' -> H' p = some (.tup (Wx xs lo hi)) -> Q (.ref p) H') := by
 intro pins s σ H x v vl vu lo hi sl Q I rx hs pl pu h
 obtain ⟨a, xs, rfl, ha, q⟩ := h
 by_cases hw : HT.sIx xs.length 0 lo = 0 /\ HT.sIx xs.length xs.length hi = xs.length
 ·
  cases rx
  obtain ⟨its, r, ht, hz⟩ := I.tuple (SqT.of (K := X.K) ha)
  have hlen : its.toArray.size = xs.length := by rw [List.size_toArray]; exact r.length.symm
  refine ⟨"tuple", _, PyProof.Rows.slot_tuple_getitem.lookup, ht.typeIs, ?_⟩
  refine HT.Jn ht hs pl pu (by rw [hlen]; exact hw) ⟨.ref a, H, I, rfl, q a H (Same.refl _) ?_⟩
  rw [dr hw]
  exact ha
 · exact l7 pins s σ H _ v vl vu lo hi sl Q I rx hs pl pu ⟨a, xs, rfl, SqT.of ha, hw, λ p hp => q p _ (Ag hp) Ae⟩
end
end L2
namespace HT
open PySem PySem.Spec PyProof.Rows
section
variable {prog : Program} {w : World} {A : Around} {E : Value -> Shared -> Prop} {s : Shared}
end
end HT
namespace L2
open PySem PySem.Spec PyProof.Rows PySem.SeqAt
section
variable {X : Cx}
end
end L2
namespace L2
open PySem PySem.Spec PyProof.Rows
end L2
namespace DW
open PySem PySem.Spec L2
inductive W where
 | n
 | b (x : Bool)
 | i (z : Int)
 | s (t : Str)
 | ts (l : List Str)
 | ti (z : Int)
section
variable (nm : Str -> Bool)
def df : W -> Bool
 | .i _ => true
 | _ => false
def Hb : W -> Int -> Bool
 | .i z, k => decide (k <= z)
 | _, _ => false
def Oa : W -> Bool
 | .s t => nm t
 | _ => false
def eqS : W -> Str -> Bool
 | .s t, u => decide (t = u)
 | _, _ => false
def F7 : List Str -> Bool
 | x :: y :: r => decide (x.cps.toList < y.cps.toList) && F7 (y :: r)
 | _ => true
def Ci : W -> Str -> Nat -> Bool
 | .ts l, a, k => decide (k <= l.length) && decide (l.length <= 20) && l.all nm && F7 l && !decide (a ∈ l)
 | _, _, _ => false
def ny : W -> W -> Bool
 | .i x, .i y => decide (x < y)
 | _, _ => false
def o5 : W -> Str
 | .s t => t
 | _ => ""
def at_ (ws : List W) (j : Nat) : W := ws.getD j .n
def b9 (ws : List W) : Bool := decide (ws.length = 7) && (Hb (at_ ws 3) 1 && (df (at_ ws 4) && (df (at_ ws 5) && (ny (at_ ws 4) (at_ ws 5) && Ci nm (at_ ws 6) (o5 (at_ ws 1)) 1))))
def ju (ws : List W) : Bool := decide (ws.length = 4) && Hb (at_ ws 3) 2
def Lg (ws : List W) : Bool := decide (ws.length = 5) && (Hb (at_ ws 3) 1 && Ci nm (at_ ws 4) (o5 (at_ ws 1)) 0)
def Z1 (ws : List W) : Bool := decide (ws.length = 7) && (Hb (at_ ws 3) 1 && (Oa nm (at_ ws 4) && (!eqS (at_ ws 4) (o5 (at_ ws 1)) && (Hb (at_ ws 5) 0 && (eqS (at_ ws 6) "yes" || eqS (at_ ws 6) "no")))))
def Lc (ws : List W) : Bool := if eqS (at_ ws 0) "bid" then b9 nm ws else if eqS (at_ ws 0) "off" then ju ws else if eqS (at_ ws 0) "close" then Lg nm ws else (eqS (at_ ws 0) "answer" && Z1 nm ws)
def isL (ws : List W) : Bool := decide (4 <= ws.length) && (Oa nm (at_ ws 1) && (Hb (at_ ws 2) 0 && Lc nm ws))
end
section
variable {nm : Str -> Bool} {ws : List W}
theorem ir (h : ¬ 4 <= ws.length) : isL nm ws = false := by unfold isL; rw [decide_eq_false h, Bool.false_and]
theorem aj (h : Oa nm (at_ ws 1) = false) : isL nm ws = false := by unfold isL; rw [h, Bool.false_and, Bool.and_false]
theorem f9 (h : Hb (at_ ws 2) 0 = false) : isL nm ws = false := by unfold isL; rw [h, Bool.false_and, Bool.and_false, Bool.and_false]
theorem m8 (h1 : 4 <= ws.length) (h2 : Oa nm (at_ ws 1) = true) (h3 : Hb (at_ ws 2) 0 = true) : isL nm ws = Lc nm ws := by unfold isL; rw [decide_eq_true h1, h2, h3]; rfl
theorem af (h : eqS (at_ ws 0) "bid" = true) : Lc nm ws = b9 nm ws := by unfold Lc; rw [if_pos h]
theorem Of {w : W} {t u : Str} (h : eqS w t = true) (n : t ≠ u) : eqS w u = false := by
 cases w <;> simp only [eqS, Bool.false_eq_true, decide_eq_true_eq] at h ⊢
 subst h
 exact decide_eq_false n
theorem c3 (h : eqS (at_ ws 0) "off" = true) : Lc nm ws = ju ws := by unfold Lc; rw [if_neg (by rw [Of h (by decide)]; decide), if_pos h]
theorem Wu (h : eqS (at_ ws 0) "close" = true) : Lc nm ws = Lg nm ws := by unfold Lc; rw [if_neg (by rw [Of h (by decide)]; decide), if_neg (by rw [Of h (by decide)]; decide), if_pos h]
theorem cn (h : eqS (at_ ws 0) "answer" = true) : Lc nm ws = Z1 nm ws := by unfold Lc; rw [if_neg (by rw [Of h (by decide)]; decide), if_neg (by rw [Of h (by decide)]; decide), if_neg (by rw [Of h (by decide)]; decide), h, Bool.true_and]
theorem Y3 (h1 : eqS (at_ ws 0) "bid" = false ∨ ws.length ≠ 7) (h2 : eqS (at_ ws 0) "off" = false) (h3 : eqS (at_ ws 0) "close" = false ∨ ws.length ≠ 5) (h4 : eqS (at_ ws 0) "answer" = false ∨ ws.length ≠ 7) : Lc nm ws = false := by
 unfold Lc
 rw [h2]
 by_cases z1 : eqS (at_ ws 0) "bid" = true
 ·
  rw [if_pos z1]
  unfold b9
  rw [decide_eq_false (h1.resolve_left (by rw [z1]; decide)), Bool.false_and]
 ·
  rw [if_neg z1, if_neg (by decide)]
  by_cases z3 : eqS (at_ ws 0) "close" = true
  ·
   rw [if_pos z3]
   unfold Lg
   rw [decide_eq_false (h3.resolve_left (by rw [z3]; decide)), Bool.false_and]
  ·
   rw [if_neg z3]
   rcases h4 with h4 | h4
   · rw [h4, Bool.false_and]
   ·
    unfold Z1
    rw [decide_eq_false h4, Bool.false_and, Bool.and_false]
theorem md {w : W} (h : df w = true) : ∃ z, w = .i z := by cases w <;> simp only [df, Bool.false_eq_true] at h; exact ⟨_, rfl⟩
theorem fb {w : W} (h : Oa nm w = true) : ∃ t, w = .s t /\ nm t = true := by cases w <;> simp only [Oa, Bool.false_eq_true] at h; exact ⟨_, rfl, h⟩
end
theorem ef : ∀ {a b : List Nat}, ltCps b a = false -> a ≠ b -> ltCps a b = true
 | [], [], _, h => absurd rfl h
 | [], _ :: _, _, _ => rfl
 | _ :: _, [], h, _ => by cases h
 |
  x :: a, y :: b, h, hn => by
  simp only [ltCps, Bool.or_eq_false_iff, decide_eq_false_iff_not, Bool.and_eq_false_iff, beq_eq_false_iff_ne] at h
  simp only [ltCps, Bool.or_eq_true, decide_eq_true_eq, Bool.and_eq_true, beq_iff_eq]
  by_cases e : x = y
  ·
   subst e
   refine .inr ⟨rfl, ef (h.2.resolve_left (λ z => z rfl)) (λ z => hn (by rw [z]))⟩
  · exact .inl (by have := h.1; omega)
theorem ma {a b : Str} (h : a ≠ b) : a.cps.toList ≠ b.cps.toList := λ z => h (by
 obtain ⟨⟨a⟩⟩ := a
 obtain ⟨⟨b⟩⟩ := b
 simp at z
 rw [z])
theorem Yl : ∀ {l : List Str}, PyProof.Rows.sortedS l = true -> l.Nodup -> F7 l = true
 | [], _, _ => rfl
 | [_], _, _ => rfl
 |
  x :: y :: r, h, hn => by
  simp only [PyProof.Rows.sortedS, PyProof.Rows.risingS, Bool.and_eq_true, Bool.not_eq_true'] at h
  have hn2 := (List.nodup_cons.mp hn)
  have hxy : x ≠ y := λ e => hn2.1 (by rw [e]; exact List.mem_cons_self ..)
  have ih := Yl (l := y :: r) (by simp only [PyProof.Rows.sortedS]; exact h.2) hn2.2
  have h1 := ef h.1 (ma hxy)
  rw [PyProof.Rows.ltCps_eq] at h1
  show (decide (x.cps.toList < y.cps.toList) && F7 (y :: r)) = true
  rw [h1, ih]
  rfl
theorem Vq : ∀ (l : List Str), ((List.range (l.length - 1)).all λ j => decide ((l.getD j "").cps.toList < (l.getD (j + 1) "").cps.toList)) = F7 l
 | [] => rfl
 | [x] => rfl
 |
  x :: y :: r => by
  have ih := Vq (y :: r)
  show ((List.range (r.length + 1)).all λ j => decide (((x :: y :: r).getD j "").cps.toList < ((x :: y :: r).getD (j + 1) "").cps.toList)) = _
  rw [List.range_succ_eq_map, List.all_cons, List.all_map]
  show (decide (x.cps.toList < y.cps.toList) && _) = (decide (x.cps.toList < y.cps.toList) && F7 (y :: r))
  rw [← ih]
  rfl
def WV (H : Hp) : W -> V -> Prop
 | .n, v => v = .non
 | .b x, v => v = .bl x
 | .i z, v => v = .int z
 | .s t, v => v = .str t /\ t.length <= 10000
 | .ts l, v => ∃ r, v = .ref r /\ H r = some (.tup (l.map V.str)) /\ l.length <= 1000 /\ ∀ t ∈ l, t.length <= 10000
 | .ti z, v => ∃ r, v = .ref r /\ H r = some (.tup [.int z])
theorem WV.up {H H' : Hp} {w : W} {v : V} (h : WV H w v) (s : Same H H') : WV H' w v := by
 cases w with
 | n => exact h
 | b x => exact h
 | i z => exact h
 | s t => exact h
 | ts l => obtain ⟨r, e, h1, h2⟩ := h; exact ⟨r, e, s _ _ h1, h2⟩
 | ti z => obtain ⟨r, e, h1⟩ := h; exact ⟨r, e, s _ _ h1⟩
abbrev PW_ := V × W
def ws (ps : List PW_) : List W := ps.map (·.2)
def vs (ps : List PW_) : List V := ps.map (·.1)
theorem Q1 (ps : List PW_) : (ws ps).length = ps.length := List.length_map ..
theorem M7 (ps : List PW_) : (vs ps).length = ps.length := List.length_map ..
structure LetAt (H : Hp) (p : Addr) (ps : List PW_) : Prop where
 at_ : H p = some (.tup (vs ps))
 ok : ∀ q ∈ ps, WV H q.2 q.1
 few : ps.length <= 1000
theorem LetAt.up {H H' : Hp} {p : Addr} {ps : List PW_} (h : LetAt H p ps) (s : Same H H') : LetAt H' p ps := ⟨s _ _ h.at_, λ q hq => (h.ok q hq).up s, h.few⟩
theorem fo {ps : List PW_} {j : Nat} (hj : j < ps.length) : ∃ q ∈ ps, ps[j]? = some q /\ L2.atI (vs ps) (j : Int) = some q.1 /\ DW.at_ (ws ps) j = q.2 := by
 refine ⟨ps[j], List.getElem_mem hj, List.getElem?_eq_getElem hj, ?_, ?_⟩
 ·
  refine Bb ?_
  unfold vs
  rw [List.getElem?_map, List.getElem?_eq_getElem hj]
  rfl
 ·
  unfold DW.at_ ws
  rw [List.getD_eq_getElem?_getD, List.getElem?_map, List.getElem?_eq_getElem hj]
  rfl
theorem LetAt.get {H : Hp} {p : Addr} {ps : List PW_} (h : LetAt H p ps) {j : Nat} (hj : j < ps.length) : ∃ v, L2.atI (vs ps) (j : Int) = some v /\ WV H (DW.at_ (ws ps) j) v := by
 obtain ⟨q, hq, _, e1, e2⟩ := fo hj
 exact ⟨q.1, e1, by rw [e2]; exact h.ok q hq⟩
theorem C7 (l : List Str) : (l.map V.str).all Qi = true := by rw [List.all_map]; exact List.all_eq_true.mpr λ _ _ => rfl
theorem Fm (a : Str) (l : List Str) : inV (.str a) (l.map V.str) = decide (a ∈ l) := by
 unfold inV
 rw [List.any_map, Bool.eq_iff_iff, List.any_eq_true, decide_eq_true_eq]
 constructor
 ·
  rintro ⟨x, hx, e⟩
  have e' : eqV (.str x) (.str a) = true := e
  simp only [eqV, beq_iff_eq] at e'
  rw [← e']
  exact hx
 ·
  intro h
  exact ⟨a, h, by show eqV (.str a) (.str a) = true; simp [eqV]⟩
theorem G0 {nm : Str -> Bool} {l : List Str} {a : Str} {m : Nat} : Ci nm (.ts l) a m = (decide (m <= l.length) && decide (l.length <= 20) && l.all nm && F7 l && !decide (a ∈ l)) := rfl
theorem Y2 {nm : Str -> Bool} {l : List Str} {a : Str} {m : Nat} (h : l.length < m) : false = Ci nm (.ts l) a m := by rw [G0, decide_eq_false (by omega), Bool.false_and, Bool.false_and, Bool.false_and, Bool.false_and]
theorem W4 {nm : Str -> Bool} {l : List Str} {a : Str} {m : Nat} (h : 20 < l.length) : false = Ci nm (.ts l) a m := by rw [G0, decide_eq_false (p := l.length <= 20) (by omega), Bool.and_false, Bool.false_and, Bool.false_and, Bool.false_and]
theorem b5 {nm : Str -> Bool} {l : List Str} {a : Str} {m : Nat} (h : l.all nm = false) : false = Ci nm (.ts l) a m := by rw [G0, h, Bool.and_false, Bool.false_and, Bool.false_and]
theorem Wa {nm : Str -> Bool} {l : List Str} {a : Str} {m : Nat} (h : F7 l = false) : false = Ci nm (.ts l) a m := by rw [G0, h, Bool.and_false, Bool.false_and]
theorem c7 {nm : Str -> Bool} {l : List Str} {a : Str} {m : Nat} (h1 : m <= l.length) (h2 : l.length <= 20) (h3 : l.all nm = true) (h4 : F7 l = true) : Ci nm (.ts l) a m = (!decide (a ∈ l)) := by rw [G0, decide_eq_true h1, decide_eq_true h2, h3, h4, Bool.and_self, Bool.and_self, Bool.and_self, Bool.true_and]
def neF (a : Str) : V -> Bool
 | .str t => !decide (t = a)
 | _ => false
theorem U4 (ns : List Str) (a : Str) : (((ns.map V.str).filter (neF a)).map λ v => v) = (ns.filter λ t => !decide (t = a)).map V.str := by
 rw [List.map_id', List.filter_map]
 rfl
def Og (AL : List Nat) : W -> Prop
 | .i z => -(10 ^ 18) <= z /\ z <= 10 ^ 18
 | .s t => (∀ c ∈ t.cps.toList, c ∈ AL) /\ t.length <= 8
 | .ts l => l.length <= 22 /\ ∀ t ∈ l, t.length <= 8
 | _ => False
structure LetO (AL : List Nat) (H : Hp) (p : Addr) (ps : List PW_) : Prop where
 is : LetAt H p ps
 og : ∀ q ∈ ps, Og AL q.2
 lo : 4 <= ps.length
 hi : ps.length <= 7
 one : ∃ a, DW.at_ (ws ps) 1 = .s a
 bid : eqS (DW.at_ (ws ps) 0) "bid" = true -> ps.length = 7 /\ ∃ z, DW.at_ (ws ps) 4 = .i z
theorem LetO.up {AL : List Nat} {H H' : Hp} {p : Addr} {ps : List PW_} (h : LetO AL H p ps) (s : Same H H') : LetO AL H' p ps := ⟨h.is.up s, h.og, h.lo, h.hi, h.one, h.bid⟩
theorem l5 (a b : List PW_) : vs a ++ vs b = vs (a ++ b) := (List.map_append ..).symm
theorem LetAt.mk' {H : Hp} {p : Addr} {a b : List PW_} (e : H p = some (.tup (vs a ++ vs b))) (ha : ∀ q ∈ a, WV H q.2 q.1) (hb : ∀ q ∈ b, WV H q.2 q.1) (h : a.length + b.length <= 1000) : LetAt H p (a ++ b) :=
 ⟨by rw [e, l5], λ q hq => (List.mem_append.mp hq).elim (ha q) (hb q), by rw [List.length_append]; exact h⟩
theorem WV.set {H : Hp} {w : W} {v : V} {S : Addr} {xs ys : List V} (h : WV H w v) (hS : H S = some (.lst xs)) : WV (upd H S (.lst ys)) w v := by
 cases w with
 | n => exact h
 | b x => exact h
 | i z => exact h
 | s t => exact h
 |
  ts l =>
  obtain ⟨r, e, h1, h2⟩ := h
  exact ⟨r, e, by rw [Al (λ z => by rw [z, hS] at h1; cases h1)]; exact h1, h2⟩
 |
  ti z =>
  obtain ⟨r, e, h1⟩ := h
  exact ⟨r, e, by rw [Al (λ z => by rw [z, hS] at h1; cases h1)]; exact h1⟩
theorem xv {α : Type} {xs : List α} (h : 0 < xs.length) : atI xs (-1) = xs[xs.length - 1]? := by
 unfold atI ixN
 rw [if_neg (by decide), if_pos (by omega)]
 show xs[((-1 : Int) + (xs.length : Int)).toNat]? = _
 rw [show ((-1 : Int) + (xs.length : Int)).toNat = xs.length - 1 by omega]
theorem Vj {ns : List Str} (h2 : 2 <= ns.length) (hn : ns.Nodup) (a : Str) : 0 < (ns.filter λ t => !decide (t = a)).length := by
 match ns, h2, hn with
 |
  x :: y :: r, _, hn =>
  have hxy : x ≠ y := λ e => (List.nodup_cons.mp hn).1 (by rw [e]; exact List.mem_cons_self ..)
  apply List.length_pos_of_mem (a := if x = a then y else x)
  rw [List.mem_filter]
  by_cases e : x = a
  ·
   rw [if_pos e]
   exact ⟨by simp, by simp; exact λ z => hxy (e.trans z.symm)⟩
  ·
   rw [if_neg e]
   exact ⟨by simp, by simp [e]⟩
def TS (H : Hp) (r : Addr) : Prop := ∃ l : List Str, H r = some (.tup (l.map V.str)) /\ l.length <= 100 /\ ∀ t ∈ l, t.length <= 10000
theorem TS.up {H H' : Hp} {r : Addr} (h : TS H r) (s : Same H H') : TS H' r := by
 obtain ⟨l, e, h1, h2⟩ := h
 exact ⟨l, s _ _ e, h1, h2⟩
theorem TS.wv {H : Hp} {r : Addr} (h : TS H r) : ∃ w, WV H w (.ref r) := by
 obtain ⟨l, e, h1, h2⟩ := h
 exact ⟨.ts l, r, rfl, e, by omega, h2⟩
def Mx (H : Hp) (S : Addr) : Prop := ∃ xs, H S = some (.lst xs) /\ xs.length = 12 /\ ∀ x ∈ xs, ∃ w, WV H w x
theorem Mx.up {H H' : Hp} {S : Addr} (h : Mx H S) (s : Same H H') : Mx H' S := by
 obtain ⟨xs, e, h1, h2⟩ := h
 exact ⟨xs, s _ _ e, h1, λ x hx => (h2 x hx).imp λ w hw => hw.up s⟩
theorem Mx.put {H : Hp} {S : Addr} {xs : List V} {v : V} (e : H S = some (.lst xs)) (h1 : xs.length = 12) (h2 : ∀ x ∈ xs, ∃ w, WV H w x) (hv : ∃ w, WV H w v) : Mx (upd H S (.lst (xs.set 11 v))) S :=
 ⟨xs.set 11 v, Ae, by rw [List.length_set]; exact h1, λ x hx => by
  rcases List.mem_or_eq_of_mem_set hx with hx | rfl
  · exact (h2 x hx).imp λ w hw => hw.set e
  · exact hv.imp λ w hw => hw.set e⟩
theorem LetO.last {AL : List Nat} {H : Hp} {p : Addr} {ps : List PW_} (h : LetO AL H p ps) : ∃ v w, L2.atI (vs ps) (-1) = some v /\ WV H w v /\ Og AL w := by
 have h4 := h.lo
 obtain ⟨q, hq, e, _⟩ := fo (ps := ps) (j := ps.length - 1) (by omega)
 refine ⟨q.1, q.2, ?_, h.is.ok q hq, h.og q hq⟩
 rw [xv (by rw [M7]; omega), M7]
 unfold vs
 rw [List.getElem?_map, e]
 rfl
end DW
namespace L2
open PySem PySem.Spec PyProof.Rows PySem.SeqAt DX DW
inductive Lt where
 | bid (a : Str) (n t b e : Int) (hs : List Str)
 | off (a : Str) (n t : Int)
 | close (a : Str) (n t : Int) (hs : List Str)
 | ans (a : Str) (n t : Int) (h : Str) (g : Int) (w : Str)
abbrev nS (x : Str) : NK := .inl (.inr x)
abbrev nI (i : Int) : NK := .inl (.inl i)
abbrev nT (l : List Str) : NK := .inr (l.map Sum.inr)
def Lt.nk : Lt -> List NK
 | .bid a n t b e hs => [nS "bid", nS a, nI n, nI t, nI b, nI e, nT hs]
 | .off a n t => [nS "off", nS a, nI n, nI t]
 | .close a n t hs => [nS "close", nS a, nI n, nI t, nT hs]
 | .ans a n t h g w => [nS "answer", nS a, nI n, nI t, nS h, nI g, nS w]
def Lt.ws : Lt -> List W
 | .bid a n t b e hs => [.s "bid", .s a, .i n, .i t, .i b, .i e, .ts hs]
 | .off a n t => [.s "off", .s a, .i n, .i t]
 | .close a n t hs => [.s "close", .s a, .i n, .i t, .ts hs]
 | .ans a n t h g w => [.s "answer", .s a, .i n, .i t, .s h, .i g, .s w]
def Lt.asker : Lt -> Str
 | .bid a .. => a
 | .off a .. => a
 | .close a .. => a
 | .ans a .. => a
def Lt.number : Lt -> Int
 | .bid _ n .. => n
 | .off _ n _ => n
 | .close _ n .. => n
 | .ans _ n .. => n
def Lt.turn : Lt -> Int
 | .bid _ _ t .. => t
 | .off _ _ t => t
 | .close _ _ t _ => t
 | .ans _ _ t .. => t
def Lt.kind : Lt -> Str
 | .bid .. => "bid"
 | .off .. => "off"
 | .close .. => "close"
 | .ans .. => "answer"
def LtVs (H : Hp) : Lt -> List V -> Prop
 | .bid a n t b e hs, vs => ∃ q, vs = [.str "bid", .str a, .int n, .int t, .int b, .int e, .ref q] /\ H q = some (.tup (hs.map V.str))
 | .off a n t, vs => vs = [.str "off", .str a, .int n, .int t]
 | .close a n t hs, vs => ∃ q, vs = [.str "close", .str a, .int n, .int t, .ref q] /\ H q = some (.tup (hs.map V.str))
 | .ans a n t h g w, vs => vs = [.str "answer", .str a, .int n, .int t, .str h, .int g, .str w]
def LtAt (H : Hp) (l : Lt) (p : Addr) : Prop := ∃ vs, H p = some (.tup vs) /\ LtVs H l vs
theorem LtAt.up {H H' : Hp} {l : Lt} {p : Addr} (h : LtAt H l p) (s : Same H H') : LtAt H' l p := by
 obtain ⟨vs, hp, r⟩ := h
 refine ⟨vs, s _ _ hp, ?_⟩
 cases l with
 | bid => obtain ⟨q, e, h⟩ := r; exact ⟨q, e, s _ _ h⟩
 | off => exact r
 | close => obtain ⟨q, e, h⟩ := r; exact ⟨q, e, s _ _ h⟩
 | ans => exact r
theorem fk (hs : List Str) : (hs.map (Sum.inr : Str -> Key)).map kV = hs.map V.str := by rw [List.map_map]; rfl
theorem LtAt.nk {H : Hp} {l : Lt} {p : Addr} (h : LtAt H l p) : NkAt H l.nk p := by
 obtain ⟨vs, hp, r⟩ := h
 cases l with
 | bid a n t b e hs => obtain ⟨q, rfl, h⟩ := r; exact ⟨_, hp, .cons rfl (.cons rfl (.cons rfl (.cons rfl (.cons rfl (.cons rfl (.cons ⟨q, rfl, by rw [fk]; exact h⟩ .nil))))))⟩
 | off a n t => cases r; exact ⟨_, hp, .cons rfl (.cons rfl (.cons rfl (.cons rfl .nil)))⟩
 | close a n t hs => obtain ⟨q, rfl, h⟩ := r; exact ⟨_, hp, .cons rfl (.cons rfl (.cons rfl (.cons rfl (.cons ⟨q, rfl, by rw [fk]; exact h⟩ .nil))))⟩
 | ans a n t h g w => cases r; exact ⟨_, hp, .cons rfl (.cons rfl (.cons rfl (.cons rfl (.cons rfl (.cons rfl (.cons rfl .nil))))))⟩
theorem Qg : ∀ (a b : List Str), okT (a.map Sum.inr) (b.map Sum.inr) = true
 | [], _ => rfl
 | _ :: _, [] => rfl
 |
  x :: a, y :: b => by
  show (if (Sum.inr x : Key) = Sum.inr y then okT (a.map Sum.inr) (b.map Sum.inr) else okK (.inr x) (.inr y)) = true
  split
  · exact Qg a b
  · rfl
theorem Ba {x y : NK} {xs ys : List NK} (h1 : okN x y = true) (h2 : okL xs ys = true) : okL (x :: xs) (y :: ys) = true := by
 show (if x = y then okL xs ys else okN x y) = true
 split
 · exact h2
 · exact h1
theorem j8 {x y : NK} {xs ys : List NK} (h1 : okN x y = true) (h2 : x ≠ y) : okL (x :: xs) (y :: ys) = true := by
 show (if x = y then okL xs ys else okN x y) = true
 rw [if_neg h2]
 exact h1
theorem Lt.ok (l l' : Lt) : okL l.nk l'.nk = true := by
 cases l <;> cases l' <;> first
  | exact j8 rfl (by decide)
  | exact Ba rfl (Ba rfl (Ba rfl (Ba rfl rfl)))
  | exact Ba rfl (Ba rfl (Ba rfl (Ba rfl (Ba (Qg _ _) rfl))))
  | exact Ba rfl (Ba rfl (Ba rfl (Ba rfl (Ba rfl (Ba rfl (Ba rfl rfl))))))
  | exact Ba rfl (Ba rfl (Ba rfl (Ba rfl (Ba rfl (Ba rfl (Ba (Qg _ _) rfl))))))
theorem Lt.fst (l : Lt) : Rm l.nk := by cases l <;> exact ⟨_, _, rfl⟩
def Y7 : Lt -> Prop
 | .bid a _ _ _ _ hs => a.length <= 10000 /\ hs.length <= 1000 /\ ∀ t ∈ hs, t.length <= 10000
 | .off a _ _ => a.length <= 10000
 | .close a _ _ hs => a.length <= 10000 /\ hs.length <= 1000 /\ ∀ t ∈ hs, t.length <= 10000
 | .ans a _ _ h _ w => a.length <= 10000 /\ h.length <= 10000 /\ w.length <= 10000
theorem LtAt.letAt {H : Hp} {l : Lt} {p : Addr} (h : LtAt H l p) (z : Y7 l) : ∃ ps, LetAt H p ps /\ DW.ws ps = l.ws := by
 obtain ⟨vs, hp, r⟩ := h
 have all : ∀ {ps : List PW_} (h : DW.vs ps = vs), (∀ q ∈ ps, WV H q.2 q.1) -> ps.length <= 1000 -> LetAt H p ps := λ e h1 h2 => ⟨by rw [e]; exact hp, h1, h2⟩
 cases l with
 |
  bid a n t b e hs =>
  obtain ⟨q, rfl, h⟩ := r
  refine ⟨[(.str "bid", .s "bid"), (.str a, .s a), (.int n, .i n), (.int t, .i t), (.int b, .i b), (.int e, .i e), (.ref q, .ts hs)], all rfl ?_ (by show 7 <= 1000; decide), rfl⟩
  simp only [List.mem_cons, List.not_mem_nil, or_false, forall_eq_or_imp, forall_eq]
  exact ⟨⟨rfl, by decide +kernel⟩, ⟨rfl, z.1⟩, rfl, rfl, rfl, rfl, q, rfl, h, z.2⟩
 |
  off a n t =>
  cases r
  refine ⟨[(.str "off", .s "off"), (.str a, .s a), (.int n, .i n), (.int t, .i t)], all rfl ?_ (by show 4 <= 1000; decide), rfl⟩
  simp only [List.mem_cons, List.not_mem_nil, or_false, forall_eq_or_imp, forall_eq]
  exact ⟨⟨rfl, by decide +kernel⟩, ⟨rfl, z⟩, rfl, rfl⟩
 |
  close a n t hs =>
  obtain ⟨q, rfl, h⟩ := r
  refine ⟨[(.str "close", .s "close"), (.str a, .s a), (.int n, .i n), (.int t, .i t), (.ref q, .ts hs)], all rfl ?_ (by show 5 <= 1000; decide), rfl⟩
  simp only [List.mem_cons, List.not_mem_nil, or_false, forall_eq_or_imp, forall_eq]
  exact ⟨⟨rfl, by decide +kernel⟩, ⟨rfl, z.1⟩, rfl, rfl, q, rfl, h, z.2⟩
 |
  ans a n t h g w =>
  cases r
  refine ⟨[(.str "answer", .s "answer"), (.str a, .s a), (.int n, .i n), (.int t, .i t), (.str h, .s h), (.int g, .i g), (.str w, .s w)], all rfl ?_ (by show 7 <= 1000; decide), rfl⟩
  simp only [List.mem_cons, List.not_mem_nil, or_false, forall_eq_or_imp, forall_eq]
  exact ⟨⟨rfl, by decide +kernel⟩, ⟨rfl, z.1⟩, rfl, rfl, ⟨rfl, z.2.1⟩, rfl, ⟨rfl, z.2.2⟩⟩
theorem LtVs.four {H : Hp} {l : Lt} {vs : List V} (h : LtVs H l vs) : ∃ r, vs = .str l.kind :: .str l.asker :: .int l.number :: .int l.turn :: r := by
 cases l with
 | bid => obtain ⟨q, rfl, _⟩ := h; exact ⟨_, rfl⟩
 | off => cases h; exact ⟨_, rfl⟩
 | close => obtain ⟨q, rfl, _⟩ := h; exact ⟨_, rfl⟩
 | ans => cases h; exact ⟨_, rfl⟩
structure LtsAt (H : Hp) (l : Addr) (ms : List (Lt × Addr)) : Prop where
 at_ : H l = some (.lst (ms.map λ x => V.ref x.2))
 ok : ∀ x ∈ ms, LtAt H x.1 x.2
 few : ms.length <= 1000
def nks (ms : List (Lt × Addr)) : List (List NK × Addr) := ms.map λ x => (x.1.nk, x.2)
theorem Vo (ms : List (Lt × Addr)) : ((nks ms).map λ x => V.ref x.2) = ms.map λ x => V.ref x.2 := by unfold nks; rw [List.map_map]; rfl
theorem Zc {H : Hp} {ms : List (Lt × Addr)} (h : ∀ x ∈ ms, LtAt H x.1 x.2) : ∀ x ∈ nks ms, NkAt H x.1 x.2 := λ x hx => by
 obtain ⟨y, hy, rfl⟩ := List.mem_map.mp hx
 exact (h y hy).nk
theorem Ng : ∀ {ms : List (List NK × Addr)} {us : List Value}, Vals (ms.map λ x => V.ref x.2) us -> us = ms.map λ x => Value.ref x.2
 | [], _, .nil => rfl
 | _ :: _, _, .cons r1 r2 => by rw [show _ = Value.ref _ from r1, Ng r2]; rfl
section
variable {X : Cx}
theorem dk {A : Around} {pins : List (Addr × Obj)} {σ : St} {H : Hp} {s : Shared} {p l : Addr} {ks : List NK} {ms : List (List NK × Addr)} (hu : A.units + 2 < cLine) (I : Inv X pins σ H s) (hp : NkAt H ks p) (hl : H l = some (.lst (ms.map λ x => V.ref x.2))) (ok : ∀ x ∈ ms, NkAt H x.1 x.2) :
  ∃ (items : Array Value) (e : Value -> Bool), s.heap.IsList l items /\ (∀ y, y ∈ items -> EqAt A.in1 s y (.ref p) (e y)) /\ items.any e = O6 ms ks := by
 obtain ⟨its, rv, pl, hz⟩ := I.list (SqL.of (K := X.K) hl)
 have e := Ng rv
 subst e
 refine ⟨_, λ v => decide (Qs X.prog X.w s.heap v = ks), pl.isList, λ y hy => ?_, ?_⟩
 ·
  obtain ⟨x, hx, rfl⟩ := List.mem_map.mp (show y ∈ ms.map λ x => Value.ref x.2 by simpa using hy)
  have := Yg (A := A.in1) (s := s) (by show A.units + 1 + 1 < cLine; omega) (B6 I.hok (ok x hx)) (B6 I.hok hp)
  show EqAt A.in1 s _ _ (decide (Qs X.prog X.w s.heap (.ref x.2) = ks))
  rw [Fh (B6 I.hok (ok x hx))]
  exact this
 ·
  rw [List.any_toArray, List.any_map]
  unfold O6
  refine Bool.eq_iff_iff.mpr ?_
  rw [List.any_eq_true, List.any_eq_true]
  constructor
  ·
   rintro ⟨x, hx, z⟩
   exact ⟨x, hx, by have z' : decide (Qs X.prog X.w s.heap (.ref x.2) = ks) = true := z; rw [Fh (B6 I.hok (ok x hx))] at z'; exact z'⟩
  ·
   rintro ⟨x, hx, z⟩
   refine ⟨x, hx, ?_⟩
   show decide (Qs X.prog X.w s.heap (.ref x.2) = ks) = true
   rw [Fh (B6 I.hok (ok x hx))]
   exact z
abbrev vn (b : Bool) (x y : V) (H : Hp) (Q : VK) : Prop := ∃ (p l : Addr) (ks : List NK) (ms : List (List NK × Addr)), x = .ref p /\ y = .ref l /\ NkAt H ks p /\ H l = some (.lst (ms.map λ x => V.ref x.2)) /\ (∀ x ∈ ms, NkAt H x.1 x.2) /\ Q (.bl (b != O6 ms ks)) H
theorem Ra (hu : X.A.units + 2 < cLine) : OpR X (compareOp .NotIn) (vn true) := by
 intro pins s σ H x y v u Q I rx ry h
 obtain ⟨p, l, ks, ms, rfl, rfl, hp, hl, ok, q⟩ := h
 cases rx
 cases ry
 obtain ⟨items, e, h1, h2, h3⟩ := dk hu I hp hl ok
 refine notIn_listAt e h1 h2 ⟨.bl _, H, I, rfl, ?_⟩
 rw [h3]
 cases hk : O6 ms ks <;> rw [hk] at q <;> exact q
theorem ck {H : Hp} {ks ks' : List NK} {p q : Addr} (hu : X.A.units + 2 < cLine) (h : NkAt H ks p) (h' : NkAt H ks' q) (ok : okL ks ks' = true) : GtV X H (.ref p) (.ref q) (ltL ks' ks) := by
 intro pins s σ u u' I r r'
 cases r
 cases r'
 exact Vg (op := .Gt) (.inr rfl) (A := X.A.in1) hu (B6 I.hok h) (B6 I.hok h') ok
def Em (a b : Int × List NK) : Bool := decide (b.1 < a.1) || (decide (a.1 = b.1) && ltL b.2 a.2)
theorem Z9 {H : Hp} {t t' : Int} {ks ks' : List NK} {p q p0 q0 : Addr} (hu : X.A.units + 3 < cLine) (hp : H p0 = some (.tup [.int t, .ref p])) (hq : H q0 = some (.tup [.int t', .ref q])) (h : NkAt H ks p) (h' : NkAt H ks' q) (ok : okL ks ks' = true) : GtV X H (.ref p0) (.ref q0) (Em (t, ks) (t', ks')) := by
 intro pins s σ u u' I r r'
 cases r
 cases r'
 obtain ⟨its, rv, tp, _⟩ := I.tuple (SqT.of (K := X.K) hp)
 obtain ⟨its', rv', tq, _⟩ := I.tuple (SqT.of (K := X.K) hq)
 cases rv with
 | cons r1 rv =>
 cases rv with
 | cons r2 rv =>
 cases rv
 cases rv' with
 | cons r1' rv' =>
 cases rv' with
 | cons r2' rv' =>
 cases rv'
 obtain ⟨tk, rfl⟩ := r1
 obtain ⟨tk', rfl⟩ := r1'
 cases r2
 cases r2'
 refine CmpAt.gtT tp tq (by show X.A.units + 1 < cLine; omega) ?_
 show Ir .Gt X.A.in1.in1 s [.int t tk, .ref p] [.int t' tk', .ref q] (decide (t' < t) || (decide (t = t') && ltL ks' ks))
 have he := e9 (A := X.A.in1.in1) (s := s) (k := .inl t) (k' := .inl t') (u := .int t tk) (u' := .int t' tk') (Ih t tk) (Ih t' tk')
 by_cases e : t = t'
 ·
  subst e
  rw [decide_eq_true rfl] at he
  rw [decide_eq_false (Int.lt_irrefl _), decide_eq_true rfl, Bool.false_or, Bool.true_and]
  refine .eq he ?_
  have hn := Yg (A := X.A.in1.in1) (s := s) hu (B6 I.hok h) (B6 I.hok h')
  by_cases ek : ks = ks'
  ·
   subst ek
   rw [decide_eq_true rfl] at hn
   rw [Du.irr]
   exact .eq hn (.fin (.inl rfl))
  ·
   rw [decide_eq_false ek] at hn
   exact .ne hn (Vg (op := .Gt) (.inr rfl) (A := X.A.in1.in1) hu (B6 I.hok h) (B6 I.hok h') ok)
 ·
  rw [decide_eq_false (λ z => e (Sum.inl.inj z))] at he
  rw [decide_eq_false e, Bool.false_and, Bool.or_false]
  exact .ne he (Ur (op := .Gt) (.inr rfl) (k := .inl t) (k' := .inl t') (Ih t tk) (Ih t' tk') rfl)
theorem jg {H : Hp} {ks ks' : List Key} {p q : Addr} (hu : X.A.units + 2 < cLine) (hp : H p = some (.tup (ks.map kV))) (hq : H q = some (.tup (ks'.map kV))) (ok : okT ks ks' = true) : GtV X H (.ref p) (.ref q) (F4 ltK ks' ks) := by
 intro pins s σ u u' I r r'
 cases r
 cases r'
 obtain ⟨xs, t1, i1⟩ := Pa (Jc I.hok hp)
 obtain ⟨ys, t2, i2⟩ := Pa (Jc I.hok hq)
 exact CmpAt.gtT t1 t2 (by show X.A.units + 1 < cLine; omega) (Pk (op := .Gt) (.inr rfl) i1 i2 ok)
theorem X5 (hc : X.calm = true) : CallR X (.builtin "max") (λ xs H Q => ∃ (l : Addr) (y : V) (ys : List V) (gt : V -> V -> Bool), xs = [.ref l] /\ H l = some (.lst (y :: ys)) /\ (∀ z ∈ y :: ys, ∀ z' ∈ y :: ys, ∀ H', Same H H' -> GtV X H' z z' (gt z z')) /\ ∀ H', Same H H' -> Q (Ga gt y ys) H') := by
 intro pins s σ H xs us Q I r h
 obtain ⟨l, y, ys, gt, rfl, hl, g, q⟩ := h
 obtain ⟨u, rfl, ru⟩ := vals1 r
 cases ru
 exact Ya hc hl (λ pins s σ H' x y v v' u u' I' sm hx hy e1 e2 r1 r2 => by subst e1 e2; exact g _ hx _ hy H' sm pins s σ u u' I' r1 r2) I q
theorem V4 (hc : X.calm = true) : CallR X (.builtin "max") (λ xs H Q => ∃ (x y : V) (gt : V -> V -> Bool), xs = [x, y] /\ (∀ z ∈ [x, y], ∀ z' ∈ [x, y], ∀ H', Same H H' -> GtV X H' z z' (gt z z')) /\ ∀ H', Same H H' -> Q (if gt y x then y else x) H') := by
 intro pins s σ H xs us Q I r h
 obtain ⟨x, y, gt, rfl, g, q⟩ := h
 cases r with
 | cons r1 r =>
 cases r with
 | cons r2 r =>
 cases r
 exact b4 hc r1 r2 (λ H1 s1 pins s σ H' x y v v' u u' I' sm hx hy e1 e2 ra rb => by subst e1 e2; exact g _ hx _ hy H' (s1.trans sm) pins s σ u u' I' ra rb) I q
end
end L2
namespace L2
open PySem PySem.Spec PyProof.Rows
section
variable {prog : Program} {w : World} {K : Type} [DecidableEq K] {knd : HeapKind prog w K} {A : Around} {E : Value -> Shared -> Prop} {s : Shared}
theorem Nd {d a : Addr} {xs : List (K × Addr × Value)} {k : K} {v : Value} {Q : Value -> Shared -> Prop} (hu : knd.room A) (hkey : knd.is s.heap k a) (hm : s.heap.DictOfH knd d xs) (hsz : xs.length <= sizeLine)
  (h1 : ∀ p, atKey xs k = some p -> Q p.2 { s with toks := s.toks + knd.draws k })
  (h2 : atKey xs k = none -> ∀ h', h'.DictOfH knd d (xs ++ [(k, a, v)]) -> Heap.SameBut d s.heap h' -> Q v { s with heap := h', toks := s.toks + knd.draws k }) :
  wpAny (model prog w) A (dictSetDefault d (.ref a) v) Q E s := by
 obtain ⟨o, es, ep, ho, hc, hd, he, his, hn⟩ := hm
 unfold dictSetDefault
 try with_reducible refine wpAny_holding ?_
 refine wpAny_bind (knd.pyHash hu hkey (wpAny_bind (wpAny_dictFind_heap (s := { s with toks := s.toks + knd.draws k }) hu hkey ho hd he his hn ?_ ?_)))
 ·
  intro hno
  have hnot : k ∉ xs.map (·.1) := not_mem_keys_of_get hno
  refine wpAny_bind (wpAny_rule (wpAny_bind (wpAny_updateDictKeys (hz := by have e := size_of_entries he; omega) (s := { s with toks := s.toks + knd.draws k }) ho hd (wpAny_pure (h2 (atKey_none_of_get hno) _ ⟨_, _, ep + 1, Heap.get?_update_self _ ho (Obj.isFreed_of_dict (Obj.data_mapDictKeys hd _)),
   hc.mapDictKeys _, Obj.data_mapDictKeys hd _, by simp [he, entryOfKey], λ x hx => ?_, ?_⟩ (Heap.SameBut.update ..))))))
  ·
   rcases List.mem_append.mp hx with hx | hx
   · exact knd.keeps (his x hx) ho hd (Heap.SameBut.update ..)
   ·
    rw [List.mem_singleton] at hx
    subst hx
    exact knd.keeps hkey ho hd (Heap.SameBut.update ..)
  ·
   rw [List.map_append, List.nodup_append]
   refine ⟨hn, by simp, λ x hx y hy => ?_⟩
   simp only [List.map_cons, List.map_nil, List.mem_singleton] at hy
   subst hy
   exact λ e => hnot (e ▸ hx)
 ·
  intro j p hj
  refine wpAny_bind (wpAny_dictEntries (s := { s with toks := s.toks + knd.draws k }) ho hd ?_)
  rw [entry_at he j, hj]
  exact wpAny_bind (wpAny_rule (wpAny_pure (h1 p (atKey_of_get hn hj))))
end
section
variable {X : Cx}
theorem Xq (hu : X.A.units + 1 < cLine) : MtR X "dict.setdefault" (λ x xs H Q => ∃ (a b : Addr) (kvs : List (List Key × V)) (k : List Key) (v : V), x = .ref a /\ xs = [.ref b, v] /\ H a = some (.dT kvs) /\ H b = some (.tup (k.map kV)) /\ kvs.length < sizeLine /\
  ((∃ w, Eu kvs k = some w /\ Q w H) ∨ (Eu kvs k = none /\ Q v (upd H a (.dT (putK kvs k v)))))) := by
 intro pins s σ H x xs v us Q I rx r h
 obtain ⟨a, b, kvs, k, v0, rfl, rfl, ha, hb, hl, h⟩ := h
 cases rx
 cases r with
 | cons r1 r =>
 cases r with
 | @cons _ u2 _ _ r2 r =>
 cases r
 cases r1
 obtain ⟨z, hd, ys, rel, dd⟩ := gv I.hok ha
 have hz : ys.length <= sizeLine := by rw [← Paired.length rel]; exact z
 refine wpAny_call_entry PySem.F.slot_dict_setdefault dd.typeIs PySem.F.entry_dict_setdefault ?_ (PySem.F.args_dict_setdefault_3 _ _ _)
 unfold Builtin.«dict.setdefault»
 refine wpAny_bind ?_
 unfold Builtin.Dict.keyAndDefault
 refine wpAny_bind (wpAny_notOrdered_dict dd.typeIs ?_)
 show wpAny _ _ (pure (a, Value.ref b, some u2)) _ _ s
 refine wpAny_pure ?_
 show wpAny _ _ (if (a == sysModules) = true then _ else (dictSetDefault a (.ref b) u2 >>= _)) _ _ s
 rw [if_neg (by rw [hd]; exact Bool.false_ne_true)]
 refine wpAny_bind (Nd (knd := tupleKind (Bg X.prog X.w)) (tupleKind_room_in1 hu) (Jc I.hok hb) dd hz (λ p hp => ?_) λ hno h' dd' hs => ?_)
 ·
  have rv := rel.val k
  rw [hp] at rv
  rcases h with ⟨w, e, q⟩ | ⟨e, _⟩
  ·
   rw [e] at rv
   exact wpAny_pure ⟨_, rfl, w, H, I.tok _, rv, q⟩
  ·
   rw [e] at rv
   exact rv.elim
 ·
  have rv := rel.val k
  rw [hno] at rv
  rcases h with ⟨w, e, q⟩ | ⟨e, q⟩
  ·
   rw [e] at rv
   exact rv.elim
  ·
   obtain ⟨o, es, ep, hq, h2, h3, h4, _, h5⟩ := dd'
   have st : storedH ys k b u2 = ys ++ [(k, b, u2)] := storedH_new hno b u2
   have hl' : (putK kvs k v0).length <= sizeLine := by have := Dv kvs k v0; omega
   refine wpAny_pure ⟨_, rfl, v0, _, Qc (ob := .dT (putK kvs k v0)) I (by rw [ha]; exact True.intro) hs ⟨o, hq⟩ ⟨hl', hd, _, (rel.put k hb r2).keeps λ c zs ec => ?_, o, es, ep, hq, h2, h3, by rw [st]; exact h4, by rw [st]; exact h5⟩, r2, q⟩
   rw [Al (Eo ec ha (λ z => nomatch z))]
   exact ec
end
section
variable {X : Cx} {o i value : Expr} {td ty tv : TE} {pos pos' : Pos}
def bw (P : Program) (w : World) (td ty tv : TE) : TS := λ D σ H => tv σ H λ v H1 => td σ H1 λ x H2 => ty σ H2 λ y H3 => ∃ (a p : Addr) (ks : List NK) (xs : List (List NK × Addr)), x = .ref a /\ y = .ref p /\ v = .bl true /\ NkAt H3 ks p /\ KeptAt P w H3 a xs /\ O6 xs ks = false /\ xs.length < 1000 /\
 D.nx σ (upd H3 a (Jv P w a (xs ++ [(ks, p)])))
theorem W5 (hu : X.A.units + 2 < cLine) (ho : PE X o td) (hi : PE X i ty) (hv : PE X value tv) (hs : swapsWith value (some (.Subscript o i pos')) pos.line X.env = pure false) : PS X (.Assign [.Subscript o i pos'] value pos) (bw X.prog X.w td ty tv) := by
 intro pins s σ H D I h
 refine wpAny_Assign_Subscript (thn (hv pins s σ H _ I h) λ r s1 ⟨v, H1, I1, rv, q1⟩ => thn (ho pins s1 σ H1 _ I1 q1) λ u s2 ⟨x, H2, I2, rx, q2⟩ => thn (hi pins s2 σ H2 _ I2 q2) λ iv s3 ⟨y, H3, I3, ry, a, p, ks, xs, ex, ey, ev, hp, hk, hn, hl, q3⟩ => ?_) hs
 subst ex ey ev
 cases rx
 cases ry
 cases rv
 exact b7 hu I3 hp hk hn hl λ s4 I4 => ⟨σ, _, I4, q3⟩
end
abbrev MBs := List ((Str × Int) × Addr × List (Lt × Addr))
def bsK (bs : MBs) : List (List Key × V) := bs.map λ b => ([.inr b.1.1, .inl b.1.2], .ref b.2.1)
def Lt.mk (l : Lt) : Str × Int := (l.asker, l.number)
def ofM (k : Str × Int) (ms : List (Lt × Addr)) : List (Lt × Addr) := ms.filter λ y => decide (y.1.mk = k)
theorem Yu (k : Str × Int) (ms : List (Lt × Addr)) (y : Lt × Addr) : ofM k (ms ++ [y]) = ofM k ms ++ (if y.1.mk = k then [y] else []) := by
 unfold ofM
 rw [List.filter_append, List.filter_cons]
 by_cases e : y.1.mk = k
 · rw [decide_eq_true e, if_pos rfl, if_pos e]; rfl
 · rw [decide_eq_false e, if_neg Bool.false_ne_true, if_neg e]; rfl
theorem Xh {α β : Type} {f : α -> β} : ∀ {l : List α}, (l.map f).Nodup -> ∀ {x y : α}, x ∈ l -> y ∈ l -> f x = f y -> x = y
 | [], _, _, _, h, _, _ => nomatch h
 |
  a :: l, nd, x, y, hx, hy, e => by
  rw [List.map_cons, List.nodup_cons] at nd
  rcases List.mem_cons.mp hx with hx1 | hx1
  ·
   subst hx1
   rcases List.mem_cons.mp hy with rfl | hy
   · rfl
   · exact absurd (by rw [e]; exact List.mem_map_of_mem hy) nd.1
  ·
   rcases List.mem_cons.mp hy with hy1 | hy1
   ·
    subst hy1
    exact absurd (by rw [← e]; exact List.mem_map_of_mem hx1) nd.1
   · exact Xh nd.2 hx1 hy1 e
structure BsOk (H : Hp) (ms : List (Lt × Addr)) (bs : MBs) : Prop where
 at_ : ∀ b ∈ bs, H b.2.1 = some (.lst (b.2.2.map λ x => V.ref x.2))
 is_ : ∀ b ∈ bs, b.2.2 = ofM b.1 ms
 nd : (bs.map (·.2.1)).Nodup
 kd : (bs.map (·.1)).Nodup
 all : ∀ y ∈ ms, y.1.mk ∈ bs.map (·.1)
theorem BsOk.up {H H' : Hp} {ms : List (Lt × Addr)} {bs : MBs} (h : BsOk H ms bs) (e : ∀ b ∈ bs, ∀ o, H b.2.1 = some o -> H' b.2.1 = some o) : BsOk H' ms bs := ⟨λ b hb => e b hb _ (h.at_ b hb), h.is_, h.nd, h.kd, h.all⟩
theorem gf {bs : MBs} {k : Str × Int} {v : V} (h : Eu (bsK bs) [.inr k.1, .inl k.2] = some v) : ∃ b ∈ bs, b.1 = k /\ v = .ref b.2.1 := by
 unfold Eu at h
 obtain ⟨x, hx, rfl⟩ := Option.map_eq_some_iff.mp h
 obtain ⟨b, hb, rfl⟩ := List.mem_map.mp (List.mem_of_find?_eq_some hx)
 have e := List.find?_some hx
 have e' := of_decide_eq_true e
 injection e' with e1 e2
 injection e2 with e2 _
 exact ⟨b, hb, Prod.ext (Sum.inr.inj e1) (Sum.inl.inj e2), rfl⟩
theorem ai {bs : MBs} {k : Str × Int} (h : Eu (bsK bs) [.inr k.1, .inl k.2] = none) : k ∉ bs.map (·.1) := λ z => by
 obtain ⟨b, hb, rfl⟩ := List.mem_map.mp z
 unfold Eu at h
 rw [Option.map_eq_none_iff, List.find?_eq_none] at h
 exact h _ (List.mem_map_of_mem (f := λ b : (Str × Int) × Addr × List (Lt × Addr) => (([.inr b.1.1, .inl b.1.2], .ref b.2.1) : List Key × V)) hb) (decide_eq_true rfl)
def oj (l : Lt) (p : Addr) (y : (Str × Int) × Addr × List (Lt × Addr)) : (Str × Int) × Addr × List (Lt × Addr) := (y.1, y.2.1, y.2.2 ++ (if l.mk = y.1 then [(l, p)] else []))
theorem Xt (l : Lt) (p : Addr) (bs : MBs) : bsK (bs.map (oj l p)) = bsK bs := by unfold bsK; rw [List.map_map]; rfl
theorem BsOk.putS {H H' : Hp} {ms : List (Lt × Addr)} {bs : MBs} {l : Lt} {p : Addr} {b : (Str × Int) × Addr × List (Lt × Addr)} (h : BsOk H ms bs) (hb : b ∈ bs) (hk : b.1 = l.mk)
  (e1 : H' b.2.1 = some (.lst ((b.2.2.map λ x => V.ref x.2) ++ [.ref p]))) (e2 : ∀ y ∈ bs, y.2.1 ≠ b.2.1 -> H' y.2.1 = H y.2.1) : BsOk H' (ms ++ [(l, p)]) (bs.map (oj l p)) where
 at_ := λ y' hy' => by
  obtain ⟨y, hy, rfl⟩ := List.mem_map.mp hy'
  show H' y.2.1 = some (.lst ((y.2.2 ++ (if l.mk = y.1 then [(l, p)] else [])).map λ x => V.ref x.2))
  by_cases e : y.1 = l.mk
  ·
   have : y = b := Xh h.kd hy hb (e.trans hk.symm)
   subst this
   rw [e1, if_pos e.symm, List.map_append]
   rfl
  ·
   have ne : y.2.1 ≠ b.2.1 := λ z => e (by rw [Xh h.nd hy hb z]; exact hk)
   rw [e2 y hy ne, if_neg (λ z => e z.symm), List.append_nil]
   exact h.at_ y hy
 is_ := λ y' hy' => by
  obtain ⟨y, hy, rfl⟩ := List.mem_map.mp hy'
  show y.2.2 ++ _ = ofM y.1 (ms ++ [(l, p)])
  rw [Yu, ← h.is_ y hy]
 nd := by
  rw [List.map_map]
  exact h.nd
 kd := by
  rw [List.map_map]
  exact h.kd
 all := λ y hy => by
  rw [List.map_map]
  show y.1.mk ∈ bs.map (·.1)
  rcases List.mem_append.mp hy with hy | hy
  · exact h.all y hy
  ·
   rw [List.mem_singleton] at hy
   subst hy
   rw [← hk]
   exact List.mem_map_of_mem hb
theorem Z6 {k : Str × Int} {ms : List (Lt × Addr)} (h : ∀ y ∈ ms, y.1.mk ≠ k) : ofM k ms = [] := by
 unfold ofM
 rw [List.filter_eq_nil_iff]
 intro y hy z
 exact h y hy (of_decide_eq_true z)
theorem BsOk.putN {H H' : Hp} {ms : List (Lt × Addr)} {bs : MBs} {l : Lt} {p N : Addr} (h : BsOk H ms bs) (hk : l.mk ∉ bs.map (·.1)) (hN : ∀ y ∈ bs, y.2.1 ≠ N)
  (e1 : H' N = some (.lst [.ref p])) (e2 : ∀ y ∈ bs, H' y.2.1 = H y.2.1) : BsOk H' (ms ++ [(l, p)]) (bs ++ [(l.mk, N, [(l, p)])]) where
 at_ := λ y hy => by
  rcases List.mem_append.mp hy with hy | hy
  · rw [e2 y hy]; exact h.at_ y hy
  ·
   rw [List.mem_singleton] at hy
   subst hy
   exact e1
 is_ := λ y hy => by
  rw [Yu]
  rcases List.mem_append.mp hy with hy | hy
  · rw [← h.is_ y hy, if_neg (λ z => hk (by rw [show l.mk = y.1 from z]; exact List.mem_map_of_mem hy)), List.append_nil]
  ·
   rw [List.mem_singleton] at hy
   subst hy
   rw [Z6 (λ z hz e => hk ((show z.1.mk = l.mk from e) ▸ h.all z hz)), if_pos rfl]
   rfl
 nd := by
  rw [List.map_append, List.nodup_append]
  refine ⟨h.nd, List.pairwise_singleton _ _, λ x hx y hy => ?_⟩
  obtain ⟨z, hz, rfl⟩ := List.mem_map.mp hx
  rw [List.map_singleton, List.mem_singleton] at hy
  subst hy
  exact hN z hz
 kd := by
  rw [List.map_append, List.nodup_append]
  refine ⟨h.kd, List.pairwise_singleton _ _, λ x hx y hy => ?_⟩
  rw [List.map_singleton, List.mem_singleton] at hy
  subst hy
  exact λ e => hk ((show x = l.mk from e) ▸ hx)
 all := λ y hy => by
  rw [List.map_append, List.mem_append]
  rcases List.mem_append.mp hy with hy | hy
  · exact .inl (h.all y hy)
  ·
   rw [List.mem_singleton] at hy
   subst hy
   exact .inr (List.mem_singleton.mpr rfl)
theorem LtAt.upT {H H' : Hp} {l : Lt} {p : Addr} (h : LtAt H l p) (ht : ∀ b xs, H b = some (.tup xs) -> H' b = some (.tup xs)) : LtAt H' l p := by
 obtain ⟨vs, hp, r⟩ := h
 refine ⟨vs, ht _ _ hp, ?_⟩
 cases l with
 | bid => obtain ⟨q, e, h⟩ := r; exact ⟨q, e, ht _ _ h⟩
 | off => exact r
 | close => obtain ⟨q, e, h⟩ := r; exact ⟨q, e, ht _ _ h⟩
 | ans => exact r
structure TabAt (P : Program) (w : World) (C : Addr) (H : Hp) (x k m t : Addr) (ms : List (Lt × Addr)) (bs : MBs) (ts : List (List Key × V)) : Prop where
 ins : ∃ dx, H x = some (.ins C dx [("kept", .ref k), ("by_meeting", .ref m), ("tellings", .ref t)])
 kept : KeptAt P w H k (nks ms)
 ok : ∀ y ∈ ms, LtAt H y.1 y.2
 sz : ∀ y ∈ ms, Y7 y.1
 byM : H m = some (.dT (bsK bs))
 told : H t = some (.dT ts)
 ne : m ≠ t
 by_ : BsOk H ms bs
 few : ms.length <= 900 /\ bs.length <= ms.length /\ ts.length <= ms.length
theorem ku {H : Hp} {ms : List (Lt × Addr)} {bs : MBs} (h : BsOk H ms bs) (ok : ∀ y ∈ ms, LtAt H y.1 y.2) (hf : ms.length <= 901) {b : (Str × Int) × Addr × List (Lt × Addr)} (hb : b ∈ bs) : LtsAt H b.2.1 b.2.2 := by
 refine ⟨h.at_ b hb, λ y hy => ok y ?_, ?_⟩
 ·
  rw [h.is_ b hb] at hy
  exact (List.mem_filter.mp hy).1
 ·
  rw [h.is_ b hb]
  exact Nat.le_trans (List.length_filter_le _ _) (by omega)
def bq (k m t : Addr) (bs : MBs) (b : Addr) : Prop := b = k ∨ b = m ∨ b = t ∨ ∃ y ∈ bs, y.2.1 = b
theorem TabAt.up {P : Program} {w : World} {C : Addr} {H H' : Hp} {x k m t : Addr} {ms : List (Lt × Addr)} {bs : MBs} {ts : List (List Key × V)} (h : TabAt P w C H x k m t ms bs ts) (s : Same H H') : TabAt P w C H' x k m t ms bs ts :=
 ⟨let ⟨dx, e⟩ := h.ins; ⟨dx, s _ _ e⟩, h.kept.up s, λ y hy => (h.ok y hy).up s, h.sz, s _ _ h.byM, s _ _ h.told, h.ne, h.by_.up λ _ _ o e => s _ o e, h.few⟩
theorem TabAt.own {P : Program} {w : World} {C : Addr} {H : Hp} {x k m t : Addr} {ms : List (Lt × Addr)} {bs : MBs} {ts : List (List Key × V)} (h : TabAt P w C H x k m t ms bs ts) {b : Addr} (o : bq k m t bs b) : H b ≠ none := by
 rcases o with rfl | rfl | rfl | ⟨y, hy, rfl⟩
 · rcases h.kept.at_ with e | ⟨_, e⟩ <;> rw [e] <;> exact λ z => nomatch z
 · rw [h.byM]; exact λ z => nomatch z
 · rw [h.told]; exact λ z => nomatch z
 · rw [h.by_.at_ y hy]; exact λ z => nomatch z
noncomputable def Frm (M : Addr -> Prop) (H : Hp) : Hp := λ b => open Classical in if M b then none else H b
theorem Frm.iff {M : Addr -> Prop} {H : Hp} {b : Addr} {o : HO} : Frm M H b = some o ↔ ¬ M b /\ H b = some o := by
 unfold Frm
 by_cases h : M b
 · rw [if_pos h]; exact ⟨(λ z => nomatch z), (λ z => absurd h z.1)⟩
 · rw [if_neg h]; exact ⟨λ z => ⟨h, z⟩, λ z => z.2⟩
theorem Frm.same {M : Addr -> Prop} {H : Hp} : Same (Frm M H) H := λ _ _ e => (Frm.iff.mp e).2
theorem Frm.step {M M' : Addr -> Prop} {H H' : Hp} (h : ∀ b o, H b = some o -> ¬ M b -> H' b = some o) (hm : ∀ b, M' b -> M b ∨ H b = none) : Same (Frm M H) (Frm M' H') := λ b o e => by
 obtain ⟨h1, h2⟩ := Frm.iff.mp e
 exact Frm.iff.mpr ⟨(λ z => (hm b z).elim h1 (λ y => by rw [h2] at y; cases y)), h b o h2 h1⟩
theorem Frm.grow {M : Addr -> Prop} {H H' : Hp} (s : Same H H') : Same (Frm M H) (Frm M H') := Frm.step (λ b o e _ => s b o e) λ _ h => .inl h
theorem Frm.put {M : Addr -> Prop} {H : Hp} {a : Addr} {o : HO} (ha : M a) : Same (Frm M H) (Frm M (upd H a o)) := Frm.step (λ b u e n => by rw [Al (λ z => n (by rw [z]; exact ha))]; exact e) λ _ h => .inl h
theorem Frm.laid {M : Addr -> Prop} {H : Hp} {a : Addr} {o : HO} (hM : ∀ b, M b -> H b ≠ none) (ha : H a = none) : Frm M (upd H a o) a = some o := Frm.iff.mpr ⟨λ z => hM a z ha, Ae⟩
theorem TabAt.frame {P : Program} {w : World} {C : Addr} {H H' : Hp} {x k m t : Addr} {ms : List (Lt × Addr)} {bs : MBs} {ts : List (List Key × V)} (h : TabAt P w C H x k m t ms bs ts) (e : ∀ b o, H b = some o -> bq k m t bs b ∨ b = x -> H' b = some o) (ht : ∀ y ∈ ms, LtAt H' y.1 y.2) : TabAt P w C H' x k m t ms bs ts :=
 ⟨let ⟨dx, e1⟩ := h.ins; ⟨dx, e _ _ e1 (.inr rfl)⟩, ⟨h.kept.at_.elim (λ z => .inl (e _ _ z (.inl (.inl rfl)))) (λ z => .inr ⟨z.1, e _ _ z.2 (.inl (.inl rfl))⟩), Zc ht, h.kept.few⟩, ht, h.sz, e _ _ h.byM (.inl (.inr (.inl rfl))), e _ _ h.told (.inl (.inr (.inr (.inl rfl)))), h.ne, h.by_.up λ b hb o z => e _ _ z (.inl (.inr (.inr (.inr ⟨b, hb, rfl⟩)))), h.few⟩
section
variable {P : Program} {w : World} {C : Addr} {H H3 H4 H5 : Hp} {x dx k m t q L N p : Addr} {l : Lt} {ms : List (Lt × Addr)} {bs bs' : MBs} {ts : List (List Key × V)}
theorem KeptAt.upL {H' : Hp} {xs : List (List NK × Addr)} (hk : KeptAt P w H k xs) (ht : ∀ b ys, H b = some (.tup ys) -> H' b = some (.tup ys)) (e : H' k = H k) : KeptAt P w H' k xs := ⟨by rw [e]; exact hk.at_, λ x hx => (hk.ok x hx).upT ht, hk.few⟩
theorem KeptAt.ne_lst {xs : List (List NK × Addr)} {a : Addr} {ys : List V} (hk : KeptAt P w H k xs) (ha : H a = some (.lst ys)) : k ≠ a := by
 rcases hk.at_ with e | ⟨_, e⟩
 · exact Eo e ha (λ z => nomatch z)
 · exact Eo e ha (λ z => nomatch z)
theorem KeptAt.ne_dT {xs : List (List NK × Addr)} {a : Addr} {ys : List (List Key × V)} (hk : KeptAt P w H k xs) (ha : H a = some (.dT ys)) : k ≠ a := by
 rcases hk.at_ with e | ⟨_, e⟩
 · exact Eo e ha (λ z => nomatch z)
 · exact Eo e ha (λ z => nomatch z)
structure MidT (P : Program) (w : World) (C : Addr) (H H4 : Hp) (x dx k m t q L : Addr) (l : Lt) (p : Addr) (ms : List (Lt × Addr)) (bs bs' : MBs) (ts : List (List Key × V)) : Prop where
 fr : ∀ b o, H b = some o -> ¬ bq k m t bs b -> H4 b = some o
 new : ∀ y ∈ bs', (∃ z ∈ bs, z.2.1 = y.2.1) ∨ H y.2.1 = none
 q_ : H4 q = some (.tup [.str l.asker, .int l.number])
 ins : H4 x = some (.ins C dx [("kept", .ref k), ("by_meeting", .ref m), ("tellings", .ref t)])
 kept : KeptAt P w H4 k (nks (ms ++ [(l, p)]))
 ok : ∀ y ∈ ms ++ [(l, p)], LtAt H4 y.1 y.2
 byM : H4 m = some (.dT (bsK bs'))
 told : H4 t = some (.dT ts)
 by_ : BsOk H4 (ms ++ [(l, p)]) bs'
 few : bs'.length <= bs.length + 1
 at_ : ∃ b ∈ bs', b.1 = l.mk /\ b.2.1 = L
 val : Eu (bsK bs') [.inr l.asker, .inl l.number] = some (.ref L)
theorem bf {b : (Str × Int) × Addr × List (Lt × Addr)} (fr : ∀ b o, H b = some o -> b ≠ k -> H3 b = some o) (hq : H3 q = some (.tup [.str l.asker, .int l.number])) (hx : H3 x = some (.ins C dx [("kept", .ref k), ("by_meeting", .ref m), ("tellings", .ref t)]))
  (hk : KeptAt P w H3 k (nks (ms ++ [(l, p)]))) (hok : ∀ y ∈ ms ++ [(l, p)], LtAt H3 y.1 y.2) (hm : H3 m = some (.dT (bsK bs))) (ht : H3 t = some (.dT ts)) (hb : BsOk H3 ms bs) (hN : H3 N = none) (hv : Eu (bsK bs) [.inr l.asker, .inl l.number] = some (.ref b.2.1)) (hbm : b ∈ bs) (hbk : b.1 = l.mk) :
  MidT P w C H (upd (upd H3 N (.lst [])) b.2.1 (.lst ((b.2.2.map λ x => V.ref x.2) ++ [.ref p]))) x dx k m t q b.2.1 l p ms bs (bs.map (oj l p)) ts := by
 have hL := hb.at_ b hbm
 have go : ∀ {c : Addr} {o : HO}, H3 c = some o -> c ≠ b.2.1 -> (upd (upd H3 N (.lst [])) b.2.1 (.lst ((b.2.2.map λ x => V.ref x.2) ++ [.ref p]))) c = some o := λ {c o} e ne => by rw [Al ne, Al (Aq e hN)]; exact e
 have tp : ∀ c ys, H3 c = some (.tup ys) -> (upd (upd H3 N (.lst [])) b.2.1 (.lst ((b.2.2.map λ x => V.ref x.2) ++ [.ref p]))) c = some (.tup ys) := λ c ys e => go e (Eo e hL (λ z => nomatch z))
 refine ⟨λ c o e n => ?_, λ y hy => ?_, tp _ _ hq, go hx (Eo hx hL (λ z => nomatch z)), hk.upL tp ?_, λ y hy => (hok y hy).upT tp, ?_, go ht (Eo ht hL (λ z => nomatch z)), hb.putS hbm hbk Ae (λ y hy ne => ?_), by rw [List.length_map]; exact Nat.le_succ _, ⟨oj l p b, List.mem_map_of_mem hbm, hbk, rfl⟩, by rw [Xt]; exact hv⟩
 · exact go (fr c o e λ z => n (.inl z)) λ z => n (.inr (.inr (.inr ⟨b, hbm, z.symm⟩)))
 ·
  obtain ⟨z, hz, rfl⟩ := List.mem_map.mp hy
  exact .inl ⟨z, hz, rfl⟩
 ·
  rw [Al (hk.ne_lst hL), Al]
  rintro rfl
  rcases hk.at_ with e | ⟨_, e⟩ <;> rw [e] at hN <;> cases hN
 ·
  rw [Xt]
  exact go hm (Eo hm hL (λ z => nomatch z))
 · rw [Al ne, Al (Aq (hb.at_ y hy) hN)]
theorem bb (fr : ∀ b o, H b = some o -> b ≠ k -> H3 b = some o) (hq : H3 q = some (.tup [.str l.asker, .int l.number])) (hx : H3 x = some (.ins C dx [("kept", .ref k), ("by_meeting", .ref m), ("tellings", .ref t)]))
  (hk : KeptAt P w H3 k (nks (ms ++ [(l, p)]))) (hk0 : H k ≠ none) (hok : ∀ y ∈ ms ++ [(l, p)], LtAt H3 y.1 y.2) (hm : H3 m = some (.dT (bsK bs))) (ht : H3 t = some (.dT ts)) (ne : m ≠ t) (hb : BsOk H3 ms bs) (hN : H3 N = none) (hv : Eu (bsK bs) [.inr l.asker, .inl l.number] = none) :
  MidT P w C H (upd (upd (upd H3 N (.lst [])) m (.dT (putK (bsK bs) [.inr l.asker, .inl l.number] (.ref N)))) N (.lst ([] ++ [.ref p]))) x dx k m t q N l p ms bs (bs ++ [(l.mk, N, [(l, p)])]) ts := by
 have hkN : k ≠ N := by
  rintro rfl
  rcases hk.at_ with e | ⟨_, e⟩ <;> rw [e] at hN <;> cases hN
 have hmN : m ≠ N := Aq hm hN
 have go : ∀ {c : Addr} {o : HO}, H3 c = some o -> c ≠ m -> (upd (upd (upd H3 N (.lst [])) m (.dT (putK (bsK bs) [.inr l.asker, .inl l.number] (.ref N)))) N (.lst ([] ++ [.ref p]))) c = some o := λ {c o} e n => by
  have nN := Aq e hN
  rw [Al nN, Al n, Al nN]; exact e
 have tp : ∀ c ys, H3 c = some (.tup ys) -> (upd (upd (upd H3 N (.lst [])) m (.dT (putK (bsK bs) [.inr l.asker, .inl l.number] (.ref N)))) N (.lst ([] ++ [.ref p]))) c = some (.tup ys) := λ c ys e => go e (Eo e hm (λ z => nomatch z))
 have eK : putK (bsK bs) [.inr l.asker, .inl l.number] (.ref N) = bsK (bs ++ [(l.mk, N, [(l, p)])]) := by
  rw [b6 _ hv]
  unfold bsK
  rw [List.map_append]
  rfl
 have lN : ∀ y ∈ bs, y.2.1 ≠ N := λ y hy => Aq (hb.at_ y hy) hN
 refine ⟨λ c o e n => ?_, λ y hy => ?_, tp _ _ hq, go hx (Eo hx hm (λ z => nomatch z)), hk.upL tp ?_, λ y hy => (hok y hy).upT tp, ?_, go ht (λ z => ne z.symm), hb.putN (ai (k := l.mk) hv) lN Ae (λ y hy => ?_), by rw [List.length_append]; exact Nat.le_refl _, ⟨_, List.mem_append_right _ (List.mem_singleton.mpr rfl), rfl, rfl⟩, ?_⟩
 · exact go (fr c o e λ z => n (.inl z)) λ z => n (.inr (.inl z))
 ·
  rcases List.mem_append.mp hy with hy | hy
  · exact .inl ⟨y, hy, rfl⟩
  ·
   rw [List.mem_singleton] at hy
   subst hy
   right
   show H N = none
   cases e : H N with
   | none => rfl
   | some o => rw [fr N o e (λ z => hkN z.symm)] at hN; cases hN
 · rw [Al hkN, Al (hk.ne_dT hm), Al hkN]
 ·
  rw [← eK, Al hmN]
  exact Ae
 · rw [Al (lN y hy), Al (Eo (hb.at_ y hy) hm (λ z => nomatch z)), Al (lN y hy)]
 ·
  rw [← eK]
  rw [Jx, if_pos rfl]
theorem MidT.tab (M : MidT P w C H H4 x dx k m t q L l p ms bs bs' ts) (hsz : ∀ y ∈ ms, Y7 y.1) (sl : Y7 l) (f1 : ms.length < 900) (f2 : bs.length <= ms.length) (f3 : ts.length <= ms.length) (ne : m ≠ t) (s : Same H4 H5) : TabAt P w C H5 x k m t (ms ++ [(l, p)]) bs' ts :=
 TabAt.up (H := H4) ⟨⟨dx, M.ins⟩, M.kept, M.ok, λ y hy => (List.mem_append.mp hy).elim (hsz y) λ z => by rw [List.mem_singleton] at z; subst z; exact sl, M.byM, M.told, ne, M.by_, by rw [List.length_append]; show _ + 1 <= _; omega, by rw [List.length_append]; exact Nat.le_trans M.few (Nat.succ_le_succ f2), by rw [List.length_append]; exact Nat.le_succ_of_le f3⟩ s
theorem TabAt.tell {ts' : List (List Key × V)} (h : TabAt P w C H x k m t ms bs ts) (hl : ts'.length <= ms.length) : TabAt P w C (upd H t (.dT ts')) x k m t ms bs ts' := by
 have go : ∀ {c : Addr} {o : HO}, H c = some o -> o ≠ .dT ts -> (upd H t (.dT ts')) c = some o := λ {c o} e n => by rw [Al (Eo e h.told n)]; exact e
 have tp : ∀ c ys, H c = some (.tup ys) -> (upd H t (.dT ts')) c = some (.tup ys) := λ c ys e => go e (λ z => nomatch z)
 refine ⟨let ⟨dx, e⟩ := h.ins; ⟨dx, go e (λ z => nomatch z)⟩, h.kept.upL tp (by rw [Al (h.kept.ne_dT h.told)]), λ y hy => (h.ok y hy).upT tp, h.sz, by rw [Al h.ne]; exact h.byM, Ae, h.ne, h.by_.up λ b hb o e => ?_, h.few.1, h.few.2.1, hl⟩
 rw [h.by_.at_ b hb] at e
 cases e
 exact go (h.by_.at_ b hb) (λ z => nomatch z)
end
theorem TabAt.notup {P : Program} {w : World} {C : Addr} {H : Hp} {x k m t : Addr} {ms : List (Lt × Addr)} {bs : MBs} {ts : List (List Key × V)} (T : TabAt P w C H x k m t ms bs ts) {b : Addr} {xs : List V} (h : H b = some (.tup xs)) : ¬ bq k m t bs b := by
 rintro (z | z | z | ⟨y, hy, z⟩)
 · rw [z] at h; exact T.kept.notup _ h
 · rw [z, T.byM] at h; cases h
 · rw [z, T.told] at h; cases h
 · rw [← z, T.by_.at_ y hy] at h; cases h
def Atm : V -> Prop
 | .int _ => True
 | .str _ => True
 | .non => True
 | _ => False
def AlH (H : Hp) : Nat -> V -> V -> Prop
 | 0, _, _ => False
 | n + 1, v, u => (v = u /\ Atm v) ∨ ∃ (p q : Addr) (xs ys : List V), v = .ref p /\ u = .ref q /\ ((H p = some (.tup xs) /\ H q = some (.tup ys)) ∨ (H p = some (.lst xs) /\ H q = some (.lst ys))) /\ xs.length = ys.length /\ ys.length <= 1000 /\ ∀ (i : Nat) (x y : V), xs[i]? = some x -> ys[i]? = some y -> AlH H n x y
theorem AlH.up {H H' : Hp} (s : Same H H') : ∀ {n : Nat} {v u : V}, AlH H n v u -> AlH H' n v u
 | 0, _, _, h => h
 | n + 1, _, _, h => h.imp id λ ⟨p, q, xs, ys, e1, e2, e3, e4, e5, e6⟩ => ⟨p, q, xs, ys, e1, e2, e3.imp (λ z => ⟨s _ _ z.1, s _ _ z.2⟩) (λ z => ⟨s _ _ z.1, s _ _ z.2⟩), e4, e5, λ i x y h1 h2 => AlH.up s (e6 i x y h1 h2)⟩
theorem lr {A : V -> V -> Prop} : ∀ (i : Nat) (x y : V), ([] : List V)[i]? = some x -> ([] : List V)[i]? = some y -> A x y := λ i x y h => by cases h
theorem P7 {A : V -> V -> Prop} {x y : V} {xs ys : List V} (h : A x y) (t : ∀ (i : Nat) (x y : V), xs[i]? = some x -> ys[i]? = some y -> A x y) : ∀ (i : Nat) (a b : V), (x :: xs)[i]? = some a -> (y :: ys)[i]? = some b -> A a b
 | 0, a, b, e, f => by cases e; cases f; exact h
 | i + 1, a, b, e, f => t i a b (by simpa using e) (by simpa using f)
theorem sj {H : Hp} {n : Nat} {i : Int} : AlH H (n + 1) (.int i) (.int i) := .inl ⟨rfl, True.intro⟩
theorem xc {H : Hp} {n : Nat} {x : Str} : AlH H (n + 1) (.str x) (.str x) := .inl ⟨rfl, True.intro⟩
theorem Zn {X : Cx} {K : W.Frag} (hK : X.K = K) : IxR X (rIx K) := by subst hK; exact kh
def MK (k m t : Addr) (bs : MBs) (Kp Hd : Addr) (b : Addr) : Prop := bq k m t bs b ∨ b = Kp ∨ b = Hd
def HeldAt (H : Hp) (h : Addr) : Prop := ∃ v u, H h = some (.tup [v, u]) /\ AlH H 6 v u
theorem HeldAt.up {H H' : Hp} {h : Addr} (x : HeldAt H h) (s : Same H H') : HeldAt H' h := let ⟨v, u, e, q⟩ := x; ⟨v, u, s _ _ e, q.up s⟩
structure LI (F : Lt -> Prop) (P : Program) (w : World) (C : Addr) (H0 H : Hp) (x k m t Kp Hd : Addr) (ms : List (Lt × Addr)) (bs : MBs) (ts : List (List Key × V)) (hs : List Addr) : Prop where
 base : Same H0 (Frm (MK k m t bs Kp Hd) H)
 tab : TabAt P w C H x k m t ms bs ts
 lok : ∀ y ∈ ms, F y.1
 nd : (ms.map λ y => y.1.nk).Nodup
 kp : H Kp = some (.lst (ms.map λ y => V.ref y.2))
 hd : H Hd = some (.lst (hs.map V.ref))
 held : ∀ h ∈ hs, HeldAt (Frm (MK k m t bs Kp Hd) H) h
 sep : ∀ y ∈ bs, y.2.1 ≠ Kp /\ y.2.1 ≠ Hd
 ne : Kp ≠ Hd
section
variable {F : Lt -> Prop} {P : Program} {w : World} {C : Addr} {H0 H H' : Hp} {x k m t Kp Hd : Addr} {ms : List (Lt × Addr)} {bs bs' : MBs} {ts ts' : List (List Key × V)} {hs : List Addr} {l : Lt} {p : Addr}
theorem LI.up (I : LI F P w C H0 H x k m t Kp Hd ms bs ts hs) (s : Same H H') : LI F P w C H0 H' x k m t Kp Hd ms bs ts hs :=
 ⟨I.base.trans (Frm.grow s), I.tab.up s, I.lok, I.nd, s _ _ I.kp, s _ _ I.hd, λ h hh => (I.held h hh).up (Frm.grow s), I.sep, I.ne⟩
theorem Xw {a : Addr} {ys : List V} (T : TabAt P w C H x k m t ms bs ts) (ha : H a = some (.lst ys)) (hn : ∀ y ∈ bs, y.2.1 ≠ a) : ¬ bq k m t bs a /\ a ≠ x := by
 obtain ⟨dx, hx⟩ := T.ins
 refine ⟨?_, Eo ha hx (λ z => nomatch z)⟩
 rintro (z | z | z | ⟨y, hy, z⟩)
 · exact T.kept.ne_lst ha z.symm
 · exact Eo ha T.byM (λ z => nomatch z) z
 · exact Eo ha T.told (λ z => nomatch z) z
 · exact hn y hy z
theorem Zd {a : Addr} {ys zs : List V} (T : TabAt P w C H x k m t ms bs ts) (ha : H a = some (.lst ys)) (hn : ∀ y ∈ bs, y.2.1 ≠ a) : TabAt P w C (upd H a (.lst zs)) x k m t ms bs ts := by
 obtain ⟨h1, h2⟩ := Xw T ha hn
 refine T.frame (λ b o e z => ?_) (λ y hy => (T.ok y hy).upT λ b xs e => ?_)
 ·
  rw [Al]
  · exact e
  ·
   rintro rfl
   exact z.elim h1 h2
 ·
  rw [Al (Eo e ha (λ z => nomatch z))]
  exact e
theorem cy {l : Lt} (h : O6 (nks ms) l.nk = false) : l.nk ∉ ms.map λ y => y.1.nk := λ z => by
 obtain ⟨y, hy, e⟩ := List.mem_map.mp z
 have : O6 (nks ms) l.nk = true := by
  unfold O6 nks
  rw [List.any_eq_true]
  exact ⟨(y.1.nk, y.2), List.mem_map_of_mem (f := λ x : Lt × Addr => (x.1.nk, x.2)) hy, decide_eq_true e⟩
 rw [h] at this
 cases this
theorem LI.took (I : LI F P w C H0 H x k m t Kp Hd ms bs ts hs) (fr : ∀ b o, H b = some o -> ¬ bq k m t bs b -> H' b = some o) (new : ∀ y ∈ bs', (∃ z ∈ bs, z.2.1 = y.2.1) ∨ H y.2.1 = none) (T' : TabAt P w C H' x k m t (ms ++ [(l, p)]) bs' ts') (hok : F l) (hn : O6 (nks ms) l.nk = false) :
  H' Kp = some (.lst (ms.map λ y => V.ref y.2)) /\ LI F P w C H0 (upd H' Kp (.lst ((ms.map λ y => V.ref y.2) ++ [.ref p]))) x k m t Kp Hd (ms ++ [(l, p)]) bs' ts' hs := by
 have nk := (Xw I.tab I.kp λ y hy => (I.sep y hy).1).1
 have nh := (Xw I.tab I.hd λ y hy => (I.sep y hy).2).1
 have kp' := fr _ _ I.kp nk
 have hd' := fr _ _ I.hd nh
 have sep' : ∀ y ∈ bs', y.2.1 ≠ Kp /\ y.2.1 ≠ Hd := λ y hy => by
  rcases new y hy with ⟨z, hz, e⟩ | e
  · rw [← e]; exact I.sep z hz
  ·
   refine ⟨λ z => ?_, λ z => ?_⟩
   · rw [z, I.kp] at e; cases e
   · rw [z, I.hd] at e; cases e
 have st : Same (Frm (MK k m t bs Kp Hd) H) (Frm (MK k m t bs' Kp Hd) (upd H' Kp (.lst ((ms.map λ y => V.ref y.2) ++ [.ref p])))) := by
  refine Same.trans (Frm.step (λ b o e n => fr b o e λ z => n (.inl z)) ?_) (Frm.put (.inr (.inl rfl)))
  rintro b ((z | z | z | ⟨y, hy, z⟩) | z)
  · exact .inl (.inl (.inl z))
  · exact .inl (.inl (.inr (.inl z)))
  · exact .inl (.inl (.inr (.inr (.inl z))))
  ·
   rcases new y hy with ⟨u, hu, e⟩ | e
   · exact .inl (.inl (.inr (.inr (.inr ⟨u, hu, e.trans z⟩))))
   · exact .inr (by rw [← z]; exact e)
  · exact .inl (.inr z)
 refine ⟨kp', I.base.trans st, Zd T' kp' λ y hy => (sep' y hy).1, λ y hy => ?_, ?_, ?_, ?_, λ h hh => (I.held h hh).up st, sep', I.ne⟩
 ·
  rcases List.mem_append.mp hy with hy | hy
  · exact I.lok y hy
  · rw [List.mem_singleton] at hy; subst hy; exact hok
 ·
  rw [List.map_append, List.nodup_append]
  refine ⟨I.nd, List.pairwise_singleton _ _, λ a ha b hb => ?_⟩
  rw [List.map_singleton, List.mem_singleton] at hb
  subst hb
  exact λ e => cy hn ((show a = l.nk from e) ▸ ha)
 · rw [List.map_append]; exact Ae
 · rw [Al (λ z => I.ne z.symm)]; exact hd'
theorem LI.keep (I : LI F P w C H0 H x k m t Kp Hd ms bs ts hs) {h : Addr} (hh : HeldAt (Frm (MK k m t bs Kp Hd) H) h) : LI F P w C H0 (upd H Hd (.lst ((hs.map V.ref) ++ [.ref h]))) x k m t Kp Hd ms bs ts (hs ++ [h]) := by
 have st : Same (Frm (MK k m t bs Kp Hd) H) (Frm (MK k m t bs Kp Hd) (upd H Hd (.lst ((hs.map V.ref) ++ [.ref h])))) := Frm.put (.inr (.inr rfl))
 refine ⟨I.base.trans st, Zd I.tab I.hd λ y hy => (I.sep y hy).2, I.lok, I.nd, ?_, ?_, λ g hg => ?_, I.sep, I.ne⟩
 · rw [Al I.ne]; exact I.kp
 · rw [List.map_append]; exact Ae
 ·
  rcases List.mem_append.mp hg with hg | hg
  · exact (I.held g hg).up st
  · rw [List.mem_singleton] at hg; subst hg; exact hh.up st
theorem LI.mk_ (I : LI F P w C H0 H x k m t Kp Hd ms bs ts hs) {b : Addr} (h : MK k m t bs Kp Hd b) : H b ≠ none := by
 rcases h with h | rfl | rfl
 · exact I.tab.own h
 · rw [I.kp]; exact λ z => nomatch z
 · rw [I.hd]; exact λ z => nomatch z
theorem LI.rebase {H1 : Hp} (I : LI F P w C H1 H x k m t Kp Hd ms bs ts hs) (s : Same H0 H1) : LI F P w C H0 H x k m t Kp Hd ms bs ts hs := ⟨s.trans I.base, I.tab, I.lok, I.nd, I.kp, I.hd, I.held, I.sep, I.ne⟩
theorem LI.self (I : LI F P w C H0 H x k m t Kp Hd ms bs ts hs) : LI F P w C (Frm (MK k m t bs Kp Hd) H) H x k m t Kp Hd ms bs ts hs := ⟨Same.refl _, I.tab, I.lok, I.nd, I.kp, I.hd, I.held, I.sep, I.ne⟩
theorem LI.tupF (I : LI F P w C H0 H x k m t Kp Hd ms bs ts hs) (b : Addr) (xs : List V) (h : H b = some (.tup xs)) : Frm (MK k m t bs Kp Hd) H b = some (.tup xs) := by
 refine Frm.iff.mpr ⟨?_, h⟩
 rintro (z | z | z)
 · exact I.tab.notup h z
 · rw [z, I.kp] at h; cases h
 · rw [z, I.hd] at h; cases h
end
theorem Q4 {H : Hp} : ∀ {hs : List Addr}, (∀ h ∈ hs, HeldAt H h) -> ∃ rs : List (Addr × V × V), hs = rs.map (·.1) /\ ∀ r ∈ rs, H r.1 = some (.tup [r.2.1, r.2.2]) /\ AlH H 6 r.2.1 r.2.2
 | [], _ => ⟨[], rfl, λ _ z => nomatch z⟩
 |
  h :: hs, k => by
  obtain ⟨rs, e, q⟩ := Q4 λ x hx => k x (List.mem_cons_of_mem _ hx)
  obtain ⟨v, u, e1, e2⟩ := k h (List.mem_cons_self ..)
  refine ⟨(h, v, u) :: rs, by rw [e]; rfl, λ r hr => ?_⟩
  rcases List.mem_cons.mp hr with rfl | hr
  · exact ⟨e1, e2⟩
  · exact q r hr
theorem mz {t u : TT} {σ : St} {H : Hp} {K : Bool -> Hp -> Prop} (h : ∀ b, K b H) (r : (∀ b, K b H) -> tOr t u σ H K) : tOr t u σ H K := r h
theorem Paired.snoc {α β : Type} {F : α -> β -> Prop} : ∀ {l : List α} {m : List β}, Paired F l m -> ∀ {x : α} {y : β}, F x y -> Paired F (l ++ [x]) (m ++ [y])
 | _, _, .nil, _, _, h => .cons h .nil
 | _, _, .cons r t, _, _, h => .cons r (Paired.snoc t h)
theorem Kx {J : It} {cap : List (Option Nat)} {tt : TT} {te : TE} {σ : St} {H1 : Hp} {Q : VK} {xs : List V} (hJ : Seq J H1 xs) (p : V -> Bool) (Rl : Hp -> V -> V -> Prop) (hup : ∀ H H' x y, (∀ b ys, H b = some (.tup ys) -> H' b = some (.tup ys)) -> Rl H x y -> Rl H' x y) (hsz : xs.length <= 100000)
  (hp : ∀ x ∈ xs, ∀ H', Same H1 H' -> ∀ R : Bool -> Hp -> Prop, (∀ H'', Same H' H'' -> R (p x) H'') -> tt ((L1 cap σ).set 0 (some x)) H' R)
  (he : ∀ x ∈ xs, p x = true -> ∀ H', Same H1 H' -> ∀ R : VK, (∀ y H'', Same H' H'' -> Rl H'' x y -> R y H'') -> te ((L1 cap σ).set 0 (some x)) H' R)
  (k : ∀ D H' ys, Same H1 H' -> H1 D = none -> H' D = some (.lst ys) -> Paired (Rl H') (xs.filter p) ys -> Q (.ref D) H') :
  Kj J H1 cap (Nt 0) tt te σ Q := by
 intro D hD
 refine ⟨λ i m ys σ' H' => m = xs.length - i /\ i <= xs.length /\ (∀ v, σ'.set 0 v = (L1 cap σ).set 0 v) /\ H' D = some (.lst ys) /\ Same H1 H' /\ Paired (Rl H') ((xs.take i).filter p) ys,
  ⟨xs.length, by simp, Nat.zero_le _, λ _ => rfl, Ae, Ag hD, by rw [List.take_zero]; exact .nil⟩, ?_⟩
 rintro i m ys σ' H' ⟨rfl, hi, hσ, hl, sm, hG⟩
 refine ⟨hl, ?_⟩
 obtain ⟨q1, q2⟩ := hJ H' sm
 have hle : ys.length <= i := by
  rw [← Paired.length hG]
  exact Nat.le_trans (List.length_filter_le _ _) (by rw [List.length_take]; omega)
 by_cases hlt : i < xs.length
 ·
  have e : xs[i]? = some xs[i] := by simp [hlt]
  obtain ⟨go, y⟩ := q1 i _ e
  refine .inr ⟨go, λ x H2 hy => ?_⟩
  obtain ⟨rfl, rfl⟩ := y x H2 hy
  have hm : xs[i] ∈ xs := List.getElem_mem hlt
  have hss : ∀ v, ((L1 cap σ).set 0 (some xs[i])).set 0 v = (L1 cap σ).set 0 v := λ v => by rw [List.set_set]
  have et : xs.take (i + 1) = xs.take i ++ [xs[i]] := by rw [List.take_add_one, e]; rfl
  show tt (σ'.set 0 (some xs[i])) _ _
  rw [hσ]
  refine hp _ hm _ sm _ λ H3 s3 => ?_
  cases hb : p xs[i] with
  |
   true =>
   refine Ij ?_
   refine he _ hm hb _ (sm.trans s3) _ λ y H4 s4 hy => ?_
   have hl4 := s4 _ _ (s3 _ _ hl)
   have tp : ∀ b zs, H4 b = some (.tup zs) -> (upd H4 D (.lst (ys ++ [y]))) b = some (.tup zs) := λ b zs eb => by rw [Al (Eo eb hl4 (λ z => nomatch z))]; exact eb
   refine ⟨hl4, Nat.lt_of_le_of_lt (by omega : ys.length <= 100000) (by decide), xs.length - (i + 1), by omega, rfl, hlt, hss, Ae, λ c o ec => ?_, ?_⟩
   ·
    rw [Al (Aq ec hD)]
    exact s4 _ _ (s3 _ _ (sm _ _ ec))
   ·
    rw [et, List.filter_append, List.filter_cons, if_pos hb]
    exact Paired.snoc (Paired.mapP hG λ a b h => hup _ _ a b (λ c zs ec => tp _ _ (s4 _ _ (s3 _ _ ec))) h) (hup _ _ _ _ tp hy)
  |
   false =>
   refine Ff ?_
   refine ⟨xs.length - (i + 1), by omega, rfl, hlt, hss, s3 _ _ hl, sm.trans s3, ?_⟩
   rw [et, List.filter_append, List.filter_cons, if_neg (by rw [hb]; exact Bool.false_ne_true), List.filter_nil, List.append_nil]
   exact Paired.mapP hG λ a b h => hup _ _ a b (λ c zs ec => s3 _ _ ec) h
 ·
  have e : i = xs.length := by omega
  subst e
  rw [List.take_length] at hG
  exact .inl ⟨q2, k D _ ys sm hD hl hG⟩
end L2
namespace L2
open PySem PySem.Spec PyProof.Rows PySem.SeqAt
def oq (ts : List Str) (t : Str) : Nat := ts.findIdx λ y => decide (y = t)
section
variable {X : Cx}
theorem Tg : MtR X "list.index" (λ x xs H Q => ∃ (l : Addr) (ts : List Str) (t : Str), x = .ref l /\ xs = [.str t] /\ SqL X.K H l (ts.map V.str) /\ t ∈ ts /\ Q (.int (oq ts t : Nat)) H) := by
 intro pins s σ H x xs v us Q I rx r h
 obtain ⟨l, ts, t, rfl, rfl, hl, hm, q⟩ := h
 cases rx
 obtain ⟨u, rfl, ru⟩ := r.one
 obtain ⟨tk, rfl⟩ := ru
 obtain ⟨its, rv, pl, hz⟩ := I.list hl
 have hs := Mu rv
 obtain ⟨⟨c0, d0, t0, s0⟩, ho, hc, n, hd⟩ := pl.isList
 simp only at hc hd
 subst hc hd
 have hlen : its.length = ts.length := by rw [← rv.length, List.length_map]
 obtain ⟨j, hj, e1, e2, e3⟩ : ∃ j, ∃ (hj : j < its.toArray.size), (match its.toArray[j] with | .str y _ => y == t | _ => false) = true /\ (∀ m (hm : m < its.toArray.size), m < j -> (match its.toArray[m] with | .str y _ => y == t | _ => false) = false) /\ j = oq ts t := by
  clear ho pl hz rv q hl
  unfold oq
  induction hs with
  | nil => exact nomatch hm
  |
   @cons y ty vs ys hs ih =>
   by_cases hy : y = t
   · exact ⟨0, by simp, by simp [hy], λ m _ h => absurd h (Nat.not_lt_zero _), by rw [List.findIdx_cons, decide_eq_true hy]; rfl⟩
   ·
    obtain ⟨j, hj, e1, e2, e3⟩ := ih ((List.mem_cons.mp hm).resolve_left λ z => hy z.symm) (by simpa using hlen)
    refine ⟨j + 1, by simpa using hj, by simpa using e1, λ m hm' hlt => ?_, by rw [List.findIdx_cons, decide_eq_false hy, e3]; rfl⟩
    cases m with
    | zero => simp [hy]
    | succ m => have := e2 m (by simpa using hm') (by omega); simpa using this
 have hj' : j < ts.length := by rw [List.size_toArray, hlen] at hj; exact hj
 have hsm : (j : Int) < 2 ^ 63 - 1 := by
  have h2 : ts.length <= sizeLine := by rw [List.length_map] at hz; exact hz
  have h3 : (sizeLine : Nat) < 2 ^ 62 := by decide
  omega
 refine call_meets PySem.F.slot_list_index ⟨_, ho, rfl⟩ PySem.F.entry_list_index (PySem.F.args_list_index_2 _ _) (PySem.SeqAt.list_indexAt l _ n d0 s0 (.str t tk) (λ y => match y with | .str y _ => y == t | _ => false) j hj hsm e1 e2) ⟨ho, λ y hy => ?_, ?_⟩
 ·
  obtain ⟨x, tx, rfl⟩ := hs.all y (by simpa using hy)
  exact PySem.SeqAt.EqAt.str_str x tx t tk
 ·
  rw [← e3] at q
  exact ⟨.int j, H, I.tok _, ⟨_, rfl⟩, q⟩
end
end L2
namespace L2
open PySem PySem.Spec PyProof.Rows DX
def Lt.bo : Lt -> Bool
 | .bid .. => true
 | .off .. => true
 | _ => false
structure Td where
 a : Str
 n : Int
 t : Int
 st : Str
 be : Option (Int × Int)
 yes : List Str
 no : List Str
 sil : List Str
 come : List Str
 late : List Str
section
variable (ltP : Int × Str -> Int × Str -> Bool) (S : Lt -> Prop)
def Nc (t : Int) (h : Str) (g : Int) (w : Str) : Prop := (∃ a n, S (.ans a n t h g w)) /\ ∀ a n g' w', S (.ans a n t h g' w') -> ltP (g, w) (g', w') = false
def WordIs (t : Int) (h : Str) : Option Str -> Prop
 | none => ∀ a n g w, ¬ S (.ans a n t h g w)
 | some w => ∃ g, Nc ltP S t h g w
def Ky (wf : Str -> Option Str) (o : Option Str) (hs : List Str) : List Str := hs.filter λ h => decide (wf h = o)
def ToldOf : Lt -> Td -> Prop
 | .off a n t, td => td = ⟨a, n, t, "off", none, [], [], [], [], []⟩
 | .bid a n t b e hs, td => ∃ wf : Str -> Option Str, (∀ h ∈ hs, WordIs ltP S t h (wf h)) /\
  (
   ((∀ a' n' hs', ¬ S (.close a' n' t hs')) /\ td = ⟨a, n, t, "open", some (b, e), Ky wf (some (Str.ofString "yes")) hs, Ky wf (some (Str.ofString "no")) hs, Ky wf none hs, [], []⟩) ∨
   ∃ a' n' hs', S (.close a' n' t hs') /\ td = ⟨a, n, t, "closed", some (b, e), Ky wf (some (Str.ofString "yes")) hs, Ky wf (some (Str.ofString "no")) hs, Ky wf none hs, hs', (Ky wf (some (Str.ofString "yes")) hs).filter λ h => !decide (h ∈ hs')⟩)
 | _, _ => False
def IsLast (x : Lt) : Prop := S x /\ x.bo = true /\ ∀ y, S y -> y.bo = true -> y.turn <= x.turn
def IsTold : Option Td -> Prop
 | none => ∀ x, S x -> x.bo = false
 | some td => ∃ x, IsLast S x /\ ToldOf ltP S x td
end
structure gz (S : Lt -> Prop) : Prop where
 bo : ∀ x y, S x -> S y -> x.bo = true -> y.bo = true -> x.turn = y.turn -> x = y
 cl : ∀ a n t hs a' n' hs', S (.close a n t hs) -> S (.close a' n' t hs') -> hs = hs'
section
variable {ltP : Int × Str -> Int × Str -> Bool} {S : Lt -> Prop}
theorem IsLast.uniq (U : gz S) {x y : Lt} (h : IsLast S x) (h' : IsLast S y) : x = y :=
 U.bo x y h.1 h'.1 h.2.1 h'.2.1 (Int.le_antisymm (h'.2.2 x h.1 h.2.1) (h.2.2 y h'.1 h'.2.1))
theorem WordIs.uniq (L : DX.Lin ltP) {t : Int} {h : Str} {o o' : Option Str} (k : WordIs ltP S t h o) (k' : WordIs ltP S t h o') : o = o' := by
 cases o with
 |
  none =>
  cases o' with
  | none => rfl
  | some w => obtain ⟨g, ⟨a, n, e⟩, _⟩ := k'; exact absurd e (k a n g w)
 |
  some w =>
  obtain ⟨g, ⟨a, n, e⟩, m⟩ := k
  cases o' with
  | none => exact absurd e (k' a n g w)
  |
   some w' =>
   obtain ⟨g', ⟨a', n', e'⟩, m'⟩ := k'
   have := L.tot (g, w) (g', w') (m _ _ _ _ e') (m' _ _ _ _ e)
   injection this with _ e2
   rw [e2]
theorem K2 {wf wf' : Str -> Option Str} {hs : List Str} (h : ∀ x ∈ hs, wf x = wf' x) (o : Option Str) : Ky wf o hs = Ky wf' o hs := by
 unfold Ky
 refine List.filter_congr λ x hx => ?_
 rw [h x hx]
theorem ToldOf.uniq (L : DX.Lin ltP) (U : gz S) {x : Lt} {d d' : Td} (h : ToldOf ltP S x d) (h' : ToldOf ltP S x d') : d = d' := by
 cases x with
 | off a n t => exact h.trans h'.symm
 | close => exact h.elim
 | ans => exact h.elim
 |
  bid a n t b e hs =>
  obtain ⟨wf, hw, r⟩ := h
  obtain ⟨wf', hw', r'⟩ := h'
  have ew : ∀ z ∈ hs, wf z = wf' z := λ z hz => (hw z hz).uniq L (hw' z hz)
  have e1 := K2 ew (some (Str.ofString "yes"))
  have e2 := K2 ew (some (Str.ofString "no"))
  have e3 := K2 ew none
  rcases r with ⟨c, rfl⟩ | ⟨a1, n1, h1, c, rfl⟩
  ·
   rcases r' with ⟨c', rfl⟩ | ⟨a2, n2, h2, c', rfl⟩
   · rw [e1, e2, e3]
   · exact absurd c' (c _ _ _)
  ·
   rcases r' with ⟨c', rfl⟩ | ⟨a2, n2, h2, c', rfl⟩
   · exact absurd c (c' _ _ _)
   · rw [e1, e2, e3, U.cl _ _ _ _ _ _ _ c c']
theorem IsTold.uniq (L : DX.Lin ltP) (U : gz S) {o o' : Option Td} (h : IsTold ltP S o) (h' : IsTold ltP S o') : o = o' := by
 cases o with
 |
  none =>
  cases o' with
  | none => rfl
  | some d => obtain ⟨x, hx, _⟩ := h'; have := h x hx.1; rw [hx.2.1] at this; cases this
 |
  some d =>
  obtain ⟨x, hx, k⟩ := h
  cases o' with
  | none => have := h' x hx.1; rw [hx.2.1] at this; cases this
  |
   some d' =>
   obtain ⟨y, hy, k'⟩ := h'
   have e := hx.uniq U hy
   subst e
   rw [k.uniq L U k']
end
def pk (x : Int × Str) : List Key := [.inl x.1, .inr x.2]
def ltP (a b : Int × Str) : Bool := F4 ltK (pk a) (pk b)
theorem kz {a b : Int × Str} (h : pk a = pk b) : a = b := by
 injection h with h1 h2
 injection h2 with h2 _
 exact Prod.ext (Sum.inl.inj h1) (Sum.inr.inj h2)
theorem Uu : Lin ltP where
 irr := λ a => (Lb Mv).irr (pk a)
 tr := λ a b c => (Lb Mv).tr (pk a) (pk b) (pk c)
 tot := λ a b h1 h2 => kz ((Lb Mv).tot _ _ h1 h2)
theorem jt {a b : Int × Str} (h : a.1 < b.1) : ltP a b = true := by
 show F4 ltK [.inl a.1, .inr a.2] [.inl b.1, .inr b.2] = true
 unfold F4
 rw [if_neg (λ z => by have := Sum.inl.inj z; omega)]
 exact decide_eq_true h
theorem So {gt : V -> V -> Bool} (irr : ∀ a, gt a a = false) (neg : ∀ a b c, gt a c = true -> gt a b = true ∨ gt b c = true) (asym : ∀ a b, gt a b = true -> gt b a = false) : ∀ {xs : List V} {b : V}, ∀ z ∈ b :: xs, gt z (Ga gt b xs) = false
 |
  [], b, z, hz => by
  rw [List.mem_singleton] at hz
  subst hz
  exact irr _
 |
  x :: xs, b, z, hz => by
  have ih := So irr neg asym (xs := xs) (b := if gt x b then x else b)
  have e : Ga gt b (x :: xs) = Ga gt (if gt x b then x else b) xs := rfl
  rw [e]
  generalize Ga gt (if gt x b then x else b) xs = M at *
  have two : ∀ u v, gt u v = false -> gt v M = false -> gt u M = false := λ u v h1 h2 => by
   cases h : gt u M with
   | false => rfl
   | true =>
     rcases neg u v M h with h | h
     · rw [h1] at h; cases h
     · rw [h2] at h; cases h
  rcases List.mem_cons.mp hz with rfl | hz
  ·
   cases hg : gt x z with
   | false => rw [hg] at ih; exact ih z (List.mem_cons_self ..)
   | true => rw [hg] at ih; exact two z x (asym _ _ hg) (ih x (List.mem_cons_self ..))
  ·
   rcases List.mem_cons.mp hz with rfl | hz
   ·
    cases hg : gt z b with
    | false => rw [hg] at ih; exact two z b hg (ih b (List.mem_cons_self ..))
    | true => rw [hg] at ih; exact ih z (List.mem_cons_self ..)
   · exact ih z (List.mem_cons_of_mem _ hz)
theorem f7 (a : Int × List NK) : Em a a = false := by
 unfold Em
 rw [Du.irr, decide_eq_false (Int.lt_irrefl _), Bool.and_false, Bool.or_false]
theorem K8 {a b : Int × List NK} : Em a b = true ↔ b.1 < a.1 ∨ (a.1 = b.1 /\ ltL b.2 a.2 = true) := by
 unfold Em
 rw [Bool.or_eq_true, Bool.and_eq_true, decide_eq_true_eq, decide_eq_true_eq]
theorem je (a b c : Int × List NK) (h : Em a c = true) : Em a b = true ∨ Em b c = true := by
 rw [K8, K8]
 rcases K8.mp h with h | ⟨h1, h2⟩
 ·
  by_cases e : b.1 < a.1
  · exact .inl (.inl e)
  · exact .inr (.inl (by omega))
 ·
  by_cases e : b.1 < a.1
  · exact .inl (.inl e)
  ·
   by_cases e2 : a.1 < b.1
   · exact .inr (.inl (by omega))
   ·
    rcases Du.neg (b := b.2) h2 with z | z
    · exact .inr (.inr ⟨by omega, z⟩)
    · exact .inl (.inr ⟨by omega, z⟩)
theorem aq (a b : Int × List NK) (h : Em a b = true) : Em b a = false := by
 cases e : Em b a with
 | false => rfl
 |
  true =>
  rcases K8.mp h with h | ⟨h1, h2⟩ <;> rcases K8.mp e with e | ⟨e1, e2⟩
  · omega
  · omega
  · omega
  · rw [Du.asym h2] at e2; cases e2
theorem k5 {a b : Int × List NK} (h : Em a b = false) : a.1 <= b.1 := by
 rcases Int.lt_or_le b.1 a.1 with z | z
 · rw [K8.mpr (.inl z)] at h; cases h
 · exact z
def AnsB (H : Hp) (S : Lt -> Prop) (t : Int) (kvs : List (Key × V)) : Prop := ∀ h : Str, (Eu kvs (.inr h) = none /\ ∀ a n g w, ¬ S (.ans a n t h g w)) ∨ ∃ (q : Addr) (g : Int) (w : Str), Eu kvs (.inr h) = some (.ref q) /\ H q = some (.tup [.int g, .str w]) /\ Nc ltP S t h g w
def KnowW (H : Hp) (kvs : List (Key × V)) (h : Str) (o : Option Str) : Prop := (Eu kvs (.inr h) = none /\ o = none) ∨ ∃ (q : Addr) (g : Int) (w : Str), Eu kvs (.inr h) = some (.ref q) /\ H q = some (.tup [.int g, .str w]) /\ o = some w
theorem KnowW.up {H H' : Hp} {kvs : List (Key × V)} {h : Str} {o : Option Str} (k : KnowW H kvs h o) (s : Same H H') : KnowW H' kvs h o := k.imp id λ ⟨q, g, w, e1, e2, e3⟩ => ⟨q, g, w, e1, s _ _ e2, e3⟩
theorem AnsB.up {H H' : Hp} {S : Lt -> Prop} {t : Int} {kvs : List (Key × V)} (h : AnsB H S t kvs) (ht : ∀ b xs, H b = some (.tup xs) -> H' b = some (.tup xs)) : AnsB H' S t kvs := λ x => (h x).imp id λ ⟨q, g, w, e1, e2, e3⟩ => ⟨q, g, w, e1, ht _ _ e2, e3⟩
theorem AnsB.know {H : Hp} {S : Lt -> Prop} {t : Int} {kvs : List (Key × V)} (h : AnsB H S t kvs) : ∃ wf : Str -> Option Str, ∀ x, KnowW H kvs x (wf x) /\ WordIs ltP S t x (wf x) := by
 refine ⟨λ x => Classical.choose (show ∃ o, KnowW H kvs x o /\ WordIs ltP S t x o from ?_), λ x => Classical.choose_spec (p := λ o => KnowW H kvs x o /\ WordIs ltP S t x o) _⟩
 rcases h x with ⟨e, k⟩ | ⟨q, g, w, e1, e2, e3⟩
 · exact ⟨none, .inl ⟨e, rfl⟩, k⟩
 · exact ⟨some w, .inr ⟨q, g, w, e1, e2, rfl⟩, g, e3⟩
theorem AnsB.skip {H : Hp} {S S' : Lt -> Prop} {t : Int} {kvs : List (Key × V)} (h : AnsB H S t kvs) (e : ∀ a n x g w, S' (.ans a n t x g w) ↔ S (.ans a n t x g w)) : AnsB H S' t kvs := λ x => (h x).imp (λ ⟨e1, e2⟩ => ⟨e1, λ a n g w z => e2 a n g w ((e a n x g w).mp z)⟩) λ ⟨q, g, w, e1, e2, ⟨a, n, e3⟩, e4⟩ => ⟨q, g, w, e1, e2, ⟨a, n, (e a n x g w).mpr e3⟩, λ a' n' g' w' z => e4 a' n' g' w' ((e a' n' x g' w').mp z)⟩
theorem AnsB.put {H : Hp} {S S' : Lt -> Prop} {t g0 : Int} {w0 x0 a0 : Str} {n0 : Int} {kvs : List (Key × V)} {q : Addr} {g : Int} {w : Str} (h : AnsB H S t kvs) (e : ∀ a n x g w, S' (.ans a n t x g w) ↔ S (.ans a n t x g w) ∨ Lt.ans a n t x g w = .ans a0 n0 t x0 g0 w0)
  (hq : H q = some (.tup [.int g, .str w])) (hb : Nc ltP S' t x0 g w) : AnsB H S' t (putK kvs (.inr x0) (.ref q)) := λ x => by
 by_cases ex : x = x0
 ·
  subst ex
  exact .inr ⟨q, g, w, by rw [Jx, if_pos rfl], hq, hb⟩
 ·
  have ev : Eu (putK kvs (.inr x0) (.ref q)) (.inr x) = Eu kvs (.inr x) := by rw [Jx, if_neg (λ z => ex (Sum.inr.inj z))]
  rw [ev]
  have e' : ∀ a n g w, S' (.ans a n t x g w) ↔ S (.ans a n t x g w) := λ a n g w => by
   rw [e]
   exact ⟨λ z => z.elim id λ y => absurd (by injection y) ex, .inl⟩
  exact (h x).imp (λ ⟨e1, e2⟩ => ⟨e1, λ a n g w z => e2 a n g w ((e' a n g w).mp z)⟩) λ ⟨q, g, w, e1, e2, ⟨a, n, e3⟩, e4⟩ => ⟨q, g, w, e1, e2, ⟨a, n, (e' a n g w).mpr e3⟩, λ a' n' g' w' z => e4 a' n' g' w' ((e' a' n' g' w').mp z)⟩
theorem cu {S S' : Lt -> Prop} {t g0 : Int} {w0 x0 a0 : Str} {n0 : Int} (e : ∀ a n x g w, S' (.ans a n t x g w) ↔ S (.ans a n t x g w) ∨ Lt.ans a n t x g w = .ans a0 n0 t x0 g0 w0) (h : ∀ a n g w, S (.ans a n t x0 g w) -> ltP (g0, w0) (g, w) = false) : Nc ltP S' t x0 g0 w0 := by
 refine ⟨⟨a0, n0, (e _ _ _ _ _).mpr (.inr rfl)⟩, λ a n g' w' z => ?_⟩
 rcases (e _ _ _ _ _).mp z with z | z
 · exact h a n g' w' z
 ·
  injection z with _ _ _ _ z1 z2
  subst z1 z2
  exact Uu.irr _
theorem bp {S S' : Lt -> Prop} {t g0 g : Int} {w0 w x0 a0 : Str} {n0 : Int} (e : ∀ a n x g w, S' (.ans a n t x g w) ↔ S (.ans a n t x g w) ∨ Lt.ans a n t x g w = .ans a0 n0 t x0 g0 w0) (h : Nc ltP S t x0 g w) (hn : ltP (g, w) (g0, w0) = false) : Nc ltP S' t x0 g w := by
 obtain ⟨⟨a, n, h1⟩, h2⟩ := h
 refine ⟨⟨a, n, (e _ _ _ _ _).mpr (.inl h1)⟩, λ a' n' g' w' z => ?_⟩
 rcases (e _ _ _ _ _).mp z with z | z
 · exact h2 a' n' g' w' z
 ·
  injection z with _ _ _ _ z1 z2
  subst z1 z2
  exact hn
def beV : Option (Int × Int) -> V × V
 | none => (.non, .non)
 | some (b, e) => (.int b, .int e)
structure TdAt (H : Hp) (d : Td) (r : Addr) : Prop where
 at_ : ∃ q1 q2 q3 q4 q5 : Addr, H r = some (.tup [.str d.a, .int d.n, .int d.t, .str d.st, (beV d.be).1, (beV d.be).2, .ref q1, .ref q2, .ref q3, .ref q4, .ref q5]) /\ H q1 = some (.tup (d.yes.map V.str)) /\ H q2 = some (.tup (d.no.map V.str)) /\ H q3 = some (.tup (d.sil.map V.str)) /\ H q4 = some (.tup (d.come.map V.str)) /\ H q5 = some (.tup (d.late.map V.str))
 few : d.yes.length <= 1000 /\ d.no.length <= 1000 /\ d.sil.length <= 1000 /\ d.come.length <= 1000 /\ d.late.length <= 1000
theorem TdAt.upT {H H' : Hp} {d : Td} {r : Addr} (h : TdAt H d r) (s : ∀ b xs, H b = some (.tup xs) -> H' b = some (.tup xs)) : TdAt H' d r := ⟨let ⟨q1, q2, q3, q4, q5, e0, e1, e2, e3, e4, e5⟩ := h.at_; ⟨q1, q2, q3, q4, q5, s _ _ e0, s _ _ e1, s _ _ e2, s _ _ e3, s _ _ e4, s _ _ e5⟩, h.few⟩
theorem TdAt.up {H H' : Hp} {d : Td} {r : Addr} (h : TdAt H d r) (s : Same H H') : TdAt H' d r := h.upT λ b _ e => s b _ e
def mkK (k : Str × Int) : List Key := [.inr k.1, .inl k.2]
theorem Ub {k k' : Str × Int} (h : mkK k = mkK k') : k = k' := by
 injection h with h1 h2
 injection h2 with h2 _
 exact Prod.ext (Sum.inr.inj h1) (Sum.inl.inj h2)
def inM (ms : List (Lt × Addr)) (x : Lt) : Prop := x ∈ ms.map (·.1)
def inK (ms : List (Lt × Addr)) (k : Str × Int) (x : Lt) : Prop := inM ms x /\ x.mk = k
theorem n5 (k : Str × Int) (ms : List (Lt × Addr)) : inM (ofM k ms) = inK ms k := by
 funext x
 refine propext ⟨λ h => ?_, λ h => ?_⟩
 ·
  obtain ⟨y, hy, rfl⟩ := List.mem_map.mp h
  obtain ⟨h1, h2⟩ := List.mem_filter.mp hy
  exact ⟨List.mem_map_of_mem h1, of_decide_eq_true h2⟩
 ·
  obtain ⟨h1, h2⟩ := h
  obtain ⟨y, hy, rfl⟩ := List.mem_map.mp h1
  exact List.mem_map_of_mem (List.mem_filter.mpr ⟨hy, decide_eq_true h2⟩)
theorem X7 {ms : List (Lt × Addr)} {l : Lt} {p : Addr} {k : Str × Int} (h : k ≠ l.mk) : inK (ms ++ [(l, p)]) k = inK ms k := by
 funext x
 unfold inK inM
 rw [List.map_append, List.mem_append]
 refine propext ⟨λ z => ⟨z.1.elim id λ y => ?_, z.2⟩, λ z => ⟨.inl z.1, z.2⟩⟩
 have e : x = l := List.mem_singleton.mp y
 exact absurd (by rw [← z.2, e]) h
theorem jf {ms : List (Lt × Addr)} {l : Lt} {p : Addr} {k : Str × Int} {x : Lt} (h : inK ms k x) : inK (ms ++ [(l, p)]) k x := by
 unfold inK inM at h ⊢
 rw [List.map_append, List.mem_append]
 exact ⟨.inl h.1, h.2⟩
structure TlOk (H : Hp) (ms : List (Lt × Addr)) (ts : List (List Key × V)) : Prop where
 val : ∀ k : Str × Int, (Eu ts (mkK k) = none /\ IsTold ltP (inK ms k) none) ∨ ∃ (r : Addr) (d : Td), Eu ts (mkK k) = some (.ref r) /\ TdAt H d r /\ IsTold ltP (inK ms k) (some d)
 keys : ∀ kv ∈ ts, ∃ k : Str × Int, kv.1 = mkK k
 nd : (ts.map (·.1)).Nodup
theorem TlOk.upT {H H' : Hp} {ms : List (Lt × Addr)} {ts : List (List Key × V)} (h : TlOk H ms ts) (s : ∀ b xs, H b = some (.tup xs) -> H' b = some (.tup xs)) : TlOk H' ms ts := ⟨λ k => (h.val k).imp id λ ⟨r, d, e1, e2, e3⟩ => ⟨r, d, e1, e2.upT s, e3⟩, h.keys, h.nd⟩
theorem TlOk.up {H H' : Hp} {ms : List (Lt × Addr)} {ts : List (List Key × V)} (h : TlOk H ms ts) (s : Same H H') : TlOk H' ms ts := h.upT λ b _ e => s b _ e
theorem TlOk.non {H : Hp} {ms : List (Lt × Addr)} {ts : List (List Key × V)} {l : Lt} {p : Addr} (h : TlOk H ms ts) (hn : IsTold ltP (inK (ms ++ [(l, p)]) l.mk) none) : TlOk H (ms ++ [(l, p)]) ts := ⟨λ k => by
 by_cases e : k = l.mk
 ·
  subst e
  rcases h.val l.mk with ⟨h1, _⟩ | ⟨r, d, h1, h2, x, hx, _⟩
  · exact .inl ⟨h1, hn⟩
  ·
   have := hn x (jf hx.1)
   rw [hx.2.1] at this
   cases this
 ·
  rw [X7 e]
  exact h.val k, h.keys, h.nd⟩
theorem TlOk.put {H : Hp} {ms : List (Lt × Addr)} {ts : List (List Key × V)} {l : Lt} {p r : Addr} {d : Td} (h : TlOk H ms ts) (ht : TdAt H d r) (hd : IsTold ltP (inK (ms ++ [(l, p)]) l.mk) (some d)) : TlOk H (ms ++ [(l, p)]) (putK ts (mkK l.mk) (.ref r)) := ⟨λ k => by
 rw [Jx]
 by_cases e : k = l.mk
 ·
  subst e
  rw [if_pos rfl]
  exact .inr ⟨r, d, rfl, ht, hd⟩
 ·
  rw [if_neg (λ z => e (Ub z)), X7 e]
  exact h.val k, λ kv hkv => by
 unfold putK at hkv
 split at hkv
 ·
  obtain ⟨y, hy, rfl⟩ := List.mem_map.mp hkv
  split
  · exact h.keys y hy
  · exact h.keys y hy
 ·
  rcases List.mem_append.mp hkv with hkv | hkv
  · exact h.keys kv hkv
  ·
   rw [List.mem_singleton] at hkv
   subst hkv
   exact ⟨l.mk, rfl⟩, by
 unfold putK
 split
 ·
  rw [List.map_map]
  have e : (ts.map λ kv => (if kv.1 = mkK l.mk then (kv.1, V.ref r) else kv).1) = ts.map (·.1) := List.map_congr_left λ kv _ => by split <;> rfl
  exact e ▸ h.nd
 ·
  rename_i hn
  rw [List.map_append, List.nodup_append]
  refine ⟨h.nd, List.pairwise_singleton _ _, λ x hx y hy e => ?_⟩
  rw [List.map_singleton, List.mem_singleton] at hy
  obtain ⟨kv, hkv, rfl⟩ := List.mem_map.mp hx
  exact hn (List.any_eq_true.mpr ⟨kv, hkv, decide_eq_true (e.trans hy)⟩)⟩
end L2
namespace L2
open PySem PySem.W PyProof.Rows PySem.SeqAt DX
abbrev R5 (ks : List NK) : Prop := ∃ i r, ks = .inl (.inl i) :: r
section
variable {prog : Program} {w : World} {A : Around} {s : Shared}
theorem Wy {C : Bool -> Shared -> Prop} {fin : Bool} (hu : A.units < cLine) {ks ks' : List NK} {us us' : List Value} (h : NItems prog w s.heap ks us) (h' : NItems prog w s.heap ks' us') (ok : okL ks ks' = true) (hf : fin = decide (ks.length < ks'.length))
  (i1 : R5 ks) (i2 : R5 ks') (hC : C (ltL ks ks') s) : KatLex prog w A true fin C (us.zip us') 0 s := by
 obtain ⟨i, r, rfl⟩ := i1
 obtain ⟨j, r', rfl⟩ := i2
 cases h with
 | @cons _ u _ us h1 h2 =>
 cases h' with
 | @cons _ u' _ us' h1' h2' =>
 have e : ltL (.inl (.inl i) :: r) (.inl (.inl j) :: r') = if (Sum.inl (Sum.inl i) : NK) = .inl (.inl j) then ltL r r' else ltN (.inl (.inl i)) (.inl (.inl j)) := rfl
 rw [e] at hC
 unfold okL at ok
 rw [List.zip_cons_cons]
 refine kat_cons (Px hu h1 h1' ?_)
 by_cases ek : (Sum.inl (Sum.inl i) : NK) = .inl (.inl j)
 ·
  rw [if_pos ek] at ok hC
  rw [decide_eq_true ek]
  exact kat_yes (Nf hu 1 h2 h2' ok (by rw [hf]; exact decide_eq_decide.mpr (by simp only [List.length_cons]; omega)) (λ z => absurd z (by decide)) hC)
 ·
  rw [if_neg ek] at ok hC
  rw [decide_eq_false ek]
  refine kat_no ?_
  obtain ⟨tk, rfl⟩ := Value.isInt_shape (k := i) (v := u) h1
  obtain ⟨tk', rfl⟩ := Value.isInt_shape (k := j) (v := u') h1'
  exact oneLt_int hC
theorem R8 {h : Heap} : ∀ {ms : List (List NK × Addr)}, (∀ x ∈ ms, IsNest prog w h x.1 x.2 /\ R5 x.1) -> ∃ fs, KatTups h (ms.map λ x => Value.ref x.2) fs /\ fs.length = ms.length /\ ∀ v ∈ fs, ∃ (t : Int) (k : Tok), v = .int t k
 | [], _ => ⟨[], trivial, rfl, λ _ z => nomatch z⟩
 |
  x :: ms, H => by
  obtain ⟨fs, k, e, hv⟩ := R8 (ms := ms) λ y hy => H y (List.mem_cons_of_mem _ hy)
  obtain ⟨⟨o, its, n, ho, hc, hd, hi⟩, t, r, ex⟩ := H x (List.mem_cons_self ..)
  rw [ex] at hi
  generalize hl : its.toList = l at hi
  cases hi with
  |
   cons h1 h2 =>
   obtain ⟨tk, rfl⟩ := Value.isInt_shape (k := t) h1
   refine ⟨.int t tk :: fs, KatTups.cons ho hc hd (by rw [← Array.getElem?_toList, hl]; rfl) k, by rw [List.length_cons, List.length_cons, e], λ v hm => ?_⟩
   rcases List.mem_cons.mp hm with rfl | hm
   · exact ⟨_, _, rfl⟩
   · exact hv v hm
theorem Tw {h₀ : Heap} {ms : List (List NK × Addr)} (hu : A.units < cLine) (h1 : 1 <= ms.length) (kp : ∀ b o, h₀.get? b = some o -> s.heap.get? b = some o) (H : ∀ x ∈ ms, IsNest prog w h₀ x.1 x.2 /\ R5 x.1) (ok : ∀ x ∈ ms, ∀ y ∈ ms, okL x.1 y.1 = true) :
  SortsV prog w A s (tuples' true) (O := nkO) (Qs prog w h₀) (ms.map λ x => Value.ref x.2) where
 kind := λ E Q hq => by
  obtain ⟨fs, k, e, hv⟩ := R8 (h := s.heap) (ms := ms) λ x hx => ⟨(H x hx).1.kept kp, (H x hx).2⟩
  refine kat_kind (T := .type "int") k (by omega) (λ v hm => ?_) rfl hq
  obtain ⟨i, t, rfl⟩ := hv v hm
  exact W.Looks.now
 cmp := λ u hu' v hv C hC => by
  obtain ⟨x, hx, rfl⟩ := List.mem_map.mp hu'
  obtain ⟨y, hy, rfl⟩ := List.mem_map.mp hv
  have ax := H x hx
  have ay := H y hy
  have hC' : C (ltL (Qs prog w h₀ (.ref x.2)) (Qs prog w h₀ (.ref y.2))) s := hC
  rw [Fh ax.1, Fh ay.1] at hC'
  obtain ⟨o, its, n, ho, hc, hd, hi⟩ := ax.1.kept kp
  obtain ⟨o', its', n', ho', hc', hd', hi'⟩ := ay.1.kept kp
  refine kat_lt ho hd ho' hd' (Wy hu hi hi' (ok x hx y hy) ?_ ax.2 ay.2 hC')
  rw [hi.length, hi'.length, Array.length_toList, Array.length_toList]
end
section
variable {X : Cx}
theorem Fv (hu : X.A.units + 2 < cLine) : CallR X (.builtin "sorted") (λ xs H Q => ∃ (l : Addr) (ms : List (List NK × Addr)), xs = [.ref l] /\ H l = some (.lst (ms.map λ x => V.ref x.2)) /\ (∀ x ∈ ms, NkAt H x.1 x.2) /\ ms.length < 64 /\ ((∀ x ∈ ms, Rm x.1) ∨ (∀ x ∈ ms, R5 x.1)) /\ (∀ x ∈ ms, ∀ y ∈ ms, okL x.1 y.1 = true) /\
  ∀ (D : Addr) (qs : List (List NK × Addr)), H D = none -> qs.Perm ms -> (keysOf qs).Pairwise (λ x y => ltL y x = false) -> Q (.ref D) (upd H D (.lst (qs.map λ x => V.ref x.2)))) := by
 intro pins s σ H xs us Q I r h
 obtain ⟨l, ms, rfl, hl, hk, h64, hs, ok, q⟩ := h
 obtain ⟨u, rfl, ru⟩ := vals1 r
 cases ru
 obtain ⟨its, rv, pl, hz⟩ := I.list (SqL.of (K := X.K) hl)
 have e := Ng rv
 subst e
 have hn : ∀ x ∈ ms, IsNest X.prog X.w s.heap x.1 x.2 := λ x hx => B6 I.hok (hk x hx)
 refine J0 (G := λ vs => vs = ms.map λ x => Value.ref x.2) (O := nkO) (key := Qs X.prog X.w s.heap) (κ := tuples' true)
  (λ E' Q' hq => collect_list pl.isList (hq _ s.toks _ (λ b o q => by rw [Heap.get?_update_ne _ _ _ _ (Nat.ne_of_lt (Heap.lt_size q)), Heap.get?_push_ne _ _ _ (Nat.ne_of_lt (Heap.lt_size q))]; exact q) (by rw [Heap.size_update, size_push']; exact Nat.le_succ _) rfl) (by rw [List.length_map, sizeLine_eq]; omega)) ?_ (λ vs e h2 s' kp => ?_) λ D h' tk vs us e hg a1 a2 kp hge he => ?_
 ·
  rintro vs rfl
  rw [List.length_map]
  exact h64
 ·
  subst e
  rw [List.length_map] at h2
  rcases hs with hs | hs
  · exact O4 (A := X.A.in1.in1) hu (by omega) kp (λ x hx => ⟨hn x hx, hs x hx⟩) ok
  · exact Tw (A := X.A.in1.in1) hu (by omega) kp (λ x hx => ⟨hn x hx, hs x hx⟩) ok
 ·
  subst hg
  obtain ⟨qs, p1, rfl⟩ := G6 (f := λ (x : List NK × Addr) => Value.ref x.2) a1 ms rfl
  refine ⟨.ref D, _, I.laid (t' := tk) (o := .lst (qs.map λ x => V.ref x.2)) kp hge ?_, rfl, q _ qs (I.hok.fresh hge) p1 ?_⟩
  ·
   refine ⟨by rw [List.length_map, p1.length_eq, sizeLine_eq]; omega, _, e, ?_, he⟩
   clear a1 a2 p1 he
   induction qs with
   | nil => exact .nil
   | cons x qs ih => exact .cons rfl ih
  ·
   rw [List.pairwise_map] at a2 ⊢
   refine a2.imp_of_mem λ {x y} hx hy z => ?_
   have z' : ltL (Qs X.prog X.w s.heap (.ref y.2)) (Qs X.prog X.w s.heap (.ref x.2)) = false := z
   rw [Fh (hn _ (p1.mem_iff.mp hx)), Fh (hn _ (p1.mem_iff.mp hy))] at z'
   exact z'
theorem NItems.get {prog : Program} {w : World} {h : Heap} : ∀ {ks : List NK} {us : List Value}, NItems prog w h ks us -> ∀ (j : Nat) (hj : j < us.length), ∃ k, ks[j]? = some k /\ NItem prog w h k us[j]
 | _, _, .nil, j, hj => absurd hj (Nat.not_lt_zero _)
 | _, _, .cons h1 _, 0, _ => ⟨_, rfl, h1⟩
 |
  _, _, .cons _ h2, j + 1, hj => by
  obtain ⟨k, e, q⟩ := NItems.get h2 j (by simpa using hj)
  exact ⟨k, by simpa using e, by simpa using q⟩
theorem all_eq {ks ks' : List NK} : ((List.range (min ks.length ks'.length)).all (λ j => decide (ks[j]? = ks'[j]?)) && ks.length == ks'.length) = decide (ks = ks') := by
 rw [Bool.eq_iff_iff, Bool.and_eq_true, List.all_eq_true, beq_iff_eq, decide_eq_true_eq]
 constructor
 ·
  rintro ⟨h, e⟩
  refine List.ext_getElem? λ j => ?_
  by_cases hj : j < ks.length
  · exact of_decide_eq_true (h j (List.mem_range.mpr (by omega)))
  · rw [List.getElem?_eq_none (by omega), List.getElem?_eq_none (by omega)]
 ·
  rintro rfl
  exact ⟨λ _ _ => decide_eq_true rfl, rfl⟩
theorem e8 (hu : X.A.units + 2 < cLine) : OpR X (compareOp .Eq) (λ x y H Q => ∃ (p q : Addr) (ks ks' : List NK), x = .ref p /\ y = .ref q /\ NkAt H ks p /\ NkAt H ks' q /\ Q (.bl (decide (ks = ks'))) H) := by
 intro pins s σ H x y v u Q I rx ry h
 obtain ⟨p, q0, ks, ks', rfl, rfl, hp, hq, q⟩ := h
 cases rx
 cases ry
 obtain ⟨xs, t1, i1⟩ := (B6 I.hok hp).isTuple
 obtain ⟨ys, t2, i2⟩ := (B6 I.hok hq).isTuple
 have l1 : ks.length = xs.size := by rw [i1.length, Array.length_toList]
 have l2 : ks'.length = ys.size := by rw [i2.length, Array.length_toList]
 refine eq_tupleAt (e := λ j => decide (ks[j]? = ks'[j]?)) t1 t2 (by omega) (λ j h1 h2 => ?_) ?_
 ·
  obtain ⟨k, e1, n1⟩ := i1.get j (by rw [Array.length_toList]; exact h1)
  obtain ⟨k', e2, n2⟩ := i2.get j (by rw [Array.length_toList]; exact h2)
  rw [Array.getElem_toList] at n1 n2
  rw [show decide (ks[j]? = ks'[j]?) = decide (k = k') from decide_eq_decide.mpr (by rw [e1, e2, Option.some.injEq])]
  exact X6 (A := X.A.in1) (by show X.A.units + 1 < cLine; omega) n1 n2
 ·
  rw [← l1, ← l2, all_eq]
  exact ⟨.bl _, H, I, rfl, q⟩
end
end L2
namespace L2
open PySem PySem.Spec PyProof.Rows
theorem c4 {K : W.Frag} {J : It} {cap : List (Option Nat)} {tt : TT} {te : TE} {σ : St} {H1 : Hp} {Q : VK} {rs : List (Addr × V × V)} (hJ : Seq J H1 (rs.map λ r => V.ref r.1)) (ok : ∀ r ∈ rs, H1 r.1 = some (.tup [r.2.1, r.2.2])) (f : V × V -> V) (hsz : rs.length <= 100000) (htt : ∀ σ H R, R true H -> tt σ H R)
  (he : ∀ r ∈ rs, ∀ H', Same H1 H' -> ∀ R : VK, (∀ H'', Same H' H'' -> R (f r.2) H'') -> te (((L1 cap σ).set 0 (some r.2.1)).set 1 (some r.2.2)) H' R)
  (k : ∀ D H', Same H1 H' -> H1 D = none -> H' D = some (.lst (rs.map λ r => f r.2)) -> Q (.ref D) H') :
  Kj J H1 cap (p7 K 2 (gu (Nt 0) (gu (Nt 1) uk))) tt te σ Q := by
 intro D hD
 refine ⟨λ i m ys σ' H' => m = rs.length - i /\ i <= rs.length /\ (∀ v w, (σ'.set 0 v).set 1 w = ((L1 cap σ).set 0 v).set 1 w) /\ H' D = some (.lst ys) /\ Same H1 H' /\ ys = (rs.take i).map λ r => f r.2,
  ⟨rs.length, by simp, Nat.zero_le _, λ _ _ => rfl, Ae, Ag hD, by simp⟩, ?_⟩
 rintro i m ys σ' H' ⟨rfl, hi, hσ, hl, sm, hys⟩
 refine ⟨hl, ?_⟩
 obtain ⟨q1, q2⟩ := hJ H' sm
 by_cases hlt : i < rs.length
 ·
  have e : (rs.map λ r => V.ref r.1)[i]? = some (.ref (rs[i]).1) := by simp [hlt]
  obtain ⟨go, y⟩ := q1 i _ e
  refine .inr ⟨go, λ x H2 hy => ?_⟩
  obtain ⟨rfl, rfl⟩ := y x H2 hy
  have hm : rs[i] ∈ rs := List.getElem_mem hlt
  have etake : rs.take (i + 1) = rs.take i ++ [rs[i]] := by rw [List.take_add_one, List.getElem?_eq_getElem hlt]; rfl
  refine ⟨(rs[i]).1, _, rfl, SqT.of (sm _ _ (ok _ hm)), rfl, _, _, rfl, _, _, rfl, rfl, ?_⟩
  have hss : ∀ v w, ((((L1 cap σ).set 0 (some (rs[i]).2.1)).set 1 (some (rs[i]).2.2)).set 0 v).set 1 w = ((L1 cap σ).set 0 v).set 1 w := λ v w => by
   rw [List.set_comm _ _ (by decide : (1 : Nat) ≠ 0), List.set_set, List.set_set]
  show tt ((σ'.set 0 (some (rs[i]).2.1)).set 1 (some (rs[i]).2.2)) _ _
  rw [hσ]
  refine htt _ _ _ (Ij ?_)
  refine he _ hm _ sm _ λ H5 s5 => ?_
  have hl5 := s5 _ _ hl
  refine ⟨hl5, ?_, rs.length - (i + 1), by omega, rfl, hlt, hss, Ae, λ b o eb => ?_, ?_⟩
  ·
   have h1 : ys.length <= rs.length := by
    rw [hys, List.length_map, List.length_take]
    exact Nat.min_le_right _ _
   have h2 : (100000 : Nat) < sizeLine := by decide
   omega
  ·
   rw [Al (Aq eb hD)]
   exact s5 _ _ (sm _ _ eb)
  ·
   rw [etake, List.map_append, hys]
   rfl
 ·
  have e : i = rs.length := by omega
  subst e
  rw [List.length_map] at q2
  refine .inl ⟨q2, k D _ sm hD ?_⟩
  rw [hl, hys, List.take_length]
end L2
namespace DM
def leap (y : Int) : Bool := decide (y % 400 = 0) || (decide (y % 4 = 0) && !decide (y % 100 = 0))
def year (y : Int) : Int := (y - 2000) * 365 + (y - 2000 + 3) / 4 - (y - 2000 + 99) / 100 + (y - 2000 + 399) / 400
def len (y m : Int) : Int := if m = 2 then (if leap y then 29 else 28) else if m = 1 ∨ m = 3 ∨ m = 5 ∨ m = 7 ∨ m = 8 ∨ m = 10 ∨ m = 12 then 31 else 30
def ahead (m : Int) : Int := if m <= 1 then 0 else if m = 2 then 31 else if m = 3 then 59 else if m = 4 then 90 else if m = 5 then 120 else if m = 6 then 151 else if m = 7 then 181 else if m = 8 then 212 else if m = 9 then 243 else if m = 10 then 273 else if m = 11 then 304 else 334
def mb (n : Int) : Int := year (2000 + n / 12) + ahead (n % 12 + 1) + (if n % 12 + 1 > 2 /\ leap (2000 + n / 12) = true then 1 else 0)
theorem Va (y : Int) : leap y = true ↔ (y % 400 = 0 ∨ (y % 4 = 0 /\ ¬ y % 100 = 0)) := by
 simp [leap]
theorem Zb (y : Int) : year (y + 1) = year y + 365 + (if leap y = true then 1 else 0) := by
 unfold year
 by_cases h : leap y = true
 ·
  rw [if_pos h]
  rw [Va] at h
  omega
 ·
  rw [if_neg h]
  rw [Va] at h
  omega
theorem nc : ∀ k : Nat, k < 11 -> ∀ b : Bool, ahead ((k : Int) + 1 + 1) + (if (k : Int) + 1 + 1 > 2 /\ b = true then 1 else 0) = ahead ((k : Int) + 1) + (if (k : Int) + 1 > 2 /\ b = true then 1 else 0) +
 (if (k : Int) + 1 = 2 then (if b then 29 else 28) else if (k : Int) + 1 = 1 ∨ (k : Int) + 1 = 3 ∨ (k : Int) + 1 = 5 ∨ (k : Int) + 1 = 7 ∨ (k : Int) + 1 = 8 ∨ (k : Int) + 1 = 10 ∨ (k : Int) + 1 = 12 then 31 else 30) := by decide +kernel
theorem mm : ∀ b : Bool, ahead (0 + 1) + (if (0 : Int) + 1 > 2 /\ b = true then 1 else 0) + 365 + (if b = true then 1 else 0) = ahead (11 + 1) + (if (11 : Int) + 1 > 2 /\ b = true then 1 else 0) + 31 := by decide +kernel
theorem jn (n : Int) : mb (n + 1) = mb n + len (2000 + n / 12) (n % 12 + 1) := by
 obtain ⟨k, hk⟩ := Int.eq_ofNat_of_zero_le (show 0 <= n % 12 by omega)
 unfold mb len
 by_cases h : n % 12 = 11
 ·
  rw [show (n + 1) / 12 = n / 12 + 1 by omega, show (n + 1) % 12 = 0 by omega, h, show (2000 : Int) + (n / 12 + 1) = 2000 + n / 12 + 1 by omega, Zb]
  have := mm (leap (2000 + n / 12))
  rw [if_neg (show ¬ ((0 : Int) + 1 > 2 /\ leap (2000 + n / 12) = true) from λ z => absurd z.1 (by decide))] at this
  rw [if_neg (show ¬ ((0 : Int) + 1 > 2 /\ leap (2000 + n / 12 + 1) = true) from λ z => absurd z.1 (by decide)), if_neg (show ¬ (11 : Int) + 1 = 2 by decide), if_pos (show (11 : Int) + 1 = 1 ∨ (11 : Int) + 1 = 3 ∨ (11 : Int) + 1 = 5 ∨ (11 : Int) + 1 = 7 ∨ (11 : Int) + 1 = 8 ∨ (11 : Int) + 1 = 10 ∨ (11 : Int) + 1 = 12 by decide)]
  omega
 ·
  have := nc k (by omega) (leap (2000 + n / 12))
  rw [show (n + 1) / 12 = n / 12 by omega, show (n + 1) % 12 = (k : Int) + 1 by omega, hk]
  rw [Int.add_assoc, this, ← Int.add_assoc, ← Int.add_assoc]
theorem len_pos (y m : Int) : 28 <= len y m /\ len y m <= 31 := by
 unfold len
 split
 · split <;> omega
 · split <;> omega
theorem xn : mb 0 = 0 := by decide
theorem ig : mb 4800 = 146097 := by decide
def near (n : Nat) : Bool := decide (mb n * 4800 <= (n + 1) * 146097) && decide (((n : Int) - 1) * 146097 <= mb n * 4800)
def P8 : Nat -> Bool
 | 0 => true
 | n + 1 => near n && P8 n
theorem Oz : ∀ {k n : Nat}, P8 k = true -> n < k -> near n = true
 |
  k + 1, n, h, hn => by
  unfold P8 at h
  rw [Bool.and_eq_true] at h
  by_cases e : n = k
  · rw [e]; exact h.1
  · exact Oz h.2 (by omega)
set_option maxRecDepth 100000 in
theorem f6 : P8 4801 = true := by decide +kernel
theorem Yt {n : Int} (h0 : 0 <= n) (h1 : n <= 4800) : mb n * 4800 <= (n + 1) * 146097 /\ (n - 1) * 146097 <= mb n * 4800 := by
 have h := Oz (n := n.toNat) f6 (by omega)
 unfold near at h
 rw [Bool.and_eq_true, decide_eq_true_eq, decide_eq_true_eq, show ((n.toNat : Nat) : Int) = n by omega] at h
 exact h
def mo (d : Int) : Int := if mb (d * 4800 / 146097) > d then d * 4800 / 146097 - 1 else if mb (d * 4800 / 146097 + 1) <= d then d * 4800 / 146097 + 1 else d * 4800 / 146097
theorem qz {d : Int} (h0 : 0 <= d) (h1 : d < 146097) : mb (mo d) <= d /\ d < mb (mo d + 1) /\ 0 <= mo d /\ mo d < 4800 := by
 unfold mo
 have g0 : 0 <= d * 4800 / 146097 := by omega
 have g1 : d * 4800 / 146097 < 4800 := by omega
 have hd : (d * 4800 / 146097) * 146097 <= d * 4800 /\ d * 4800 < (d * 4800 / 146097 + 1) * 146097 := by omega
 generalize d * 4800 / 146097 = g at *
 have e0 := xn
 have e1 := ig
 split
 ·
  rename_i h
  have hg : 1 <= g := by
   rcases Int.lt_or_le g 1 with z | z
   ·
    have : g = 0 := by omega
    subst this
    omega
   · exact z
  have n1 := (Yt (n := g - 1) (by omega) (by omega)).1
  rw [show g - 1 + 1 = g by omega] at *
  exact ⟨by omega, by omega, by omega, by omega⟩
 ·
  split
  ·
   rename_i h2
   have hg : g + 1 < 4800 := by
    rcases Int.lt_or_le (g + 1) 4800 with z | z
    · exact z
    ·
     have : g = 4799 := by omega
     subst this
     have h2' : mb 4800 <= d := h2
     omega
   have n2 := (Yt (n := g + 2) (by omega) (by omega)).2
   rw [show g + 1 + 1 = g + 2 by omega]
   exact ⟨by omega, by omega, by omega, by omega⟩
  · exact ⟨by omega, by omega, g0, g1⟩
end DM
namespace DT
open PySem L2
def dg (n : Nat) : Nat := 48 + n % 10
def yt (n : Nat) : Str := ⟨#[50, dg (n / 100), dg (n / 10), dg n]⟩
def tt (n : Nat) : Str := ⟨#[dg (n / 10), dg n]⟩
def tx (y m d : Nat) : Str := ⟨#[50, dg (y / 100), dg (y / 10), dg y, 45, dg (m / 10), dg m, 45, dg (d / 10), dg d]⟩
theorem dw (n : Nat) : dg n ∈ ("0123456789" : Str).cps.toList := by
 have h : ∀ k : Nat, k < 10 -> 48 + k ∈ ("0123456789" : Str).cps.toList := by decide +kernel
 exact h _ (Nat.mod_lt _ (by decide))
theorem made (y m d : Nat) : ((yt y ++ tt m ++ tt d).cps.toList.all λ c => decide (c ∈ ("0123456789" : Str).cps.toList)) = true := by
 rw [List.all_eq_true]
 intro c hc
 refine decide_eq_true ?_
 have e : (yt y ++ tt m ++ tt d).cps.toList = [50, dg (y / 100), dg (y / 10), dg y, dg (m / 10), dg m, dg (d / 10), dg d] := rfl
 rw [e] at hc
 simp only [List.mem_cons, List.not_mem_nil, or_false] at hc
 rcases hc with h | h | h | h | h | h | h | h <;> subst h
 · exact dw 2
 all_goals exact dw _
def dtx (d : Int) : Str := tx (DM.mo d / 12).toNat (DM.mo d % 12 + 1).toNat (d - DM.mb (DM.mo d) + 1).toNat
theorem parts {d : Int} (h0 : 0 <= d) (h1 : d < 146097) : ∃ y m e : Nat, y < 400 /\ m < 32 /\ e < 32 /\ 2000 + DM.mo d / 12 = 2000 + (y : Int) /\ DM.mo d % 12 + 1 = (m : Int) /\ d - DM.mb (DM.mo d) + 1 = (e : Int) /\ dtx d = tx y m e /\
  1 <= m /\ m <= 12 /\ 1 <= e /\ (e : Int) <= DM.len (2000 + (y : Int)) m /\ (2000 + (y : Int) - 2000) * 12 + (m : Int) - 1 = DM.mo d /\ DM.mb (DM.mo d) + (e : Int) - 1 = d := by
 obtain ⟨o1, o2, o3, o4⟩ := DM.qz h0 h1
 have ms := DM.jn (DM.mo d)
 have lp := DM.len_pos (2000 + DM.mo d / 12) (DM.mo d % 12 + 1)
 refine ⟨(DM.mo d / 12).toNat, (DM.mo d % 12 + 1).toNat, (d - DM.mb (DM.mo d) + 1).toNat, by omega, by omega, by omega, by omega, by omega, by omega, rfl, by omega, by omega, by omega, ?_, by omega, by omega⟩
 rw [show ((DM.mo d / 12).toNat : Int) = DM.mo d / 12 by omega, show ((DM.mo d % 12 + 1).toNat : Int) = DM.mo d % 12 + 1 by omega]
 omega
def pd (n : Nat) : Str := if n < 10 then ("0" : Str) else ("" : Str)
theorem app (a b c : Str) : a ++ b ++ c = a ++ (b ++ c) := by
 obtain ⟨a⟩ := a
 obtain ⟨b⟩ := b
 obtain ⟨c⟩ := c
 show Str.mk (a ++ b ++ c) = Str.mk (a ++ (b ++ c))
 rw [Array.append_assoc]
theorem len_app (a b : Str) : (a ++ b).length = a.length + b.length := Array.size_append
end DT
namespace DK
open PySem PySem.NumText L2
def FG : List Nat := ("0123456789" : Str).cps.toList
def xo (l : List Nat) : Bool := l.all λ c => decide (c ∈ FG)
section
variable (a b c d s e f r g k : Nat)
end
def J : List (List Nat) -> List Nat
 | [] => []
 | [p] => p
 | p :: q :: r => p ++ 45 :: J (q :: r)
theorem Km : ∀ {p q X Y : List Nat}, 45 ∉ p -> 45 ∉ q -> (X = [] ∨ ∃ Z, X = 45 :: Z) -> (Y = [] ∨ ∃ Z, Y = 45 :: Z) -> p ++ X = q ++ Y -> p = q /\ X = Y
 | [], [], X, Y, _, _, _, _, h => ⟨rfl, h⟩
 |
  [], c :: q, X, Y, _, hq, hX, _, h => by
  rcases hX with rfl | ⟨Z, rfl⟩
  · cases h
  ·
   have := (List.cons.inj h).1
   exact absurd (this ▸ List.mem_cons_self ..) hq
 |
  c :: p, [], X, Y, hp, _, _, hY, h => by
  rcases hY with rfl | ⟨Z, rfl⟩
  · cases h
  ·
   have := (List.cons.inj h).1
   exact absurd (this ▸ List.mem_cons_self ..) hp
 |
  c :: p, e :: q, X, Y, hp, hq, hX, hY, h => by
  obtain ⟨h1, h2⟩ := List.cons.inj h
  obtain ⟨h3, h4⟩ := Km (λ z => hp (List.mem_cons_of_mem _ z)) (λ z => hq (List.mem_cons_of_mem _ z)) hX hY h2
  exact ⟨by rw [h1, h3], h4⟩
theorem uniq : ∀ {ps qs : List (List Nat)}, ps ≠ [] -> qs ≠ [] -> (∀ p ∈ ps, 45 ∉ p) -> (∀ q ∈ qs, 45 ∉ q) -> J ps = J qs -> ps = qs
 | [], _, h, _, _, _, _ => absurd rfl h
 | _, [], _, h, _, _, _ => absurd rfl h
 | [p], [q], _, _, _, _, h => by rw [show p = q from h]
 |
  [p], q :: q' :: qs, _, _, hp, hq, h => by
  have := Km (X := []) (Y := 45 :: J (q' :: qs)) (hp p (by simp)) (hq q (by simp)) (.inl rfl) (.inr ⟨_, rfl⟩) (by rw [List.append_nil]; exact h)
  cases this.2
 |
  p :: p' :: ps, [q], _, _, hp, hq, h => by
  have := Km (Y := []) (X := 45 :: J (p' :: ps)) (hp p (by simp)) (hq q (by simp)) (.inr ⟨_, rfl⟩) (.inl rfl) (by rw [List.append_nil]; exact h)
  cases this.2
 |
  p :: p' :: ps, q :: q' :: qs, _, _, hp, hq, h => by
  obtain ⟨h1, h2⟩ := Km (Y := 45 :: J (q' :: qs)) (X := 45 :: J (p' :: ps)) (hp p (by simp)) (hq q (by simp)) (.inr ⟨_, rfl⟩) (.inr ⟨_, rfl⟩) h
  have := uniq (ps := p' :: ps) (qs := q' :: qs) (by simp) (by simp) (λ x hx => hp x (List.mem_cons_of_mem _ hx)) (λ x hx => hq x (List.mem_cons_of_mem _ hx)) (List.cons.inj h2).2
  rw [h1, this]
def sh : List Nat -> Bool
 | [a, b, c, d, s, e, f, r, g, h] => decide (s = 45) && (decide (r = 45) && xo [a, b, c, d, e, f, g, h])
 | _ => false
def look (t : Str) : Bool := sh t.cps.toList
end DK
namespace DQ
open PySem PySem.NumText L2 DK
open PySem.Builtin.Str (strSliceIndices)
def both : Option Int -> Option Int -> Option Int
 | some d, some c => some (d * 1440 + c)
 | _, _ => none
open DT (dg tt)
theorem under : ("_" : Str) = ⟨#[95]⟩ := by decide +kernel
end DQ
namespace L2
open PySem PySem.W PyProof.Rows PySem.SeqAt DX
theorem Y5 {H : Hp} {p : Addr} : ∀ {ks : List Key} {vs : List V}, vs = ks.map kV -> NkVs H (ks.map Sum.inl) vs
 | [], _, rfl => .nil
 | _ :: _, _, rfl => .cons rfl (Y5 (p := p) rfl)
theorem U1 {H : Hp} {p : Addr} {ks : List Key} (h : H p = some (.tup (ks.map kV))) : NkAt H (ks.map Sum.inl) p := ⟨_, h, Y5 (p := p) rfl⟩
theorem KT.mem {H : Hp} : ∀ {kvs : List (List Key × V)} {ys : List (List Key × Addr × Value)}, KT H kvs ys -> ∀ y ∈ ys, H y.2.1 = some (.tup (y.1.map kV))
 | _, _, .nil, _, h => nomatch h
 |
  _, _, .cons r t, y, h => by
  rcases List.mem_cons.mp h with rfl | h
  · rw [← r.1]; exact r.2.1
  · exact KT.mem t y h
theorem KT.keys {H : Hp} : ∀ {kvs : List (List Key × V)} {ys : List (List Key × Addr × Value)}, KT H kvs ys -> ys.map (·.1) = kvs.map (·.1)
 | _, _, .nil => rfl
 | _, _, .cons r t => by rw [List.map_cons, List.map_cons, KT.keys t, r.1]
section
variable {X : Cx}
theorem Qn (hc : X.calm = true) (hu : X.A.units + 2 < cLine) : CallR X (.builtin "sorted") (λ xs H Q => ∃ (a : Addr) (kvs : List (List Key × V)), xs = [.ref a] /\ H a = some (.dT kvs) /\ kvs.length < 64 /\ (∀ k ∈ kvs.map (·.1), Rm (k.map Sum.inl)) /\ (∀ x ∈ kvs.map (·.1), ∀ y ∈ kvs.map (·.1), okL (x.map Sum.inl) (y.map Sum.inl) = true) /\
  ∀ (D : Addr) (qs : List (List Key × Addr)), H D = none -> (qs.map (·.1)).Perm (kvs.map (·.1)) -> (∀ q ∈ qs, H q.2 = some (.tup (q.1.map kV))) -> (qs.map λ q => (q.1.map Sum.inl : List NK)).Pairwise (λ x y => ltL y x = false) -> Q (.ref D) (upd H D (.lst (qs.map λ x => V.ref x.2)))) := by
 intro pins s σ H xs us Q I r h
 obtain ⟨a, kvs, rfl, hk, h64, hs, ok, q⟩ := h
 obtain ⟨u, rfl, ru⟩ := vals1 r
 cases ru
 obtain ⟨_, lo, ys, kt, o, es, ep, ho, hex, hdat, hes, hall, hnd⟩ := gv I.hok hk
 have hyl : ys.length = kvs.length := (Paired.length kt).symm
 have hym : ∀ y ∈ ys, y.1 ∈ kvs.map (·.1) := λ y hy => by rw [← kt.keys]; exact List.mem_map_of_mem hy
 have hn : ∀ y ∈ ys, IsNest X.prog X.w s.heap (y.1.map Sum.inl) y.2.1 := λ y hy => B6 I.hok (U1 (kt.mem y hy))
 have hms : ∀ x ∈ ys.map (λ y => ((y.1.map Sum.inl : List NK), y.2.1)), ∃ y ∈ ys, x = (y.1.map Sum.inl, y.2.1) := λ x hx => by obtain ⟨y, hy, rfl⟩ := List.mem_map.mp hx; exact ⟨y, hy, rfl⟩
 have hz : es.size = ys.length := by
  have := congrArg List.length hes
  rw [Array.length_toList, List.length_map] at this
  exact this
 have raw : RawD s.heap a es ep := ⟨o, ho, hex, hdat⟩
 refine J0 (G := λ vs => vs = ys.map λ x => Value.ref x.2.1) (O := nkO) (key := Qs X.prog X.w s.heap) (κ := tuples' true)
  (λ E' Q' hq => Uy (jh (ep := ep) lo) (I.ok.hd hc) raw (by rw [hz, sizeLine_eq]; omega) λ h' tk acc kp hge ia => hq h' tk _ kp hge ?_) ?_ (λ vs e h2 s' kp => ?_) λ D h' tk vs us e hg a1 a2 kp hge he => ?_
 ·
  refine List.ext_getElem? λ j => ?_
  rw [Array.getElem?_toList]
  by_cases hj : j < ys.length
  ·
   obtain ⟨v, hv⟩ : ∃ v, acc[j]? = some v := ⟨acc[j]'(by rw [ia.1, hz]; exact hj), Array.getElem?_eq_getElem _⟩
   obtain ⟨hlt, ev⟩ := ia.2 j v hv
   rw [hv, ev, List.getElem?_map, List.getElem?_eq_getElem hj]
   have e2 : es[j]? = some (entryOfKey (tupleKind (Bg X.prog X.w)) ys[j]) := by
    rw [← Array.getElem?_toList, hes, List.getElem?_map, List.getElem?_eq_getElem hj]
    rfl
   rw [Array.getElem?_eq_getElem hlt] at e2
   rw [Option.some.inj e2]
   rfl
  · rw [List.getElem?_eq_none (by rw [List.length_map]; omega), Array.getElem?_eq_none (by rw [ia.1, hz]; omega)]
 ·
  rintro vs rfl
  rw [List.length_map]
  omega
 ·
  subst e
  have hS := O4 (prog := X.prog) (w := X.w) (s := s') (A := X.A.in1.in1) (h₀ := s.heap) (ms := ys.map λ y => ((y.1.map Sum.inl : List NK), y.2.1)) hu (by rw [List.length_map] at h2 ⊢; omega) kp (λ x hx => by obtain ⟨y, hy, rfl⟩ := hms x hx; exact ⟨hn y hy, hs _ (hym y hy)⟩) (λ x hx x' hx' => by obtain ⟨y, hy, rfl⟩ := hms x hx; obtain ⟨y', hy', rfl⟩ := hms x' hx'; exact ok _ (hym y hy) _ (hym y' hy'))
  rw [List.map_map] at hS
  exact hS
 ·
  subst hg
  obtain ⟨qs, p1, rfl⟩ := G6 (f := λ (x : List Key × Addr × Value) => Value.ref x.2.1) a1 ys rfl
  have ql : (qs.map λ y => ((y.1, y.2.1) : List Key × Addr)).map (λ x => V.ref x.2) = qs.map λ y => V.ref y.2.1 := by rw [List.map_map]; rfl
  have hq := q D (qs.map λ y => (y.1, y.2.1)) (I.hok.fresh hge) (by rw [List.map_map, ← kt.keys]; exact p1.map (·.1)) (λ x hx => by obtain ⟨y, hy, rfl⟩ := List.mem_map.mp hx; exact kt.mem y (p1.mem_iff.mp hy)) (by
   rw [List.map_map]
   rw [List.pairwise_map] at a2 ⊢
   refine a2.imp_of_mem λ {x y} hx hy z => ?_
   have z' : ltL (Qs X.prog X.w s.heap (.ref y.2.1)) (Qs X.prog X.w s.heap (.ref x.2.1)) = false := z
   rw [Fh (hn _ (p1.mem_iff.mp hx)), Fh (hn _ (p1.mem_iff.mp hy))] at z'
   exact z')
  rw [ql] at hq
  refine ⟨.ref D, _, I.laid (t' := tk) (o := .lst (qs.map λ x => V.ref x.2.1)) kp hge ?_, rfl, hq⟩
  refine ⟨by rw [List.length_map, p1.length_eq, sizeLine_eq]; omega, _, e, ?_, he⟩
  clear a1 a2 p1 he hq ql
  induction qs with
  | nil => exact .nil
  | cons x qs ih => exact .cons rfl ih
end
end L2
namespace L2
open PySem PySem.Spec PyProof.Rows DX
theorem M4 {α : Type} {lt : α -> α -> Bool} (L : Lin lt) : ∀ {a b : List α}, a.Pairwise (λ x y => lt x y = true) -> b.Pairwise (λ x y => lt x y = true) -> (∀ z, z ∈ a ↔ z ∈ b) -> a = b
 | [], [], _, _, _ => rfl
 | [], y :: ys, _, _, h => nomatch (h y).mpr (List.mem_cons_self ..)
 | x :: xs, [], _, _, h => nomatch (h x).mp (List.mem_cons_self ..)
 |
  x :: xs, y :: ys, h1, h2, h => by
  rw [List.pairwise_cons] at h1 h2
  have e : x = y := by
   rcases List.mem_cons.mp ((h x).mp (List.mem_cons_self ..)) with e | hx
   · exact e
   rcases List.mem_cons.mp ((h y).mpr (List.mem_cons_self ..)) with e | hy
   · exact e.symm
   have := L.asym (h2.1 x hx)
   rw [h1.1 y hy] at this
   cases this
  subst e
  refine congrArg _ (M4 L h1.2 h2.2 λ z => ?_)
  have ne : ∀ {l : List α}, (∀ u ∈ l, lt x u = true) -> x ∉ l := λ k hx => by have := k x hx; rw [L.irr] at this; cases this
  constructor
  ·
   intro hz
   rcases List.mem_cons.mp ((h z).mp (List.mem_cons_of_mem _ hz)) with e | e
   · subst e; exact absurd hz (ne h1.1)
   · exact e
  ·
   intro hz
   rcases List.mem_cons.mp ((h z).mpr (List.mem_cons_of_mem _ hz)) with e | e
   · subst e; exact absurd hz (ne h2.1)
   · exact e
def tk (d : Td) : Str × Int := (d.a, d.n)
def mkN (k : Str × Int) : List NK := [nS k.1, nI k.2]
theorem P2 {k k' : Str × Int} (h : mkN k = mkN k') : k = k' := by
 injection h with h1 h2
 injection h2 with h2 _
 exact Prod.ext (Sum.inr.inj (Sum.inl.inj h1)) (Sum.inl.inj (Sum.inl.inj h2))
section
variable {ms : List (Lt × Addr)} {k : Str × Int} {d : Td}
theorem br (h : IsTold ltP (inK ms k) (some d)) : tk d = k := by
 obtain ⟨x, hx, t⟩ := h
 have e := hx.1.2
 cases x with
 | off a n t' => cases (show d = _ from t); exact e
 |
  bid a n t' b e' hs =>
  obtain ⟨wf, _, r⟩ := t
  rcases r with ⟨_, rfl⟩ | ⟨_, _, _, _, rfl⟩
  · exact e
  · exact e
 | close => exact t.elim
 | ans => exact t.elim
theorem gm (h : IsTold ltP (inK ms k) (some d)) : (d.st = "off" /\ d.be = none) ∨ (d.st ≠ "off" /\ ∃ b e, d.be = some (b, e)) := by
 obtain ⟨x, hx, t⟩ := h
 cases x with
 | off a n t' => cases (show d = _ from t); exact .inl ⟨rfl, rfl⟩
 |
  bid a n t' b e' hs =>
  obtain ⟨wf, _, r⟩ := t
  rcases r with ⟨_, rfl⟩ | ⟨_, _, _, _, rfl⟩
  · exact .inr ⟨(by decide : (Str.ofString "open") ≠ Str.ofString "off"), b, e', rfl⟩
  · exact .inr ⟨(by decide : (Str.ofString "closed") ≠ Str.ofString "off"), b, e', rfl⟩
 | close => exact t.elim
 | ans => exact t.elim
end
structure TdsOk (ms : List (Lt × Addr)) (ds : List Td) : Prop where
 is_ : ∀ d ∈ ds, IsTold ltP (inK ms (tk d)) (some d)
 all : ∀ x, inM ms x -> x.bo = true -> x.mk ∈ ds.map tk
 up : (ds.map λ d => mkN (tk d)).Pairwise (λ x y => ltL x y = true)
theorem TdsOk.keys {ms : List (Lt × Addr)} {ds : List Td} (h : TdsOk ms ds) (k : Str × Int) : k ∈ ds.map tk ↔ ∃ x, inM ms x /\ x.bo = true /\ x.mk = k := by
 constructor
 ·
  intro hk
  obtain ⟨d, hd, rfl⟩ := List.mem_map.mp hk
  obtain ⟨x, hx, _⟩ := h.is_ d hd
  exact ⟨x, hx.1.1, hx.2.1, hx.1.2⟩
 ·
  rintro ⟨x, h1, h2, rfl⟩
  exact h.all x h1 h2
theorem TdsOk.uniq {ms : List (Lt × Addr)} {ds ds' : List Td} (U : ∀ k, gz (inK ms k)) (h : TdsOk ms ds) (h' : TdsOk ms ds') : ds = ds' := by
 have e : (ds.map λ d => mkN (tk d)) = ds'.map λ d => mkN (tk d) := by
  refine M4 Du h.up h'.up λ z => ?_
  have two : ∀ {l : List Td}, (z ∈ l.map λ d => mkN (tk d)) ↔ ∃ k ∈ l.map tk, mkN k = z := λ {l} => by
   constructor
   ·
    intro hz
    obtain ⟨d, hd, rfl⟩ := List.mem_map.mp hz
    exact ⟨tk d, List.mem_map_of_mem hd, rfl⟩
   ·
    rintro ⟨k, hk, rfl⟩
    obtain ⟨d, hd, rfl⟩ := List.mem_map.mp hk
    exact List.mem_map_of_mem (f := λ d => mkN (tk d)) hd
  rw [two, two]
  constructor
  ·
   rintro ⟨k, hk, rfl⟩
   exact ⟨k, (h'.keys k).mpr ((h.keys k).mp hk), rfl⟩
  ·
   rintro ⟨k, hk, rfl⟩
   exact ⟨k, (h.keys k).mpr ((h'.keys k).mp hk), rfl⟩
 refine List.ext_getElem? λ i => ?_
 have ei := congrArg (λ l => l[i]?) e
 simp only [List.getElem?_map] at ei
 cases e1 : ds[i]? with
 |
  none =>
  rw [e1] at ei
  cases e2 : ds'[i]? with
  | none => rfl
  | some d' => rw [e2] at ei; cases ei
 |
  some d =>
  rw [e1] at ei
  cases e2 : ds'[i]? with
  | none => rw [e2] at ei; cases ei
  |
   some d' =>
   rw [e2] at ei
   have ek : tk d = tk d' := P2 (Option.some.inj ei)
   have a1 := h.is_ d (List.mem_of_getElem? e1)
   have a2 := h'.is_ d' (List.mem_of_getElem? e2)
   rw [← ek] at a2
   exact congrArg some (Option.some.inj (IsTold.uniq Uu (U _) a1 a2))
abbrev Qd := Int × Int × Str × Int
def qn (q : Qd) : List NK := [nI q.1, nI q.2.1, nS q.2.2.1, nI q.2.2.2]
theorem m7 {q q' : Qd} (h : qn q = qn q') : q = q' := by
 injection h with h1 h
 injection h with h2 h
 injection h with h3 h
 injection h with h4 _
 exact Prod.ext (Sum.inl.inj (Sum.inl.inj h1)) (Prod.ext (Sum.inl.inj (Sum.inl.inj h2)) (Prod.ext (Sum.inr.inj (Sum.inl.inj h3)) (Sum.inl.inj (Sum.inl.inj h4))))
def Hx (h : Str) (d : Td) : Bool := !decide (d.st = "off") && (decide (d.a = h) || (decide (h ∈ d.yes) && (decide (d.st = "open") || decide (h ∈ d.come))))
def Pw (d : Td) : Qd := ((d.be.getD (0, 0)).1, (d.be.getD (0, 0)).2, d.a, d.n)
structure vo (ds : List Td) (h : Str) (qs : List Qd) : Prop where
 perm : qs.Perm ((ds.filter (Hx h)).map Pw)
 up : (qs.map qn).Pairwise (λ x y => ltL y x = false)
def HoldsIs (ms : List (Lt × Addr)) (h : Str) (qs : List Qd) : Prop := ∃ ds, TdsOk ms ds /\ vo ds h qs
theorem HoldsIs.uniq {ms : List (Lt × Addr)} {h : Str} {qs qs' : List Qd} (U : ∀ k, gz (inK ms k)) (a : HoldsIs ms h qs) (b : HoldsIs ms h qs') : qs = qs' := by
 obtain ⟨ds, t1, h1⟩ := a
 obtain ⟨ds', t2, h2⟩ := b
 have e := t1.uniq U t2
 subst e
 have e2 : qs.map qn = qs'.map qn := DX.Ni Du ((h1.perm.trans h2.perm.symm).map qn) h1.up h2.up
 exact (List.map_inj_right λ x y z => m7 z).mp e2
def ff (H : Hp) (q : Qd) (r : Addr) : Prop := H r = some (.tup [.int q.1, .int q.2.1, .str q.2.2.1, .int q.2.2.2])
theorem du {H : Hp} {n : Nat} {p q : Addr} {rs rs' : List (Qd × Addr)} (hp : H p = some (.lst (rs.map λ r => V.ref r.2))) (hq : H q = some (.lst (rs'.map λ r => V.ref r.2))) (e : rs.map (·.1) = rs'.map (·.1)) (h : ∀ y ∈ rs, ff H y.1 y.2) (h' : ∀ y ∈ rs', ff H y.1 y.2) (hl : rs.length <= 1000) : AlH H (n + 3) (.ref p) (.ref q) := by
 have e2 : rs.length = rs'.length := by have := congrArg List.length e; rw [List.length_map, List.length_map] at this; exact this
 refine .inr ⟨p, q, _, _, rfl, rfl, .inr ⟨hp, hq⟩, by rw [List.length_map, List.length_map]; exact e2, by rw [List.length_map]; omega, ?_⟩
 intro i x y hx hy
 rw [List.getElem?_map] at hx hy
 obtain ⟨a, ha, rfl⟩ := Option.map_eq_some_iff.mp hx
 obtain ⟨b, hb, rfl⟩ := Option.map_eq_some_iff.mp hy
 have e3 : (rs.map (·.1))[i]? = (rs'.map (·.1))[i]? := by rw [e]
 rw [List.getElem?_map, List.getElem?_map, ha, hb] at e3
 have e4 : a.1 = b.1 := Option.some.inj e3
 have h1 := h a (List.mem_of_getElem? ha)
 have h2 := h' b (List.mem_of_getElem? hb)
 rw [← e4] at h2
 exact .inr ⟨a.2, b.2, _, _, rfl, rfl, .inl ⟨h1, h2⟩, rfl, by show 4 <= 1000; decide, P7 sj (P7 sj (P7 xc (P7 sj lr)))⟩
end L2
set_option smartUnfolding false
namespace K64
open PySem L2
def top (i : Nat) : Stmt := PySem.Challenge.pw_hourhouse_k64_who_is_held.main.body.getD i (.Pass ⟨0, 0, 0, 0⟩)
abbrev Cj : Stmt := top 7
abbrev Gn : Stmt := top 10
abbrev Ds : Stmt := top 13
abbrev Cv : Stmt := top 16
abbrev C3 : Stmt := top 24
abbrev C1 : Stmt := top 26
abbrev Cm : Stmt := top 27
abbrev Gi : Stmt := top 30
abbrev Cd : Stmt := inClass (top 31) 0
abbrev Ck : Stmt := inClass (top 31) 3
abbrev Cq : Stmt := top 33
abbrev Dp : Stmt := top 34
abbrev Cp : Stmt := top 35
abbrev Gm : Stmt := top 38
abbrev Au : Stmt := top 43
abbrev Gg : Stmt := top 8
abbrev Gb : Stmt := top 14
abbrev B3 : Stmt := top 28
abbrev B2 : Stmt := inClass (top 31) 5
abbrev B4 : Stmt := top 36
abbrev C4 : Stmt := top 37
abbrev Bw : Stmt := top 41
abbrev B9 : Stmt := top 44
abbrev Dx : Stmt := top 15
abbrev Ja : Stmt := top 19
abbrev Cz : Stmt := top 25
abbrev C2 : Stmt := top 39
abbrev Cb : Stmt := top 40
abbrev Ce : Stmt := top 46
abbrev Cy : Stmt := top 17
abbrev Dn : Stmt := top 21
abbrev Gd : Stmt := top 29
abbrev B7 : Stmt := top 42
abbrev Iv : Stmt := top 18
abbrev Fc : Stmt := top 20
abbrev Dr : Stmt := top 22
abbrev C5 : Stmt := inClass (top 31) 1
abbrev Dq : Stmt := top 45
abbrev Uj : Stmt := top 47
set_option genInjectivity false
set_option genSizeOf false
structure Adr where
 Fp : Addr
 Fs : FuncData
 Kv : Addr
 Jy : FuncData
 Ha : Addr
 Gu : FuncData
 Gr : Addr
 Hk : FuncData
 Fz : Addr
 Fl : FuncData
 Fo : Addr
 Ft : FuncData
 Gy : Addr
 G7 : FuncData
 Ko : Addr
 Kt : FuncData
 Ef : Addr
 Dz : FuncData
 Fw : Addr
 Fu : FuncData
 E5 : Addr
 E7 : FuncData
 He : Addr
 Hf : FuncData
 E1 : Addr
 E2 : FuncData
 Ke : Addr
 Ku : FuncData
 Cu : Addr
 Ct : FuncData
 Kf : Addr
 J7 : FuncData
 J5 : Addr
 Kr : FuncData
 E6 : Addr
 Ex : FuncData
 Ez : Addr
 E4 : FuncData
 Eh : Addr
 Eg : FuncData
 Iw : Addr
 Jb : FuncData
 C6 : Addr
 Dj : FuncData
 E8 : Addr
 Ey : FuncData
 Gp : Addr
 Hq : FuncData
 L5 : Addr
 Lx : FuncData
 G1 : Addr
 Hs : FuncData
 Fy : Addr
 Fq : FuncData
 Ec : Addr
 Ee : FuncData
 Ed : Addr
 Ej : FuncData
 Hn : Addr
 G4 : FuncData
 G9 : Addr
 Hi : FuncData
 Kc : Addr
 J2 : FuncData
 Dd : Addr
 C8 : FuncData
 L0 : Addr
 Ly : FuncData
 Iz : Addr
 Iu : FuncData
 Hl : Addr
 G8 : FuncData
 Fj : Addr
 Fn : FuncData
 Dw : Addr
 Dt : FuncData
 W0 : Addr
 Uo : FuncData
 An : Addr
structure Txt (K : W.Frag) (mg : Str -> Option Value) (a : Adr) : Prop where
 Lp : Fun K "is_made_of" "is_made_of" Cj a.Fp a.Fs
 Ta : mg "is_made_of" = some (.ref a.Fp)
 R4 : Binds K a.Fs ["text", "signs"] []
 Sh : Fun K "is_span" "is_span" Gn a.Kv a.Jy
 Xv : mg "is_span" = some (.ref a.Kv)
 X9 : Binds K a.Jy ["begin", "end"] []
 Hc : Fun K "is_number" "is_number" Ds a.Ha a.Gu
 Jo : mg "is_number" = some (.ref a.Ha)
 Jq : Binds K a.Gu ["value"] []
 Mo : Fun K "is_rising" "is_rising" Cv a.Gr a.Hk
 To : mg "is_rising" = some (.ref a.Gr)
 Ud : Binds K a.Hk ["hands"] []
 Qu : Fun K "turn_first" "turn_first" C3 a.Fz a.Fl
 Rw : mg "turn_first" = some (.ref a.Fz)
 Se : Binds K a.Fl ["letter"] []
 Lj : Fun K "answers_of" "answers_of" C1 a.Fo a.Ft
 Sn : mg "answers_of" = some (.ref a.Fo)
 Qw : Binds K a.Ft ["letters", "turn"] []
 Hg : Fun K "with_word" "with_word" Cm a.Gy a.G7
 Jr : mg "with_word" = some (.ref a.Gy)
 Jp : Binds K a.G7 ["asked", "answers", "word"] []
 Q7 : Fun K "is_held" "is_held" Gi a.Ko a.Kt
 Yo : mg "is_held" = some (.ref a.Ko)
 Y1 : Binds K a.Kt ["told", "hand"] []
 N8 : Fun K "__init__" "Table.__init__" Cd a.Ef a.Dz
 Np : Binds K a.Dz ["self"] []
 Sd : Fun K "told" "Table.told" Ck a.Fw a.Fu
 Q9 : Binds K a.Fu ["self"] []
 G5 : Fun K "_law_cell_at" "_law_cell_at" Cq a.E5 a.E7
 Jz : mg "_law_cell_at" = some (.ref a.E5)
 Ks : Binds K a.E7 ["_law_script", "_law_k"] []
 Be : Fun K "_law_mixed" "_law_mixed" Dp a.He a.Hf
 Bi : mg "_law_mixed" = some (.ref a.He)
 Bj : Binds K a.Hf ["_law_cell", "_law_k", "_law_many"] []
 J1 : Fun K "_law_name_by" "_law_name_by" Cp a.E1 a.E2
 Qk : mg "_law_name_by" = some (.ref a.E1)
 P4 : Binds K a.E2 ["_law_k", "_law_cell"] []
 Kb : Fun K "_law_key" "_law_key" Gm a.Ke a.Ku
 Mq : mg "_law_key" = some (.ref a.Ke)
 Mm : Binds K a.Ku ["_law_seed", "_law_names", "_law_asker", "_law_number", "_law_turn"] []
 Ht : Fun K "_law_meeting_by" "_law_meeting_by" Au a.Cu a.Ct
 Lq : mg "_law_meeting_by" = some (.ref a.Cu)
 Lu : Binds K a.Ct ["_law_letters", "_law_asker", "_law_number"] []
 S1 : Fun K "is_name" "is_name" Gg a.Kf a.J7
 Xl : mg "is_name" = some (.ref a.Kf)
 Zl : Binds K a.J7 ["text"] []
 Fe : Fun K "is_from" "is_from" Gb a.J5 a.Kr
 F9 : mg "is_from" = some (.ref a.J5)
 Ge : Binds K a.Kr ["value", "least"] []
 J3 : Fun K "told_of_bid" "told_of_bid" B3 a.E6 a.Ex
 Pj : mg "told_of_bid" = some (.ref a.E6)
 Pq : Binds K a.Ex ["letters", "bid"] []
 Qe : Fun K "holds" "Table.holds" B2 a.Ez a.E4
 Ki : Binds K a.E4 ["self", "hand"] []
 Jg : Fun K "_law_names_by" "_law_names_by" B4 a.Eh a.Eg
 Nr : mg "_law_names_by" = some (.ref a.Eh)
 Nw : Binds K a.Eg ["_law_cell"] []
 K0 : Fun K "_law_some" "_law_some" C4 a.Iw a.Jb
 Ov : mg "_law_some" = some (.ref a.Iw)
 O3 : Binds K a.Jb ["_law_names", "_law_asker", "_law_seed", "_law_k", "_law_least"] []
 Ia : Fun K "_law_answer_of" "_law_answer_of" Bw a.C6 a.Dj
 Mg : mg "_law_answer_of" = some (.ref a.C6)
 M8 : Binds K a.Dj ["_law_seed", "_law_names", "_law_asker", "_law_number", "_law_turn", "_law_cell"] []
 Kh : Fun K "_law_told_by" "_law_told_by" B9 a.E8 a.Ey
 Qb : mg "_law_told_by" = some (.ref a.E8)
 Ph : Binds K a.Ey ["_law_letters"] []
 Hj : Fun K "is_called" "is_called" Dx a.Gp a.Hq
 Ju : mg "is_called" = some (.ref a.Gp)
 Jt : Binds K a.Hq ["value"] []
 Vw : Fun K "is_off" "is_off" Ja a.L5 a.Lx
 dn : mg "is_off" = some (.ref a.L5)
 cv : Binds K a.Lx ["letter"] []
 Mr : Fun K "latest_of" "latest_of" Cz a.G1 a.Hs
 Ue : mg "latest_of" = some (.ref a.G1)
 Ug : Binds K a.Hs ["letters"] []
 Lh : Fun K "_law_bid_of" "_law_bid_of" C2 a.Fy a.Fq
 Tb : mg "_law_bid_of" = some (.ref a.Fy)
 Sj : Binds K a.Fq ["_law_seed", "_law_names", "_law_asker", "_law_number", "_law_turn"] []
 Jk : Fun K "_law_close_of" "_law_close_of" Cb a.Ec a.Ee
 N6 : mg "_law_close_of" = some (.ref a.Ec)
 Nq : Binds K a.Ee ["_law_seed", "_law_names", "_law_asker", "_law_number", "_law_turn"] []
 Ji : Fun K "_law_holds_by" "_law_holds_by" Ce a.Ed a.Ej
 N1 : mg "_law_holds_by" = some (.ref a.Ed)
 Nu : Binds K a.Ej ["_law_letters", "_law_hand"] []
 Jl : Fun K "are_hands" "are_hands" Cy a.Hn a.G4
 L6 : mg "are_hands" = some (.ref a.Hn)
 M5 : Binds K a.G4 ["value", "asker", "least"] []
 Ma : Fun K "is_answer" "is_answer" Dn a.G9 a.Hi
 T9 : mg "is_answer" = some (.ref a.G9)
 Tx : Binds K a.Hi ["letter"] []
 Sl : Fun K "told_of" "told_of" Gd a.Kc a.J2
 X2 : mg "told_of" = some (.ref a.Kc)
 Y8 : Binds K a.J2 ["letters"] []
 Ip : Fun K "_law_letter_by" "_law_letter_by" B7 a.Dd a.C8
 Me : mg "_law_letter_by" = some (.ref a.Dd)
 Mt : Binds K a.C8 ["_law_cell", "_law_seed", "_law_names"] []
 U8 : Fun K "is_bid" "is_bid" Iv a.L0 a.Ly
 Z7 : mg "is_bid" = some (.ref a.L0)
 cc : Binds K a.Ly ["letter"] []
 Od : Fun K "is_close" "is_close" Fc a.Iz a.Iu
 Wc : mg "is_close" = some (.ref a.Iz)
 Wi : Binds K a.Iu ["letter"] []
 M3 : Fun K "is_letter" "is_letter" Dr a.Hl a.G8
 Uv : mg "is_letter" = some (.ref a.Hl)
 Uq : Binds K a.G8 ["letter"] []
 Ri : Fun K "take" "Table.take" C5 a.Fj a.Fn
 Ru : Binds K a.Fn ["self", "letter"] []
 I0 : Fun K "_law_like" "_law_like" Dq a.Dw a.Dt
 Kz : mg "_law_like" = some (.ref a.Dw)
 Le : Binds K a.Dt ["_law_found", "_law_due"] []
 qu : Fun K "law" "law" Uj a.W0 a.Uo
 rg : mg "law" = some (.ref a.W0)
 wa : Binds K a.Uo ["_law_script"] []
 Im : ∃ t, mg "FIGURES" = some (.str "0123456789" t)
 F8 : ∃ t, mg "LETTERS" = some (.str "abcdefghijklmnopqrstuvwxyz" t)
 Ek : ∃ t, mg "MOST_HANDS" = some (.int 20 t)
 Er : ∃ t, mg "NAME_SIGNS" = some (.int 8 t)
 jo : mg "Table" = some (.ref a.An)
 Cf : Cls K a.An
 Kw : Mk K a.An a.Ef
 Iq : NoAttr K a.An "kept"
 Dl : NoAttr K a.An "by_meeting"
 Cs : NoAttr K a.An "tellings"
 Jj : Meth K a.An "holds" a.Ez
 Qo : Meth K a.An "take" a.Fj
 Pp : Meth K a.An "told" a.Fw
 Pl : mg "all" = none
 Ol : mg "bool" = none
 Wr : mg "int" = none
 A8 : mg "isinstance" = none
 Di : mg "len" = none
 Mc : mg "list" = none
 Tc : mg "max" = none
 W7 : mg "min" = none
 Hm : mg "range" = none
 Ea : mg "sorted" = none
 T8 : mg "str" = none
 Co : mg "tuple" = none
def LT : List Nat := (Str.ofString "abcdefghijklmnopqrstuvwxyz").cps.toList
def FG : List Nat := (Str.ofString "0123456789").cps.toList
def AL : List Nat := (Str.ofString "abcdefghijklmnopqrstuvwxyz0123456789").cps.toList
def J8 (l : List Nat) : Bool := if l.length < 1 ∨ 8 < l.length then false else decide (l.headD 0 ∈ LT) && l.all λ c => decide (c ∈ AL)
theorem T2 {l : List Nat} (h : l.length < 1) : J8 l = false := by unfold J8; rw [if_pos (.inl h)]
theorem V3 {l : List Nat} (h : 8 < l.length) : J8 l = false := by unfold J8; rw [if_pos (.inr h)]
theorem Yr {l : List Nat} {c : Nat} (h1 : ¬ l.length < 1) (h2 : ¬ 8 < l.length) (e : l[0]? = some c) : J8 l = (decide (c ∈ LT) && l.all λ c => decide (c ∈ AL)) := by
 unfold J8
 rw [if_neg (by intro h; rcases h with h | h <;> omega)]
 cases l with
 | nil => simp at e
 | cons x r => simp at e; subst e; rfl
theorem len_app (x y : Str) : (x ++ y).length = x.length + y.length := Array.size_append
theorem lh : (10000 : Nat) < sizeLine := by decide
def O9 : Sp := λ vs H Q _ => ∃ t g : Str, vs = [.str t, .str g] /\ t.length <= 10000 /\ ∀ H', Same H H' -> Q (.bl (t.cps.toList.all λ c => decide (c ∈ g.cps.toList))) H'
def V5 : Sp := λ vs H Q _ => ∃ t : Str, vs = [.str t] /\ t.length <= 10000 /\ ∀ H', Same H H' -> Q (.bl (J8 t.cps.toList)) H'
theorem Pe {ts : List Int} {i : Int} (lo hi : Int) (h0 : 0 <= i) (h1 : i < ts.length) (hb : ∀ t ∈ ts, lo <= t /\ t <= hi) : ∃ t, lo <= t /\ t <= hi /\ atI (ts.map V.int) i = some (.int t) := by
 obtain ⟨t, ht, e⟩ := Vm (ts := ts) h0 h1
 exact ⟨t, (hb t ht).1, (hb t ht).2, e⟩
def Wn (ns : List Int) (k : Int) : Int := if k < ns.length then ns.getD k.toNat 0 else 0
def N4 (K : W.Frag) : Sp := λ vs H Q _ => ∃ (p : Addr) (ns : List Int) (k : Int), vs = [.ref p, .int k] /\ SqL K H p (ns.map V.int) /\ 0 <= k /\ Q (.int (Wn ns k)) H
def vy (b k m : Int) : Int := b % 2147483647 * (b % 2147483647 + 2 * k + 1) % 1000000007 % m
def V9 (c k m : Int) : Int := vy (c * 48271 + 7919 * k * k + 31 * k + 5) k m
def d4 (s : Int) (ns : List Str) (a : Str) (n t : Int) : Int := s + 1009 * (oq ns a : Nat) + 10007 * (n % 100003) + 1000003 * (t % 100019)
def ro (ns : List Str) (a : Str) : List Str := ns.filter λ t => !decide (t = a)
def dq (os : List Str) (s k : Int) : List Str := ((List.range os.length).filter λ (j : Nat) => decide (0 < V9 s (k + 50 + 3 * (j : Int)) 3)).map λ (j : Nat) => os.getD j ""
def fz (ns : List Str) (a : Str) (s k m : Int) : List Str := (if ((dq (ro ns a) s k).length : Int) < m then ro ns a else dq (ro ns a) s k).take 20
def m9 (i : Int) : Int := if i = 0 then 1 else if i = 1 then 30 else 3000
def l0 (k : Int) : Int := if V9 k 3 5 = 1 then (V9 k 2 4001 - 2000) * 10 ^ (12 : Int).toNat else V9 k 2 4001 - 2000
def iq (k : Int) (ns : List Str) (a : Str) (n t : Int) : Lt := if 1 < t /\ V9 k 1 6 = 1 then .off a n t else .bid a n t (l0 k) (l0 k + 1 + V9 k 4 (m9 (V9 k 5 3))) (fz ns a k 6 1)
def Ry (k : Int) (ns : List Str) (a : Str) : List Str := if V9 k 8 4 = 1 then [] else fz ns a k 7 0
def Det (s : Int) (ns : List Str) : Lt -> Prop
 | .bid a n t b e hs => Lt.bid a n t b e hs = iq (d4 s ns a n t) ns a n t
 | .off a n t => Lt.off a n t = iq (d4 s ns a n t) ns a n t
 | .close a n t hs => hs = Ry (d4 s ns a n t) ns a
 | .ans .. => True
theorem c8 {s : Int} {ns : List Str} {S : Lt -> Prop} {k : Str × Int} (h : ∀ x, S x -> Det s ns x /\ x.mk = k) : gz S where
 bo := λ x y hx hy bx by_ e => by
  obtain ⟨dx, kx⟩ := h x hx
  obtain ⟨dy, ky⟩ := h y hy
  have e1 : ∀ z : Lt, z.bo = true -> Det s ns z -> z = iq (d4 s ns z.asker z.number z.turn) ns z.asker z.number z.turn := λ z hz dz => by
   cases z with
   | bid => exact dz
   | off => exact dz
   | close => cases hz
   | ans => cases hz
  have ea : x.asker = y.asker := congrArg Prod.fst (kx.trans ky.symm)
  have en : x.number = y.number := congrArg Prod.snd (kx.trans ky.symm)
  rw [e1 x bx dx, e1 y by_ dy, ea, en, e]
 cl := λ a n t hs a' n' hs' h1 h2 => by
  obtain ⟨d1, k1⟩ := h _ h1
  obtain ⟨d2, k2⟩ := h _ h2
  have e := k1.trans k2.symm
  have ea : a = a' := congrArg Prod.fst e
  have en : n = n' := congrArg Prod.snd e
  subst ea en
  exact d1.trans d2.symm
def Qx : Sp := λ vs H Q _ => ∃ c k m : Int, vs = [.int c, .int k, .int m] /\ 0 <= k /\ k <= 100000 /\ 0 < m /\ ∀ v : Int, 0 <= v -> v < m -> v = V9 c k m -> Q (.int v) H
def Vl (K : W.Frag) : Sp := λ vs H Q _ => ∃ (a : Addr) (ns : List Int), vs = [.ref a] /\ SqL K H a (ns.map V.int) /\ ns.length <= 63 /\ ∀ H', Q (.bl true) H'
theorem Z2 {i j : Int} : decide (V.int i = V.int j) = decide (i = j) := decide_eq_decide.mpr (by rw [V.int.injEq])
open DW
abbrev NM : Str -> Bool := λ t => J8 t.cps.toList
def Wz : Sp := λ vs H Q _ => ∃ b e : Int, vs = [.int b, .int e] /\ Q (.bl (decide (b < e))) H
def Sa : Sp := λ vs H Q _ => ∃ (v : V) (w : W), vs = [v] /\ WV H w v /\ Q (.bl (df w)) H
def W3 : Sp := λ vs H Q _ => ∃ (v : V) (w : W) (k : Int), vs = [v, .int k] /\ WV H w v /\ Q (.bl (Hb w k)) H
def Qy : Sp := λ vs H Q _ => ∃ (v : V) (w : W), vs = [v] /\ WV H w v /\ ∀ H', Same H H' -> Q (.bl (Oa NM w)) H'
def Q2 : Sp := λ vs H Q _ => ∃ (r : Addr) (l : List Str), vs = [.ref r] /\ H r = some (.tup (l.map V.str)) /\ l.length <= 1000 /\ ∀ H', Same H H' -> Q (.bl (F7 l)) H'
def Rp : Sp := λ vs H Q _ => ∃ (v : V) (w : W) (a : Str) (k : Nat), vs = [v, .str a, .int (k : Int)] /\ WV H w v /\ ∀ H', Same H H' -> Q (.bl (Ci NM w a k)) H'
def n9 (f : List W -> Bool) : Sp := λ vs H Q _ => ∃ (p : Addr) (ps : List PW_) (a : Str), vs = [.ref p] /\ LetAt H p ps /\ 4 <= ps.length /\ at_ (ws ps) 1 = .s a /\ ∀ H', Same H H' -> Q (.bl (f (ws ps))) H'
def Sk : Sp := λ vs H Q _ => ∃ (p : Addr) (ps : List PW_), vs = [.ref p] /\ LetAt H p ps /\ ∀ H', Same H H' -> Q (.bl (isL NM (ws ps))) H'
theorem getD_at {l : List Str} {j : Nat} (h : j < l.length) : atI (l.map V.str) (j : Int) = some (.str (l.getD j "")) := by
 refine Bb ?_
 rw [List.getElem?_map, List.getD_eq_getElem?_getD, List.getElem?_eq_getElem h]
 rfl
def ltF (l : List Str) : V -> V
 | .int i => .bl (decide ((l.getD (i - 1).toNat "").cps.toList < (l.getD i.toNat "").cps.toList))
 | _ => .non
theorem gc (l : List Str) (n : Nat) : (((List.range n).map λ (i : Nat) => V.int (1 + (i : Int))).map (ltF l)) = ((List.range n).map λ j => decide ((l.getD j "").cps.toList < (l.getD (j + 1) "").cps.toList)).map V.bl := by
 rw [List.map_map, List.map_map]
 refine List.map_congr_left λ i _ => ?_
 show V.bl (decide ((l.getD ((1 + (i : Int)) - 1).toNat "").cps.toList < (l.getD (1 + (i : Int)).toNat "").cps.toList)) = V.bl _
 rw [show ((1 + (i : Int)) - 1).toNat = i by omega, show (1 + (i : Int)).toNat = i + 1 by omega]
def nmF : V -> V
 | .str t => .bl (J8 t.cps.toList)
 | _ => .bl false
theorem Xn {w : W} {a : Str} (h : w = .s a) : o5 w = a := by subst h; rfl
theorem Ob {H : Hp} {w : W} {v : V} {t : Str} {Q : VK} (hw : WV H w v) (q : Q (.bl (eqS w t)) H) : ∃ u, V.str t = .str u /\ ((rEq v (.str t) H Q) ∨ ∃ a xs, v = .ref a /\ H a = some (.tup xs) /\ Q (.bl false) H) := by
 refine ⟨t, rfl, ?_⟩
 cases w with
 | n => cases hw; exact .inl ⟨rfl, by rw [show decide (V.non = V.str t) = false from decide_eq_false (λ e => nomatch e)]; exact q⟩
 | b x => cases hw; exact .inl ⟨rfl, by rw [show decide (V.bl x = V.str t) = false from decide_eq_false (λ e => nomatch e)]; exact q⟩
 | i z => cases hw; exact .inl ⟨rfl, by rw [show decide (V.int z = V.str t) = false from decide_eq_false (λ e => nomatch e)]; exact q⟩
 | s u => obtain ⟨rfl, _⟩ := hw; exact .inl ⟨rfl, by rw [show decide (V.str u = V.str t) = decide (u = t) from decide_eq_decide.mpr (by rw [V.str.injEq])]; exact q⟩
 | ts l => obtain ⟨r, rfl, h, _⟩ := hw; exact .inr ⟨r, _, rfl, h, q⟩
 | ti z => obtain ⟨r, rfl, h⟩ := hw; exact .inr ⟨r, _, rfl, h, q⟩
theorem Zt : ∀ {l : List Str}, F7 l = true -> l.Pairwise (λ x y => ltS x y = true)
 | [], _ => .nil
 | [x], _ => List.pairwise_singleton _ _
 |
  x :: y :: r, h => by
  simp only [F7, Bool.and_eq_true] at h
  have ih := Zt (l := y :: r) h.2
  refine List.Pairwise.cons (λ z hz => ?_) ih
  rcases List.mem_cons.mp hz with rfl | hz
  · exact h.1
  · exact Yp.tr _ _ _ h.1 ((List.pairwise_cons.mp ih).1 z hz)
theorem Zr : ∀ {l : List Str}, l.Pairwise (λ x y => ltS x y = true) -> F7 l = true
 | [], _ => rfl
 | [x], _ => rfl
 |
  x :: y :: r, h => by
  rw [List.pairwise_cons] at h
  simp only [F7, Bool.and_eq_true]
  exact ⟨h.1 y (List.mem_cons_self ..), Zr h.2⟩
theorem Vn {l l' : List Str} (h : F7 l = true) (s : l'.Sublist l) : F7 l' = true := Zr ((Zt h).sublist s)
theorem r9 (gs : List Str) : Wx (gs.map V.str) none (some 20) = (gs.take 20).map V.str := by
 unfold Wx
 have e0 : HT.sIx (gs.map V.str).length 0 none = 0 := rfl
 have e1 : HT.sIx (gs.map V.str).length (gs.map V.str).length (some 20) = min 20 (gs.map V.str).length := by
  unfold HT.sIx
  simp
 rw [e0, e1, List.drop_zero, Nat.sub_zero, ← List.map_take, List.length_map]
 congr 1
 by_cases h : gs.length <= 20
 · rw [Nat.min_eq_right h, List.take_length, List.take_of_length_le h]
 · rw [Nat.min_eq_left (by omega)]
def Rx (l : Lt) : Prop := isL NM l.ws = true
theorem nq {a : Str} {n t b e : Int} {hs : List Str} (ha : NM a = true) (n0 : 0 <= n) (t0 : 1 <= t) (be : b < e) (hh : Ci NM (.ts hs) a 1 = true) : Rx (.bid a n t b e hs) := by
 have e1 : decide (0 <= n) = true := decide_eq_true n0
 have e2 : decide (1 <= t) = true := decide_eq_true t0
 have e3 : decide (b < e) = true := decide_eq_true be
 show (true && (NM a && (decide (0 <= n) && (true && (decide (1 <= t) && (true && (true && (decide (b < e) && Ci NM (.ts hs) a 1)))))))) = true
 rw [ha, e1, e2, e3, hh]
 rfl
theorem ll {a : Str} {n t : Int} (ha : NM a = true) (n0 : 0 <= n) (t0 : 2 <= t) : Rx (.off a n t) := by
 have e1 : decide (0 <= n) = true := decide_eq_true n0
 have e2 : decide (2 <= t) = true := decide_eq_true t0
 show (true && (NM a && (decide (0 <= n) && (true && decide (2 <= t))))) = true
 rw [ha, e1, e2]
 rfl
theorem av {a : Str} {n t : Int} {hs : List Str} (ha : NM a = true) (n0 : 0 <= n) (t0 : 1 <= t) (hh : Ci NM (.ts hs) a 0 = true) : Rx (.close a n t hs) := by
 have e1 : decide (0 <= n) = true := decide_eq_true n0
 have e2 : decide (1 <= t) = true := decide_eq_true t0
 show (true && (NM a && (decide (0 <= n) && (true && (decide (1 <= t) && Ci NM (.ts hs) a 0))))) = true
 rw [ha, e1, e2, hh]
 rfl
theorem mw {a h w : Str} {n t g : Int} (ha : NM a = true) (n0 : 0 <= n) (t0 : 1 <= t) (hh : NM h = true) (hne : h ≠ a) (g0 : 0 <= g) (hw : w = "yes" ∨ w = "no") : Rx (.ans a n t h g w) := by
 have e1 : decide (0 <= n) = true := decide_eq_true n0
 have e2 : decide (1 <= t) = true := decide_eq_true t0
 have e3 : decide (0 <= g) = true := decide_eq_true g0
 have e4 : decide (h = a) = false := decide_eq_false hne
 show (true && (NM a && (decide (0 <= n) && (true && (true && (decide (1 <= t) && (NM h && (!decide (h = a) && (decide (0 <= g) && (decide (w = "yes") || decide (w = "no"))))))))))) = true
 rw [ha, e1, e2, e3, e4, hh]
 rcases hw with rfl | rfl <;> decide +kernel
theorem V1 {l : List Str} {a : Str} {m : Nat} (h1 : m <= l.length) (h2 : l.length <= 20) (h3 : ∀ t ∈ l, NM t = true) (h4 : F7 l = true) (h5 : ¬ a ∈ l) : Ci NM (.ts l) a m = true := by
 rw [G0, decide_eq_true h1, decide_eq_true h2, List.all_eq_true.mpr h3, h4, decide_eq_false h5]
 rfl
def t3 (i : Int) : Str := if i = 0 then "t" else if i = 1 then "ab" else "x9a"
def nmO (i : Int) (n : Nat) : Str := (t3 i ++ (⟨#[98 + n]⟩ : Str)) ++ (⟨#[97]⟩ : Str)
def nmE (i : Int) (n : Nat) : Str := ((Txt.mul "a" i ++ (⟨#[98 + n]⟩ : Str)) ++ (⟨#[97]⟩ : Str)) ++ Txt.mul "a" (6 - i)
def nmT (c : Int) (n : Nat) : Str := if c % 2 = 1 then nmO (c / 2 % 3) n else nmE (c / 2 % 7) n
def jw (t : Str) : Nat := t.cps.toList.foldl (· + ·) 0
theorem j7 : ∀ (i : Fin 3) (n : Fin 24), (J8 (nmO (i.val : Int) n.val).cps.toList && !decide (nmO (i.val : Int) n.val = "nobody") && decide (jw (nmO (i.val : Int) n.val) = jw (nmO (i.val : Int) 0) + n.val)) = true := by decide +kernel
theorem mj : ∀ (i : Fin 7) (n : Fin 24), (J8 (nmE (i.val : Int) n.val).cps.toList && !decide (nmE (i.val : Int) n.val = "nobody") && decide (jw (nmE (i.val : Int) n.val) = jw (nmE (i.val : Int) 0) + n.val)) = true := by decide +kernel
theorem T3 (c : Int) : ∀ n : Nat, n < 24 -> J8 (nmT c n).cps.toList = true /\ nmT c n ≠ "nobody" /\ jw (nmT c n) = jw (nmT c 0) + n := by
 intro n hn
 unfold nmT
 by_cases h : c % 2 = 1
 ·
  rw [if_pos h, if_pos h]
  have a0 : 0 <= c / 2 % 3 := Int.emod_nonneg _ (by decide)
  have a1 : c / 2 % 3 < 3 := Int.emod_lt_of_pos _ (by decide)
  have z := j7 ⟨(c / 2 % 3).toNat, by omega⟩ ⟨n, hn⟩
  simp only [Int.toNat_of_nonneg a0, Bool.and_eq_true, Bool.not_eq_true', decide_eq_true_eq, decide_eq_false_iff_not] at z
  exact ⟨z.1.1, z.1.2, z.2⟩
 ·
  rw [if_neg h, if_neg h]
  have a0 : 0 <= c / 2 % 7 := Int.emod_nonneg _ (by decide)
  have a1 : c / 2 % 7 < 7 := Int.emod_lt_of_pos _ (by decide)
  have z := mj ⟨(c / 2 % 7).toNat, by omega⟩ ⟨n, hn⟩
  simp only [Int.toNat_of_nonneg a0, Bool.and_eq_true, Bool.not_eq_true', decide_eq_true_eq, decide_eq_false_iff_not] at z
  exact ⟨z.1.1, z.1.2, z.2⟩
theorem gk {c : Int} {n m : Nat} (hn : n < 24) (hm : m < 24) (e : nmT c n = nmT c m) : n = m := by
 have h1 := (T3 c n hn).2.2
 have h2 := (T3 c m hm).2.2
 rw [e] at h1
 omega
theorem gq {t : Str} (h : J8 t.cps.toList = true) : (∀ c ∈ t.cps.toList, c ∈ AL) /\ t.length <= 8 := by
 have el : t.cps.toList.length = t.length := Array.length_toList
 unfold J8 at h
 by_cases z : t.cps.toList.length < 1 ∨ 8 < t.cps.toList.length
 · rw [if_pos z] at h; cases h
 ·
  rw [if_neg z, Bool.and_eq_true, List.all_eq_true] at h
  exact ⟨λ c hc => of_decide_eq_true (h.2 c hc), by omega⟩
structure Nms (ns : List Str) : Prop where
 lo : 2 <= ns.length
 hi : ns.length <= 22
 nd : ns.Nodup
 nm : ∀ t ∈ ns, NM t = true
 rise : F7 ns = true
def nmG (c : Int) : V -> V
 | .int k => .str (nmT c k.toNat)
 | _ => .non
theorem dh (c : Int) (n : Nat) : (((List.range n).map λ (i : Nat) => V.int (0 + (i : Int))).map (nmG c)) = ((List.range n).map (nmT c)).map V.str := by
 rw [List.map_map, List.map_map]
 refine List.map_congr_left λ i _ => ?_
 show V.str (nmT c (0 + (i : Int)).toNat) = V.str (nmT c i)
 rw [show (0 + (i : Int)).toNat = i by omega]
theorem iu {c : Int} {n : Nat} {ms : List Str} (h2 : 2 <= n) (hn : n <= 22) (hp : ms.Perm ((List.range n).map (nmT c))) (hs : PyProof.Rows.sortedS ms = true) : Nms ms := by
 have hl : ms.length = n := by rw [hp.length_eq, List.length_map, List.length_range]
 have nd : ms.Nodup := hp.nodup_iff.mpr ?_
 ·
  refine ⟨by omega, by omega, nd, λ t ht => ?_, Yl hs nd⟩
  obtain ⟨i, hi, rfl⟩ := List.mem_map.mp (hp.mem_iff.mp ht)
  exact (T3 c i (by have := List.mem_range.mp hi; omega)).1
 ·
  rw [List.nodup_iff_pairwise_ne, List.pairwise_map]
  exact List.Pairwise.imp_of_mem (λ {a b} ha hb hab e => hab (gk (by have := List.mem_range.mp ha; omega) (by have := List.mem_range.mp hb; omega) e)) (List.nodup_iff_pairwise_ne.mp List.nodup_range)
def Nv : Sp := λ vs H Q _ => ∃ (n : Nat) (c : Int), vs = [.int (n : Int), .int c] /\ n < 24 /\ ∀ H', Same H H' -> Q (.str (nmT c n)) H'
def Na : Sp := λ vs H Q _ => ∃ c : Int, vs = [.int c] /\ ∀ (D : Addr) (ns : List Str) H', Same H H' -> H' D = some (.lst (ns.map V.str)) -> Nms ns -> Q (.ref D) H'
def Ui : Sp := λ vs H Q _ => ∃ (L : Addr) (ns : List Str) (a : Str) (s k m : Int), vs = [.ref L, .str a, .int s, .int k, .int m] /\ H L = some (.lst (ns.map V.str)) /\ Nms ns /\ 0 <= k /\ k <= 1000 /\ 0 <= m /\ m <= 1 /\ ∀ (r : Addr) (l : List Str) H', Same H H' -> H' r = some (.tup (l.map V.str)) -> Ci NM (.ts l) a m.toNat = true -> l = fz ns a s k m -> Q (.ref r) H'
def Wb : Sp := λ vs H Q _ => ∃ (L : Addr) (ns : List Str) (a : Str) (s n t : Int), vs = [.int s, .ref L, .str a, .int n, .int t] /\ H L = some (.lst (ns.map V.str)) /\ Nms ns /\ a ∈ ns /\ ∀ v : Int, v = d4 s ns a n t -> Q (.int v) H
def gj (more : List V -> Prop) : Sp := λ vs H Q _ => ∃ (L : Addr) (ns : List Str) (a : Str) (s n t : Int) (r : List V), vs = [.int s, .ref L, .str a, .int n, .int t] ++ r /\ more r /\ H L = some (.lst (ns.map V.str)) /\ Nms ns /\ a ∈ ns /\ 0 <= n /\ n <= 10 ^ 9 /\ 1 <= t /\ t <= 10 ^ 10 /\ ∀ (p : Addr) (l : Lt) H', Same H H' -> LtAt H' l p -> Rx l -> Det s ns l -> l.mk = (a, n) -> Q (.ref p) H'
def Ls : Sp := λ vs H Q _ => ∃ (L : Addr) (ns : List Str) (c s : Int), vs = [.int c, .int s, .ref L] /\ H L = some (.lst (ns.map V.str)) /\ Nms ns /\ ∀ (p : Addr) (l : Lt) H', Same H H' -> LtAt H' l p -> Rx l -> Det s ns l -> Q (.ref p) H'
theorem s24 : ∀ n : Fin 24, (Str.ofString "bcdefghijklmnopqrstuvwxy").cps.toList[n.val]? = some (98 + n.val) := by decide +kernel
theorem rp {i : Int} (h0 : 0 <= i) (h1 : i < 3) : atI [V.str "t", V.str "ab", V.str "x9a"] i = some (.str (t3 i)) := by
 have h : i = 0 ∨ i = 1 ∨ i = 2 := by omega
 rcases h with h | h | h <;> subst h <;> rfl
theorem eo (i : Int) : (t3 i).length <= 3 := by
 unfold t3
 split
 · decide +kernel
 · split <;> decide +kernel
theorem ui {i : Int} (h0 : 0 <= i) (h1 : i <= 6) : MulOk "a" i /\ (Txt.mul "a" i).length <= 6 := by
 have h : i = 0 ∨ i = 1 ∨ i = 2 ∨ i = 3 ∨ i = 4 ∨ i = 5 ∨ i = 6 := by omega
 rcases h with h | h | h | h | h | h | h <;> subst h <;> (unfold MulOk; decide +kernel)
theorem sz2 {x y : Str} (m n : Nat) (h1 : x.length <= m) (h2 : y.length <= n) (h : m + n <= 20000 := by decide) : x.length + y.length <= sizeLine := Nat.le_trans (by omega : x.length + y.length <= 20000) (by decide)
theorem ap2 {x y : Str} (m n : Nat) (h1 : x.length <= m) (h2 : y.length <= n) : (x ++ y).length <= m + n := by rw [len_app]; omega
theorem ed (c : Nat) : (⟨#[c]⟩ : Str).length <= 1 := Nat.le_refl _
theorem pb : ∀ t ∈ (["yes", "no", "yes"] : List Str), (∀ c ∈ t.cps.toList, c ∈ AL) /\ t.length <= 8 := by decide +kernel
theorem cell_in {ns : List Int} {k : Int} (h0 : 0 <= k) (h : k < ns.length) : atI (ns.map V.int) k = some (.int (Wn ns k)) := by
 obtain ⟨j, rfl⟩ : ∃ j : Nat, k = j := ⟨k.toNat, by omega⟩
 have hj : j < ns.length := by omega
 refine Bb ?_
 unfold Wn
 rw [if_pos h, List.getElem?_map, List.getElem?_eq_getElem hj, Int.toNat_natCast, List.getD_eq_getElem?_getD, List.getElem?_eq_getElem hj]
 rfl
theorem cell_out {ns : List Int} {k : Int} (h : ¬ k < ns.length) : Wn ns k = 0 := by unfold Wn; rw [if_neg h]
theorem cw (os : List Str) : (List.range os.length).map (λ j => os.getD j "") = os := by
 refine List.ext_getElem? λ i => ?_
 rw [List.getElem?_map]
 by_cases hi : i < os.length
 ·
  rw [List.getElem?_range hi, List.getElem?_eq_getElem hi]
  show some (os.getD i "") = some os[i]
  rw [List.getD_eq_getElem?_getD, List.getElem?_eq_getElem hi]
  rfl
 ·
  rw [List.getElem?_eq_none (by rw [List.length_range]; omega), List.getElem?_eq_none (by omega)]
  rfl
theorem gd (os : List Str) (s k : Int) : (dq os s k).Sublist os := by
 have h : (dq os s k).Sublist ((List.range os.length).map λ j => os.getD j "") := (List.filter_sublist).map _
 rw [cw] at h
 exact h
def rh (s k : Int) : V -> Bool
 | .int i => decide (0 < V9 s (k + 50 + 3 * i) 3)
 | _ => false
def tw (os : List Str) : V -> V
 | .int i => .str (os.getD i.toNat "")
 | _ => .non
theorem ao (os : List Str) (s k : Int) : ((((List.range (Int.toNat (os.length : Int))).map λ (i : Nat) => V.int (0 + (i : Int))).filter (rh s k)).map (tw os)) = (dq os s k).map V.str := by
 rw [show Int.toNat (os.length : Int) = os.length by omega]
 unfold dq
 rw [List.filter_map, List.map_map, List.map_map]
 have e : (rh s k ∘ λ (i : Nat) => V.int (0 + (i : Int))) = λ j : Nat => decide (0 < V9 s (k + 50 + 3 * (j : Int)) 3) := by
  funext j
  show decide (0 < V9 s (k + 50 + 3 * (0 + (j : Int))) 3) = _
  rw [Int.zero_add]
 rw [e]
 refine List.map_congr_left λ j _ => ?_
 show V.str (os.getD (0 + (j : Int)).toNat "") = V.str (os.getD j "")
 rw [show (0 + (j : Int)).toNat = j by omega]
theorem bj {v wd : Int} (v0 : 0 <= v) (v1 : v < 3) (h : atI [V.int 1, V.int 30, V.int 3000] v = some (.int wd)) : wd = m9 v := by
 have hv : v = 0 ∨ v = 1 ∨ v = 2 := by omega
 rcases hv with rfl | rfl | rfl
 · exact V.int.inj (Option.some.inj h).symm
 · exact V.int.inj (Option.some.inj h).symm
 · exact V.int.inj (Option.some.inj h).symm
theorem LtAt.inj {H : Hp} {l l' : Lt} {p : Addr} (h : LtAt H l p) (h' : LtAt H l' p) : l = l' := by
 obtain ⟨vs, hp, r⟩ := h
 obtain ⟨vs', hp', r'⟩ := h'
 rw [hp] at hp'
 cases hp'
 have hs : ∀ {a b : List Str} {q : Addr}, H q = some (.tup (a.map V.str)) -> H q = some (.tup (b.map V.str)) -> a = b := λ {a b q} h1 h2 => by
  rw [h1] at h2
  injection h2 with h2
  injection h2 with h2
  exact (List.map_inj_right λ x y e => V.str.inj e).mp h2
 cases l <;> cases l' <;> simp only [LtVs] at r r'
 · obtain ⟨q, rfl, h1⟩ := r; obtain ⟨q', e, h2⟩ := r'; cases e; rw [hs h1 h2]
 · obtain ⟨q, rfl, h1⟩ := r; cases r'
 · obtain ⟨q, rfl, h1⟩ := r; obtain ⟨q', e, h2⟩ := r'; cases e
 · obtain ⟨q, rfl, h1⟩ := r; exact absurd (show (Str.ofString "bid") = Str.ofString "answer" by injection r' with e _; exact V.str.inj e) (by decide)
 · subst r; obtain ⟨q', e, h2⟩ := r'; cases e
 · subst r; cases r'; rfl
 · subst r; obtain ⟨q', e, h2⟩ := r'; cases e
 · subst r; cases r'
 · obtain ⟨q, rfl, h1⟩ := r; obtain ⟨q', e, h2⟩ := r'; cases e
 · obtain ⟨q, rfl, h1⟩ := r; cases r'
 · obtain ⟨q, rfl, h1⟩ := r; obtain ⟨q', e, h2⟩ := r'; cases e; rw [hs h1 h2]
 · obtain ⟨q, rfl, h1⟩ := r; cases r'
 · subst r; obtain ⟨q', e, h2⟩ := r'; exact absurd (show (Str.ofString "answer") = Str.ofString "bid" by injection e with e _; exact V.str.inj e) (by decide)
 · subst r; cases r'
 · subst r; obtain ⟨q', e, h2⟩ := r'; cases e
 · subst r; cases r'; rfl
def codeOf (ms : List (Lt × Addr)) : V -> Int × List NK
 |
  .ref p => match ms.find? λ x => decide (x.2 = p) with
  | some x => (x.1.turn, x.1.nk)
  | none => (0, [])
 | _ => (0, [])
theorem code_at {ms : List (Lt × Addr)} {x : Lt × Addr} (hx : x ∈ ms) : ∃ y ∈ ms, y.2 = x.2 /\ codeOf ms (.ref x.2) = (y.1.turn, y.1.nk) := by
 have h : (ms.find? λ y => decide (y.2 = x.2)).isSome = true := List.find?_isSome.mpr ⟨x, hx, decide_eq_true rfl⟩
 obtain ⟨y, hy⟩ := Option.isSome_iff_exists.mp h
 refine ⟨y, List.mem_of_find?_eq_some hy, of_decide_eq_true (show decide (y.2 = x.2) = true from List.find?_some (p := λ (y : Lt × Addr) => decide (y.2 = x.2)) hy), ?_⟩
 unfold codeOf
 simp only
 rw [hy]
theorem Kq {x : V} {r : List V} : atI (x :: r) 0 = some x := Bb (j := 0) rfl
theorem de {x y : V} {r : List V} : atI (x :: y :: r) 1 = some y := Bb (j := 1) rfl
theorem j5 {x y z : V} {r : List V} : atI (x :: y :: z :: r) 2 = some z := Bb (j := 2) rfl
theorem Zx {x y z u : V} {r : List V} : atI (x :: y :: z :: u :: r) 3 = some u := Bb (j := 3) rfl
theorem hu3 {cm : Bool} {k : Nat} {A : Around} (hr : Room cm k A) : A.units + 3 < cLine := Nat.lt_of_le_of_lt (Nat.add_le_add_left (by decide : 3 <= 64) _) hr.units
def Pd : Sp := λ vs H Q _ => ∃ (p : Addr) (l : Lt), vs = [.ref p] /\ LtAt H l p /\ ∀ q, H q = none -> Q (.ref q) (upd H q (.tup [.int l.turn, .ref p]))
theorem _root_.L2.LtsAt.up {H H' : Hp} {l : Addr} {ms : List (Lt × Addr)} (h : LtsAt H l ms) (s : Same H H') : LtsAt H' l ms := ⟨s _ _ h.at_, λ x hx => (h.ok x hx).up s, h.few⟩
theorem K3 {H : Hp} {ms : List (Lt × Addr)} {x : Lt × Addr} (ok : ∀ x ∈ ms, LtAt H x.1 x.2) (hx : x ∈ ms) : codeOf ms (.ref x.2) = (x.1.turn, x.1.nk) := by
 obtain ⟨c, hc, ec, h⟩ := code_at hx
 have e : c.1 = x.1 := LtAt.inj (by rw [← ec]; exact ok c hc) (ok x hx)
 rw [h, e]
def boF (ms : List (Lt × Addr)) : V -> Bool
 |
  .ref p => match ms.find? λ x => decide (x.2 = p) with
  | some x => x.1.bo
  | none => false
 | _ => false
theorem Yf {H : Hp} {ms : List (Lt × Addr)} {x : Lt × Addr} (ok : ∀ x ∈ ms, LtAt H x.1 x.2) (hx : x ∈ ms) : boF ms (.ref x.2) = x.1.bo := by
 have h : (ms.find? λ y => decide (y.2 = x.2)).isSome = true := List.find?_isSome.mpr ⟨x, hx, decide_eq_true rfl⟩
 obtain ⟨y, hy⟩ := Option.isSome_iff_exists.mp h
 have e2 : y.2 = x.2 := of_decide_eq_true (show decide (y.2 = x.2) = true from List.find?_some (p := λ (y : Lt × Addr) => decide (y.2 = x.2)) hy)
 have e1 : y.1 = x.1 := LtAt.inj (by rw [← e2]; exact ok y (List.mem_of_find?_eq_some hy)) (ok x hx)
 unfold boF
 simp only
 rw [hy]
 simp only
 rw [e1]
theorem Zz (x : Lt) : x.bo = (decide (x.kind = "bid") || decide (x.kind = "off")) := by
 cases x with
 | bid => exact (by decide +kernel : true = (decide ((Str.ofString "bid") = Str.ofString "bid") || decide ((Str.ofString "bid") = Str.ofString "off")))
 | off => exact (by decide +kernel : true = (decide ((Str.ofString "off") = Str.ofString "bid") || decide ((Str.ofString "off") = Str.ofString "off")))
 | close => exact (by decide +kernel : false = (decide ((Str.ofString "close") = Str.ofString "bid") || decide ((Str.ofString "close") = Str.ofString "off")))
 | ans => exact (by decide +kernel : false = (decide ((Str.ofString "answer") = Str.ofString "bid") || decide ((Str.ofString "answer") = Str.ofString "off")))
theorem Gx (x y : Str) : decide (V.str x = V.str y) = decide (x = y) := decide_eq_decide.mpr (by rw [V.str.injEq])
def Qz : Sp := λ vs H Q _ => ∃ (L : Addr) (ms : List (Lt × Addr)), vs = [.ref L] /\ LtsAt H L ms /\ ∀ v H', Same H H' -> ((v = .non /\ ∀ x, inM ms x -> x.bo = false) ∨ ∃ x ∈ ms, v = .ref x.2 /\ IsLast (inM ms) x.1) -> Q v H'
def Si (ms : List (Lt × Addr)) (i : Nat) (x : Lt) : Prop := inM (ms.take i) x
theorem Tn {ms : List (Lt × Addr)} {i : Nat} {y : Lt × Addr} (h : ms[i]? = some y) (x : Lt) : Si ms (i + 1) x ↔ Si ms i x ∨ x = y.1 := by
 unfold Si inM
 rw [List.take_succ, h, List.map_append, List.mem_append]
 exact or_congr Iff.rfl List.mem_singleton
theorem fh {ms : List (Lt × Addr)} : Si ms ms.length = inM ms := by
 funext x
 unfold Si
 rw [List.take_length]
def LtG : Lt -> Prop
 | .ans _ _ _ _ g _ => 0 <= g
 | _ => True
def P5 : Sp := λ vs H Q _ => ∃ (L : Addr) (ms : List (Lt × Addr)) (t : Int), vs = [.ref L, .int t] /\ LtsAt H L ms /\ (∀ x ∈ ms, LtG x.1) /\ ∀ (D : Addr) (kvs : List (Key × V)) H', Same H H' -> H' D = some (.dK kvs) -> AnsB H' (inM ms) t kvs -> Q (.ref D) H'
def qi (L : Addr) (xs : List V) : Hp := λ b => if b = L then some (.lst xs) else none
theorem Uh {L : Addr} {xs : List V} : qi L xs L = some (.lst xs) := if_pos rfl
theorem M6 {L : Addr} {xs : List V} {H : Hp} (h : H L = some (.lst xs)) : Same (qi L xs) H := λ b o e => by
 unfold qi at e
 by_cases hb : b = L
 · rw [if_pos hb] at e; rw [hb, h]; exact e
 · rw [if_neg hb] at e; cases e
theorem xu {a b : Int} {x y : Str} : okT [.inl a, .inr x] [.inl b, .inr y] = true := by
 unfold okT
 split
 · unfold okT; split <;> rfl
 · rfl
def oV : Option Str -> V
 | none => .non
 | some t => .str t
def Sr : Sp := λ vs H Q _ => ∃ (A D : Addr) (l : List Str) (kvs : List (Key × V)) (o : Option Str) (wf : Str -> Option Str), vs = [.ref A, .ref D, oV o] /\ H A = some (.tup (l.map V.str)) /\ l.length <= 1000 /\ H D = some (.dK kvs) /\ (∀ h, KnowW H kvs h (wf h)) /\ ∀ (r : Addr) H', Same H H' -> H' r = some (.tup ((Ky wf o l).map V.str)) -> Q (.ref r) H'
def wP (wf : Str -> Option Str) (o : Option Str) : V -> Bool
 | .str h => decide (wf h = o)
 | _ => false
theorem Vt (wf : Str -> Option Str) (o : Option Str) (l : List Str) : (((l.map V.str).filter (wP wf o)).map λ v => v) = (Ky wf o l).map V.str := by
 rw [List.map_id'' (λ _ => rfl), List.filter_map]
 rfl
def clF (ms : List (Lt × Addr)) (t : Int) : V -> Bool
 |
  .ref p => match ms.find? λ x => decide (x.2 = p) with
  | some x => decide (x.1.kind = "close") && decide (x.1.turn = t)
  | none => false
 | _ => false
theorem Zf {H : Hp} {ms : List (Lt × Addr)} {t : Int} {x : Lt × Addr} (ok : ∀ x ∈ ms, LtAt H x.1 x.2) (hx : x ∈ ms) : clF ms t (.ref x.2) = (decide (x.1.kind = "close") && decide (x.1.turn = t)) := by
 have h : (ms.find? λ y => decide (y.2 = x.2)).isSome = true := List.find?_isSome.mpr ⟨x, hx, decide_eq_true rfl⟩
 obtain ⟨y, hy⟩ := Option.isSome_iff_exists.mp h
 have e2 : y.2 = x.2 := of_decide_eq_true (show decide (y.2 = x.2) = true from List.find?_some (p := λ (y : Lt × Addr) => decide (y.2 = x.2)) hy)
 have e1 : y.1 = x.1 := LtAt.inj (by rw [← e2]; exact ok y (List.mem_of_find?_eq_some hy)) (ok x hx)
 unfold clF
 simp only
 rw [hy]
 simp only
 rw [e1]
def N7 : Sp := λ vs H Q _ => ∃ (L B : Addr) (ms : List (Lt × Addr)) (a0 : Str) (n t b e : Int) (hs : List Str), vs = [.ref L, .ref B] /\ LtsAt H L ms /\ (∀ x ∈ ms, Y7 x.1) /\ (∀ x ∈ ms, LtG x.1) /\ LtAt H (.bid a0 n t b e hs) B /\ hs.length <= 1000 /\ ∀ (r : Addr) (d : Td) H', Same H H' -> TdAt H' d r -> ToldOf ltP (inM ms) (.bid a0 n t b e hs) d -> Q (.ref r) H'
theorem E3 (wf : Str -> Option Str) (o : Option Str) (l : List Str) : (Ky wf o l).length <= l.length := List.length_filter_le _ _
def fw (hs : List Str) : V -> Bool
 | .str h => !decide (h ∈ hs)
 | _ => false
theorem U9 (hs l : List Str) : (((l.map V.str).filter (fw hs)).map λ v => v) = (l.filter λ h => !decide (h ∈ hs)).map V.str := by
 rw [List.map_id'' (λ _ => rfl), List.filter_map]
 rfl
def V8 : Sp := λ vs H Q _ => ∃ (L : Addr) (ms : List (Lt × Addr)), vs = [.ref L] /\ LtsAt H L ms /\ (∀ x ∈ ms, Y7 x.1) /\ (∀ x ∈ ms, LtG x.1) /\ ∀ v H', Same H H' -> ((v = .non /\ IsTold ltP (inM ms) none) ∨ ∃ (r : Addr) (d : Td), v = .ref r /\ TdAt H' d r /\ IsTold ltP (inM ms) (some d)) -> Q v H'
def Pr (P : Program) (w : World) (C : Addr) : Sp := λ vs H Q _ => ∃ (x dx : Addr), vs = [.ref x] /\ H x = some (.ins C dx []) /\ ∀ (k m t : Addr) (H' : Hp), (∀ b o, H b = some o -> b ≠ x -> H' b = some o) -> H k = none -> H m = none -> H t = none -> TabAt P w C H' x k m t [] [] [] -> Q .non H'
def J4 (P : Program) (w : World) (C : Addr) : Sp := λ vs H Q E => ∃ (x k m t p : Addr) (ms : List (Lt × Addr)) (bs : MBs) (ts : List (List Key × V)) (l : Lt), vs = [.ref x, .ref p] /\ TabAt P w C H x k m t ms bs ts /\ TlOk H ms ts /\ (∀ y ∈ ms, LtG y.1) /\ LtAt H l p /\ Rx l /\ Y7 l /\ LtG l /\ ms.length < 900 /\
 (O6 (nks ms) l.nk = true -> ∀ H', Same H H' -> Q (.bl false) H') /\
 (O6 (nks ms) l.nk = false -> ∀ (bs' : MBs) (ts' : List (List Key × V)) (H' : Hp), (∀ b o, H b = some o -> ¬ bq k m t bs b -> H' b = some o) -> (∀ y ∈ bs', (∃ z ∈ bs, z.2.1 = y.2.1) ∨ H y.2.1 = none) -> TabAt P w C H' x k m t (ms ++ [(l, p)]) bs' ts' -> TlOk H' (ms ++ [(l, p)]) ts' -> Q (.bl true) H')
def lqF (P : Lt -> Bool) (ms : List (Lt × Addr)) : V -> Bool
 |
  .ref p => match ms.find? λ x => decide (x.2 = p) with
  | some x => P x.1
  | none => false
 | _ => false
theorem Tj {H : Hp} {ms : List (Lt × Addr)} {x : Lt × Addr} (ok : ∀ x ∈ ms, LtAt H x.1 x.2) (hx : x ∈ ms) : ∃ y, (ms.find? λ y => decide (y.2 = x.2)) = some y /\ y.1 = x.1 := by
 have h : (ms.find? λ y => decide (y.2 = x.2)).isSome = true := List.find?_isSome.mpr ⟨x, hx, decide_eq_true rfl⟩
 obtain ⟨y, hy⟩ := Option.isSome_iff_exists.mp h
 have e2 : y.2 = x.2 := of_decide_eq_true (show decide (y.2 = x.2) = true from List.find?_some (p := λ (y : Lt × Addr) => decide (y.2 = x.2)) hy)
 exact ⟨y, hy, LtAt.inj (by rw [← e2]; exact ok y (List.mem_of_find?_eq_some hy)) (ok x hx)⟩
theorem Mi {H : Hp} {P : Lt -> Bool} {ms : List (Lt × Addr)} {x : Lt × Addr} (ok : ∀ x ∈ ms, LtAt H x.1 x.2) (hx : x ∈ ms) : lqF P ms (.ref x.2) = P x.1 := by
 obtain ⟨y, hy, e⟩ := Tj ok hx
 unfold lqF
 simp only
 rw [hy]
 simp only
 rw [e]
theorem Qr {H : Hp} {P : Lt -> Bool} {ms ls : List (Lt × Addr)} (ok : ∀ x ∈ ms, LtAt H x.1 x.2) (hs : ∀ x ∈ ls, x ∈ ms) : (ls.map λ x => V.ref x.2).filter (lqF P ms) = (ls.filter λ x => P x.1).map λ x => V.ref x.2 := by
 rw [List.filter_map]
 congr 1
 refine List.filter_congr λ x hx => ?_
 exact Mi ok (hs x hx)
theorem Rj {H : Hp} {P : Lt -> Bool} {ms ls : List (Lt × Addr)} (ok : ∀ x ∈ ms, LtAt H x.1 x.2) (hs : ∀ x ∈ ls, x ∈ ms) : (((ls.map λ x => V.ref x.2).filter (lqF P ms)).map λ v => v) = (ls.filter λ x => P x.1).map λ x => V.ref x.2 := by
 rw [List.map_id'' (λ _ => rfl), Qr ok hs]
def bnP (a : Str) (n : Int) (x : Lt) : Bool := x.bo && (decide (x.asker = a) && decide (x.number = n))
theorem l4 (x : Lt) : inV (.str x.kind) ((["bid", "off"] : List Str).map V.str) = x.bo := by
 rw [Fm, Zz, Bool.eq_iff_iff, Bool.or_eq_true, decide_eq_true_eq, decide_eq_true_eq, decide_eq_true_eq, List.mem_cons, List.mem_singleton]
def anP (a : Str) (n t : Int) (h : Str) : Lt -> Bool
 | .ans a' n' t' h' _ _ => decide (([.inl (.inr a'), .inl (.inl n'), .inl (.inl t'), .inl (.inr h')] : List NK) = [.inl (.inr a), .inl (.inl n), .inl (.inl t), .inl (.inr h)])
 | _ => false
theorem Xm {a : Str} {n t : Int} {h : Str} {x : Lt} : anP a n t h x = true ↔ ∃ g w, x = .ans a n t h g w := by
 cases x with
 |
  ans a' n' t' h' g w =>
  show decide _ = true ↔ _
  rw [decide_eq_true_eq]
  constructor
  ·
   intro e
   injection e with e1 e
   injection e with e2 e
   injection e with e3 e
   injection e with e4 e
   rw [Sum.inr.inj (Sum.inl.inj e1), Sum.inl.inj (Sum.inl.inj e2), Sum.inl.inj (Sum.inl.inj e3), Sum.inr.inj (Sum.inl.inj e4)]
   exact ⟨g, w, rfl⟩
  ·
   rintro ⟨g', w', e⟩
   injection e with e1 e2 e3 e4
   rw [e1, e2, e3, e4]
 | bid => exact ⟨(λ z => nomatch z), (λ ⟨_, _, z⟩ => nomatch z)⟩
 | off => exact ⟨(λ z => nomatch z), (λ ⟨_, _, z⟩ => nomatch z)⟩
 | close => exact ⟨(λ z => nomatch z), (λ ⟨_, _, z⟩ => nomatch z)⟩
def clP (a : Str) (n t : Int) : Lt -> Bool
 | .close a' n' t' _ => decide (([.inl (.inr a'), .inl (.inl n'), .inl (.inl t')] : List NK) = [.inl (.inr a), .inl (.inl n), .inl (.inl t)])
 | _ => false
theorem Yk {a : Str} {n t : Int} {x : Lt} : clP a n t x = true ↔ ∃ hs, x = .close a n t hs := by
 cases x with
 |
  close a' n' t' hs =>
  show decide _ = true ↔ _
  rw [decide_eq_true_eq]
  constructor
  ·
   intro e
   injection e with e1 e
   injection e with e2 e
   injection e with e3 e
   rw [Sum.inr.inj (Sum.inl.inj e1), Sum.inl.inj (Sum.inl.inj e2), Sum.inl.inj (Sum.inl.inj e3)]
   exact ⟨hs, rfl⟩
  ·
   rintro ⟨hs', e⟩
   injection e with e1 e2 e3
   rw [e1, e2, e3]
 | bid => exact ⟨(λ z => nomatch z), (λ ⟨_, z⟩ => nomatch z)⟩
 | off => exact ⟨(λ z => nomatch z), (λ ⟨_, z⟩ => nomatch z)⟩
 | ans => exact ⟨(λ z => nomatch z), (λ ⟨_, z⟩ => nomatch z)⟩
def ag : Lt -> Int × Str
 | .ans _ _ _ _ g w => (g, w)
 | _ => (0, "")
def ot (ms : List (Lt × Addr)) : V -> Int × Str
 |
  .ref p => match ms.find? λ x => decide (x.2 = p) with
  | some x => ag x.1
  | none => (0, "")
 | _ => (0, "")
theorem Xb {H : Hp} {ms : List (Lt × Addr)} {x : Lt × Addr} (ok : ∀ x ∈ ms, LtAt H x.1 x.2) (hx : x ∈ ms) : ot ms (.ref x.2) = ag x.1 := by
 obtain ⟨y, hy, e⟩ := Tj ok hx
 unfold ot
 simp only
 rw [hy]
 simp only
 rw [e]
def RlA (ms : List (Lt × Addr)) (H : Hp) (v y : V) : Prop := ∃ q : Addr, y = .ref q /\ H q = some (.tup [.int (ot ms v).1, .str (ot ms v).2])
theorem Xj {ms : List (Lt × Addr)} {H H0 : Hp} (ok : ∀ x ∈ ms, LtAt H0 x.1 x.2) : ∀ {al : List (Lt × Addr)} {ys : List V}, (∀ x ∈ al, x ∈ ms) -> Paired (RlA ms H) (al.map λ x => V.ref x.2) ys -> ∃ zs : List ((Int × Str) × Addr), ys = (zs.map λ z => V.ref z.2) /\ (∀ z ∈ zs, H z.2 = some (.tup [.int z.1.1, .str z.1.2])) /\ zs.map (·.1) = al.map λ x => ag x.1
 | [], _, _, .nil => ⟨[], rfl, (λ _ z => nomatch z), rfl⟩
 |
  x :: al, _, hs, .cons ⟨q, e, hq⟩ r => by
  obtain ⟨zs, e1, e2, e3⟩ := Xj ok (λ x hx => hs x (List.mem_cons_of_mem _ hx)) r
  rw [Xb ok (hs x (List.mem_cons_self ..))] at hq
  refine ⟨(ag x.1, q) :: zs, by rw [e, e1]; rfl, λ z hz => ?_, by rw [List.map_cons, e3]; rfl⟩
  rcases List.mem_cons.mp hz with rfl | hz
  · exact hq
  · exact e2 z hz
def pn (x : Int × Str) : List NK := (pk x).map Sum.inl
theorem Vv : ∀ a b : List Key, ltL (a.map Sum.inl) (b.map Sum.inl) = DX.F4 ltK a b
 | [], [] => rfl
 | [], _ :: _ => rfl
 | _ :: _, [] => rfl
 |
  x :: a, y :: b => by
  show (if (Sum.inl x : NK) = .inl y then ltL (a.map Sum.inl) (b.map Sum.inl) else ltN (.inl x) (.inl y)) = if x = y then DX.F4 ltK a b else ltK x y
  by_cases e : x = y
  · rw [if_pos e, if_pos (congrArg Sum.inl e), Vv a b]
  ·
   rw [if_neg e, if_neg (λ z => e (Sum.inl.inj z))]
   rfl
theorem qw (a b : Int × Str) : ltL (pn a) (pn b) = ltP a b := Vv _ _
theorem rq (a b : Int × Str) : okL (pn a) (pn b) = true := Ba rfl (Ba rfl rfl)
def WdOk (S : Lt -> Prop) (t : Int) (hs : List Str) (i : Nat) (kvs : List (Key × V)) : Prop := ∀ h, (Eu kvs (.inr h) = none /\ (h ∈ hs.take i -> WordIs ltP S t h none)) ∨ ∃ w, Eu kvs (.inr h) = some (.str w) /\ WordIs ltP S t h (some w)
theorem WdOk.skip {S : Lt -> Prop} {t : Int} {hs : List Str} {i : Nat} {kvs : List (Key × V)} {h : Str} (k : WdOk S t hs i kvs) (e : hs[i]? = some h) (n : WordIs ltP S t h none) : WdOk S t hs (i + 1) kvs := λ x => (k x).imp (λ ⟨e1, e2⟩ => ⟨e1, λ z => by
 rw [List.take_add_one, e, List.mem_append] at z
 rcases z with z | z
 · exact e2 z
 · rw [show x = h from List.mem_singleton.mp z]; exact n⟩) id
theorem WdOk.put {S : Lt -> Prop} {t : Int} {hs : List Str} {i : Nat} {kvs : List (Key × V)} {h w : Str} (k : WdOk S t hs i kvs) (e : hs[i]? = some h) (n : WordIs ltP S t h (some w)) : WdOk S t hs (i + 1) (putK kvs (.inr h) (.str w)) := λ x => by
 rw [Jx]
 by_cases ex : x = h
 ·
  subst ex
  rw [if_pos rfl]
  exact .inr ⟨w, rfl, n⟩
 ·
  rw [if_neg (λ z => ex (Sum.inr.inj z))]
  refine (k x).imp (λ ⟨e1, e2⟩ => ⟨e1, λ z => ?_⟩) id
  rw [List.take_add_one, e, List.mem_append] at z
  rcases z with z | z
  · exact e2 z
  · exact absurd (List.mem_singleton.mp z) ex
theorem Yn {ms al : List (Lt × Addr)} {a0 h0 : Str} {n M : Int} {zs : List ((Int × Str) × Addr)} {qs : List (List NK × Addr)} {q : List NK × Addr} (ha : ∀ x, x ∈ al ↔ x ∈ ms /\ ∃ g w, x.1 = .ans a0 n M h0 g w) (hz : zs.map (·.1) = al.map λ x => ag x.1)
  (hp : (qs ++ [q]).Perm (zs.map λ z => (pn z.1, z.2))) (hs : (keysOf (qs ++ [q])).Pairwise (λ x y => ltL y x = false)) : ∃ z ∈ zs, q = (pn z.1, z.2) /\ WordIs ltP (inK ms (a0, n)) M h0 (some z.1.2) := by
 obtain ⟨z, hzm, rfl⟩ := List.mem_map.mp (hp.mem_iff.mp (List.mem_append_right _ (List.mem_singleton.mpr rfl)))
 refine ⟨z, hzm, rfl, z.1.1, ?_, ?_⟩
 ·
  have h1 : z.1 ∈ al.map λ x => ag x.1 := by rw [← hz]; exact List.mem_map_of_mem hzm
  obtain ⟨x, hx, ex⟩ := List.mem_map.mp h1
  obtain ⟨hm, g, w, e⟩ := (ha x).mp hx
  rw [e] at ex
  refine ⟨a0, n, ?_, rfl⟩
  rw [← ex]
  exact List.mem_map.mpr ⟨x, hm, e⟩
 ·
  rintro a' n' g' w' ⟨h1, h2⟩
  obtain ⟨x, hx, ex⟩ := List.mem_map.mp h1
  have e1 : a' = a0 := congrArg Prod.fst h2
  have e2 : n' = n := congrArg Prod.snd h2
  subst e1 e2
  have hxa : x ∈ al := (ha x).mpr ⟨hx, g', w', ex⟩
  have h3 : (g', w') ∈ zs.map (·.1) := by rw [hz]; exact List.mem_map.mpr ⟨x, hxa, by rw [ex]; rfl⟩
  obtain ⟨u, hu, eu⟩ := List.mem_map.mp h3
  have h4 : (pn u.1, u.2) ∈ qs ++ [(pn z.1, z.2)] := hp.mem_iff.mpr (List.mem_map_of_mem (f := λ z : (Int × Str) × Addr => (pn z.1, z.2)) hu)
  show ltP z.1 (g', w') = false
  rw [← eu, ← qw]
  rcases List.mem_append.mp h4 with h4 | h4
  ·
   unfold keysOf at hs
   rw [List.map_append, List.pairwise_append] at hs
   exact hs.2.2 _ (List.mem_map_of_mem (f := λ x : List NK × Addr => x.1) h4) _ (List.mem_singleton.mpr rfl)
  ·
   have e5 := List.mem_singleton.mp h4
   have e6 : pn u.1 = pn z.1 := congrArg Prod.fst e5
   rw [e6]
   exact Du.irr _
def wfS (kvs : List (Key × V)) (h : Str) : Option Str := match Eu kvs (.inr h) with
 | some (.str w) => some w
 | _ => none
theorem O2 {kvs : List (Key × V)} {h : Str} : (Eu kvs (.inr h) = none -> wfS kvs h = none) /\ ∀ w, Eu kvs (.inr h) = some (.str w) -> wfS kvs h = some w := by
 unfold wfS
 exact ⟨λ e => by rw [e], λ w e => by rw [e]⟩
theorem WdOk.word {S : Lt -> Prop} {t : Int} {hs : List Str} {kvs : List (Key × V)} (k : WdOk S t hs hs.length kvs) (h : Str) (hh : h ∈ hs) : WordIs ltP S t h (wfS kvs h) := by
 rcases k h with ⟨e, n⟩ | ⟨w, e, n⟩
 ·
  rw [O2.1 e]
  exact n (by rw [List.take_length]; exact hh)
 ·
  rw [O2.2 w e]
  exact n
theorem WdOk.get {S : Lt -> Prop} {t : Int} {hs : List Str} {i : Nat} {kvs : List (Key × V)} {h x : Str} (k : WdOk S t hs i kvs) (hx : (Str.ofString "") ≠ x) : decide ((Eu kvs (.inr h)).getD (.str "") = .str x) = decide (wfS kvs h = some x) := by
 refine decide_eq_decide.mpr ?_
 rcases k h with ⟨e, n⟩ | ⟨w, e, n⟩
 ·
  rw [O2.1 e, e]
  exact ⟨(λ z => absurd (V.str.inj z) hx), (λ z => nomatch z)⟩
 ·
  rw [O2.2 w e, e]
  show V.str w = V.str x ↔ _
  rw [V.str.injEq, Option.some.injEq]
theorem WdOk.mem {S : Lt -> Prop} {t : Int} {hs : List Str} {i : Nat} {kvs : List (Key × V)} {h : Str} (k : WdOk S t hs i kvs) : (!(Eu kvs (.inr h)).isSome) = decide (wfS kvs h = none) := by
 rcases k h with ⟨e, n⟩ | ⟨w, e, n⟩
 ·
  rw [O2.1 e, e]
  rfl
 ·
  rw [O2.2 w e, e]
  rfl
def clH : Lt -> List Str
 | .close _ _ _ hs => hs
 | _ => []
def O0 (ms : List (Lt × Addr)) : V -> List Str
 |
  .ref p => match ms.find? λ x => decide (x.2 = p) with
  | some x => clH x.1
  | none => []
 | _ => []
theorem Yy {H : Hp} {ms : List (Lt × Addr)} {x : Lt × Addr} (ok : ∀ x ∈ ms, LtAt H x.1 x.2) (hx : x ∈ ms) : O0 ms (.ref x.2) = clH x.1 := by
 obtain ⟨y, hy, e⟩ := Tj ok hx
 unfold O0
 simp only
 rw [hy]
 simp only
 rw [e]
def RlC (ms : List (Lt × Addr)) (H : Hp) (v y : V) : Prop := ∃ q : Addr, y = .ref q /\ H q = some (.tup ((O0 ms v).map V.str))
def K4 : Sp := λ vs H Q _ => ∃ (L : Addr) (ms : List (Lt × Addr)) (a : Str) (n : Int), vs = [.ref L, .str a, .int n] /\ LtsAt H L ms /\ (∀ x ∈ ms, Y7 x.1) /\ ms.length < 64 /\ ∀ v H', Same H H' -> ((v = .non /\ IsTold ltP (inK ms (a, n)) none) ∨ ∃ (r : Addr) (d : Td), v = .ref r /\ TdAt H' d r /\ IsTold ltP (inK ms (a, n)) (some d)) -> Q v H'
theorem se {l : Lt} (h : Rx l) : NM l.asker = true := by
 have h' : isL NM l.ws = true := h
 unfold isL at h'
 rw [Bool.and_eq_true, Bool.and_eq_true] at h'
 have h2 := h'.2.1
 cases l <;> exact h2
theorem Vs {l : List Str} {a : Str} {n : Nat} (h : Ci NM (.ts l) a n = true) : l.length <= 1000 /\ ∀ t ∈ l, t.length <= 10000 := by
 rw [G0] at h
 simp only [Bool.and_eq_true, decide_eq_true_eq] at h
 exact ⟨by omega, λ t ht => by have := (gq (List.all_eq_true.mp h.1.1.2 t ht)).2; omega⟩
theorem ri {l : Lt} (h : Rx l) : Y7 l := by
 have ha : l.asker.length <= 10000 := by have := (gq (se h)).2; omega
 have h' : isL NM l.ws = true := h
 cases l with
 |
  bid a n t b e hs =>
  have h2 : (true && (NM a && (decide (0 <= n) && (true && (decide (1 <= t) && (true && (true && (decide (b < e) && Ci NM (.ts hs) a 1)))))))) = true := h'
  simp only [Bool.and_eq_true] at h2
  exact ⟨ha, Vs h2.2.2.2.2.2.2.2.2⟩
 | off a n t => exact ha
 |
  close a n t hs =>
  have h2 : (true && (NM a && (decide (0 <= n) && (true && (decide (1 <= t) && Ci NM (.ts hs) a 0))))) = true := h'
  simp only [Bool.and_eq_true] at h2
  exact ⟨ha, Vs h2.2.2.2.2.2⟩
 |
  ans a n t hd g w =>
  have h2 : (true && (NM a && (decide (0 <= n) && (true && (true && (decide (1 <= t) && (NM hd && (!decide (hd = a) && (decide (0 <= g) && (decide (w = "yes") || decide (w = "no"))))))))))) = true := h'
  simp only [Bool.and_eq_true, Bool.or_eq_true, decide_eq_true_eq] at h2
  have h3 := (gq h2.2.2.2.2.2.2.1).2
  refine ⟨ha, by omega, ?_⟩
  rcases h2.2.2.2.2.2.2.2.2.2 with e | e <;> rw [e] <;> decide +kernel
theorem Zo (n : Nat) : (((List.range n).map λ (i : Nat) => V.int (0 + (i : Int))).map λ _ => V.bl true) = (List.replicate n true).map V.bl := by
 rw [List.map_map, List.map_replicate]
 exact List.eq_replicate_iff.mpr ⟨by rw [List.length_map, List.length_range], λ b hb => by obtain ⟨_, _, rfl⟩ := List.mem_map.mp hb; rfl⟩
theorem c5 {α : Type} (xs : List α) : (xs.map λ _ => V.bl true) = (List.replicate xs.length true).map V.bl := by
 rw [List.map_replicate]
 exact List.eq_replicate_iff.mpr ⟨by rw [List.length_map], λ b hb => by obtain ⟨_, _, rfl⟩ := List.mem_map.mp hb; rfl⟩
theorem Ut (n : Nat) : (List.replicate n true).all id = true := by rw [List.all_eq_true]; intro x hx; exact (List.mem_replicate.mp hx).2
def Gz (n : Nat) : Sp := λ vs H Q _ => ∃ v u, vs = [v, u] /\ AlH H n v u /\ ∀ H', Same H H' -> Q (.bl true) H'
theorem t4 {l : Lt} (h : Rx l) : LtG l := by
 cases l with
 | bid => exact True.intro
 | off => exact True.intro
 | close => exact True.intro
 |
  ans a n t hd g w =>
  have h2 : (true && (NM a && (decide (0 <= n) && (true && (true && (decide (1 <= t) && (NM hd && (!decide (hd = a) && (decide (0 <= g) && (decide (w = "yes") || decide (w = "no"))))))))))) = true := h
  simp only [Bool.and_eq_true, decide_eq_true_eq] at h2
  exact h2.2.2.2.2.2.2.2.2.1
def Wv : Sp := λ vs H Q _ => ∃ (p : Addr) (d : Td) (h : Str), vs = [.ref p, .str h] /\ TdAt H d p /\ ∀ H', Same H H' -> Q (.bl (Hx h d)) H'
def RlT (ms : List (Lt × Addr)) (H : Hp) (v y : V) : Prop := ∃ (q : Addr) (k : Str × Int) (r : Addr) (d : Td), v = .ref q /\ H q = some (.tup ((mkK k).map kV)) /\ y = .ref r /\ TdAt H d r /\ IsTold ltP (inK ms k) (some d)
theorem eh : ∀ {x y : Key}, kV x = kV y -> x = y
 | .inl _, .inl _, h => congrArg Sum.inl (V.int.inj h)
 | .inr _, .inr _, h => congrArg Sum.inr (V.str.inj h)
 | .inl _, .inr _, h => nomatch h
 | .inr _, .inl _, h => nomatch h
theorem gp {H : Hp} {q : Addr} {k k' : List Key} (h : H q = some (.tup (k.map kV))) (h' : H q = some (.tup (k'.map kV))) : k = k' := by
 rw [h] at h'
 injection h' with h'
 injection h' with h'
 exact (List.map_inj_right λ x y e => eh e).mp h'
theorem Y9 {ms : List (Lt × Addr)} {H : Hp} : ∀ {qs : List (List Key × Addr)} {ys : List V}, (∀ q ∈ qs, H q.2 = some (.tup (q.1.map kV))) -> Paired (RlT ms H) (qs.map λ q => V.ref q.2) ys -> ∃ rs : List (Td × Addr), ys = (rs.map λ r => V.ref r.2) /\ (∀ r ∈ rs, TdAt H r.1 r.2 /\ IsTold ltP (inK ms (tk r.1)) (some r.1)) /\ (rs.map λ r => mkK (tk r.1)) = qs.map (·.1)
 | [], _, _, .nil => ⟨[], rfl, (λ _ z => nomatch z), rfl⟩
 |
  q :: qs, _, hs, .cons ⟨q0, k, r, d, e1, e2, e3, e4, e5⟩ rr => by
  obtain ⟨rs, f1, f2, f3⟩ := Y9 (λ x hx => hs x (List.mem_cons_of_mem _ hx)) rr
  have ek := br e5
  refine ⟨(d, r) :: rs, by rw [e3, f1]; rfl, λ x hx => ?_, ?_⟩
  ·
   rcases List.mem_cons.mp hx with rfl | hx
   · exact ⟨e4, by rw [ek]; exact e5⟩
   · exact f2 x hx
  ·
   rw [List.map_cons, List.map_cons, f3]
   cases e1
   rw [gp (hs q (List.mem_cons_self ..)) e2]
   show mkK (tk d) :: _ = _
   rw [ek]
def Ka (P : Program) (w : World) (C : Addr) : Sp := λ vs H Q _ => ∃ (x k m t : Addr) (ms : List (Lt × Addr)) (bs : MBs) (ts : List (List Key × V)), vs = [.ref x] /\ TabAt P w C H x k m t ms bs ts /\ TlOk H ms ts /\ ms.length < 64 /\
 ∀ (D : Addr) (rs : List (Td × Addr)) H', Same H H' -> H D = none -> H' D = some (.lst (rs.map λ r => V.ref r.2)) -> (∀ r ∈ rs, TdAt H' r.1 r.2) -> TdsOk ms (rs.map (·.1)) -> rs.length < 64 -> Q (.ref D) H'
theorem P1 {H H' : Hp} {D : Addr} (s : Same H H') (h : H' D = none) : H D = none := by
 cases e : H D with
 | none => rfl
 | some o => rw [s _ _ e] at h; cases h
theorem kg {ms : List (Lt × Addr)} {H : Hp} {ts : List (List Key × V)} {rs : List (Td × Addr)} {qs : List (List Key × Addr)} (tl : TlOk H ms ts) (hp : (qs.map (·.1)).Perm (ts.map (·.1))) (hs : (qs.map λ q => (q.1.map Sum.inl : List NK)).Pairwise (λ x y => ltL y x = false))
  (h1 : ∀ r ∈ rs, IsTold ltP (inK ms (tk r.1)) (some r.1)) (h2 : (rs.map λ r => mkK (tk r.1)) = qs.map (·.1)) : TdsOk ms (rs.map (·.1)) where
 is_ := λ d hd => by
  obtain ⟨r, hr, rfl⟩ := List.mem_map.mp hd
  exact h1 r hr
 all := λ x hx bx => by
  have hk : mkK x.mk ∈ ts.map (·.1) := by
   rcases tl.val x.mk with ⟨_, n⟩ | ⟨r, d, e, _, _⟩
   · have := n x ⟨hx, rfl⟩; rw [bx] at this; cases this
   · exact fq e
  rw [← hp.mem_iff, ← h2] at hk
  obtain ⟨r, hr, e⟩ := List.mem_map.mp hk
  rw [List.map_map]
  exact List.mem_map.mpr ⟨r, hr, Ub e⟩
 up := by
  have nd : ((rs.map λ r => mkK (tk r.1))).Nodup := by rw [h2]; exact hp.nodup_iff.mpr tl.nd
  have hs2 : (rs.map λ r => mkN (tk r.1)).Pairwise (λ x y => ltL y x = false) := by
   have e : (rs.map λ r => mkN (tk r.1)) = qs.map λ q => (q.1.map Sum.inl : List NK) := by
    have e1 : (rs.map λ r => mkN (tk r.1)) = (rs.map λ r => mkK (tk r.1)).map λ k => (k.map Sum.inl : List NK) := by rw [List.map_map]; rfl
    rw [e1, h2, List.map_map]
    rfl
   rw [e]
   exact hs
  rw [List.map_map]
  rw [List.nodup_iff_pairwise_ne, List.pairwise_map] at nd
  rw [List.pairwise_map] at hs2 ⊢
  refine (nd.and hs2).imp λ {x y} z => ?_
  show ltL (mkN (tk x.1)) (mkN (tk y.1)) = true
  cases e : ltL (mkN (tk x.1)) (mkN (tk y.1)) with
  | true => rfl
  | false => exact absurd (by rw [P2 (Du.tot _ _ e z.2)]) z.1
theorem Ib {H : Hp} {q : Addr} {a b : List Str} (h1 : H q = some (.tup (a.map V.str))) (h2 : H q = some (.tup (b.map V.str))) : a = b := by
 rw [h1] at h2
 injection h2 with h2
 injection h2 with h2
 exact (List.map_inj_right λ x y e => V.str.inj e).mp h2
theorem gh : ∀ {x y : Option (Int × Int)}, (beV x).1 = (beV y).1 -> (beV x).2 = (beV y).2 -> x = y
 | none, none, _, _ => rfl
 | none, some _, h, _ => nomatch h
 | some _, none, h, _ => nomatch h
 | some (a, b), some (c, d), h1, h2 => by rw [V.int.inj h1, V.int.inj h2]
theorem TdAt.inj {H : Hp} {d d' : Td} {r : Addr} (h : TdAt H d r) (h' : TdAt H d' r) : d = d' := by
 obtain ⟨q1, q2, q3, q4, q5, e0, e1, e2, e3, e4, e5⟩ := h.at_
 obtain ⟨p1, p2, p3, p4, p5, f0, f1, f2, f3, f4, f5⟩ := h'.at_
 rw [e0] at f0
 injection f0 with f0
 injection f0 with f0
 injection f0 with g1 f0
 injection f0 with g2 f0
 injection f0 with g3 f0
 injection f0 with g4 f0
 injection f0 with g5 f0
 injection f0 with g6 f0
 injection f0 with g7 f0
 injection f0 with g8 f0
 injection f0 with g9 f0
 injection f0 with g10 f0
 injection f0 with g11 f0
 have k7 := V.ref.inj g7
 have k8 := V.ref.inj g8
 have k9 := V.ref.inj g9
 have k10 := V.ref.inj g10
 have k11 := V.ref.inj g11
 subst k7 k8 k9 k10 k11
 have a1 := V.str.inj g1
 have a2 := V.int.inj g2
 have a3 := V.int.inj g3
 have a4 := V.str.inj g4
 have a5 := gh g5 g6
 have a6 := Ib e1 f1
 have a7 := Ib e2 f2
 have a8 := Ib e3 f3
 have a9 := Ib e4 f4
 have a10 := Ib e5 f5
 cases d
 cases d'
 simp only at a1 a2 a3 a4 a5 a6 a7 a8 a9 a10
 subst a1 a2 a3 a4 a5 a6 a7 a8 a9 a10
 rfl
def tdG {α : Type} (dflt : α) (P : Td -> α) (rs : List (Td × Addr)) : V -> α
 |
  .ref p => match rs.find? λ x => decide (x.2 = p) with
  | some x => P x.1
  | none => dflt
 | _ => dflt
theorem Ve {H : Hp} {α : Type} {dflt : α} {P : Td -> α} {rs : List (Td × Addr)} {x : Td × Addr} (ok : ∀ x ∈ rs, TdAt H x.1 x.2) (hx : x ∈ rs) : tdG dflt P rs (.ref x.2) = P x.1 := by
 have h : (rs.find? λ y => decide (y.2 = x.2)).isSome = true := List.find?_isSome.mpr ⟨x, hx, decide_eq_true rfl⟩
 obtain ⟨y, hy⟩ := Option.isSome_iff_exists.mp h
 have e2 : y.2 = x.2 := of_decide_eq_true (show decide (y.2 = x.2) = true from List.find?_some (p := λ (y : Td × Addr) => decide (y.2 = x.2)) hy)
 have e1 : y.1 = x.1 := TdAt.inj (by rw [← e2]; exact ok y (List.mem_of_find?_eq_some hy)) (ok x hx)
 unfold tdG
 simp only
 rw [hy]
 simp only
 rw [e1]
theorem h8 {H : Hp} {P : Td -> Bool} {rs : List (Td × Addr)} (ok : ∀ x ∈ rs, TdAt H x.1 x.2) : (((rs.map λ x => V.ref x.2).filter (tdG false P rs)).map λ v => v) = (rs.filter λ x => P x.1).map λ x => V.ref x.2 := by
 rw [List.map_id'' (λ _ => rfl), List.filter_map]
 congr 1
 refine List.filter_congr λ x hx => ?_
 exact Ve ok hx
def RlQ (rs : List (Td × Addr)) (H : Hp) (v y : V) : Prop := ∃ q : Addr, y = .ref q /\ ff H (tdG (0, 0, "", 0) Pw rs v) q
theorem d5 {rs : List (Td × Addr)} {H H0 : Hp} (ok : ∀ x ∈ rs, TdAt H0 x.1 x.2) : ∀ {al : List (Td × Addr)} {ys : List V}, (∀ x ∈ al, x ∈ rs) -> Paired (RlQ rs H) (al.map λ x => V.ref x.2) ys -> ∃ zs : List (Qd × Addr), ys = (zs.map λ z => V.ref z.2) /\ (∀ z ∈ zs, ff H z.1 z.2) /\ zs.map (·.1) = al.map λ x => Pw x.1
 | [], _, _, .nil => ⟨[], rfl, (λ _ z => nomatch z), rfl⟩
 |
  x :: al, _, hs, .cons ⟨q, e, hq⟩ r => by
  obtain ⟨zs, e1, e2, e3⟩ := d5 ok (λ x hx => hs x (List.mem_cons_of_mem _ hx)) r
  rw [Ve ok (hs x (List.mem_cons_self ..))] at hq
  refine ⟨(Pw x.1, q) :: zs, by rw [e, e1]; rfl, λ z hz => ?_, by rw [List.map_cons, e3]; rfl⟩
  rcases List.mem_cons.mp hz with rfl | hz
  · exact hq
  · exact e2 z hz
theorem Ye {ms : List (Lt × Addr)} {k : Str × Int} {d : Td} {h : Str} (t : IsTold ltP (inK ms k) (some d)) (b : Hx h d = true) : beV d.be = (.int (Pw d).1, .int (Pw d).2.1) := by
 rcases gm t with ⟨e, _⟩ | ⟨_, b0, e0, e⟩
 ·
  unfold Hx at b
  rw [decide_eq_true e] at b
  cases b
 ·
  unfold Pw
  rw [e]
  rfl
theorem my (a b : Qd) : okL (qn a) (qn b) = true := Ba rfl (Ba rfl (Ba rfl (Ba rfl rfl)))
theorem m5 {H : Hp} {q : Qd} {r : Addr} (h : ff H q r) : NkAt H (qn q) r := ⟨_, h, .cons rfl (.cons rfl (.cons rfl (.cons rfl .nil)))⟩
theorem holds_of {ms : List (Lt × Addr)} {ds : List Td} {h : Str} {zs : List (Qd × Addr)} {qs : List (List NK × Addr)} (t : TdsOk ms ds) (e : zs.map (·.1) = (ds.filter (Hx h)).map Pw) (hp : qs.Perm (zs.map λ z => (qn z.1, z.2))) (hs : (keysOf qs).Pairwise (λ x y => ltL y x = false)) :
  ∃ zs' : List (Qd × Addr), zs'.Perm zs /\ qs = (zs'.map λ z => (qn z.1, z.2)) /\ HoldsIs ms h (zs'.map (·.1)) := by
 obtain ⟨zs', p, e2⟩ := G6 (f := λ (z : Qd × Addr) => (qn z.1, z.2)) hp zs rfl
 refine ⟨zs', p, e2, ds, t, ⟨by rw [← e]; exact p.map (·.1), ?_⟩⟩
 rw [e2] at hs
 unfold keysOf at hs
 rw [List.map_map] at hs ⊢
 exact hs
def F6 (P : Program) (w : World) (C : Addr) : Sp := λ vs H Q _ => ∃ (x k m t : Addr) (ms : List (Lt × Addr)) (bs : MBs) (ts : List (List Key × V)) (h : Str), vs = [.ref x, .str h] /\ TabAt P w C H x k m t ms bs ts /\ TlOk H ms ts /\ ms.length < 64 /\
 ∀ (D : Addr) (zs : List (Qd × Addr)) H', Same H H' -> H D = none -> H' D = some (.lst (zs.map λ z => V.ref z.2)) -> (∀ z ∈ zs, ff H' z.1 z.2) -> HoldsIs ms h (zs.map (·.1)) -> zs.length < 64 -> Q (.ref D) H'
theorem rm {H : Hp} {l : Lt} {vs : List V} (h : LtVs H l vs) (b : l.bo = true) : Wx vs (some 1) (some 3) = (mkK l.mk).map kV := by
 cases l with
 | bid => obtain ⟨q, rfl, _⟩ := h; rfl
 | off => cases h; rfl
 | close => cases b
 | ans => cases b
structure NmOk (ms : List (Lt × Addr)) (i : Nat) (ks : List (Str × Int)) : Prop where
 nd : ks.Nodup
 all : ∀ x, Si ms i x -> x.bo = true -> x.mk ∈ ks
 has : ∀ k ∈ ks, ∃ x, inM ms x /\ x.bo = true /\ x.mk = k
theorem NmOk.skip {ms : List (Lt × Addr)} {i : Nat} {ks : List (Str × Int)} {y : Lt × Addr} (k : NmOk ms i ks) (e : ms[i]? = some y) (h : y.1.bo = true -> y.1.mk ∈ ks) : NmOk ms (i + 1) ks := ⟨k.nd, λ x hx bx => by
 rcases (Tn e x).mp hx with hx | rfl
 · exact k.all x hx bx
 · exact h bx, k.has⟩
theorem NmOk.add {ms : List (Lt × Addr)} {i : Nat} {ks : List (Str × Int)} {y : Lt × Addr} (k : NmOk ms i ks) (e : ms[i]? = some y) (b : y.1.bo = true) (h : y.1.mk ∉ ks) : NmOk ms (i + 1) (ks ++ [y.1.mk]) := ⟨by
 rw [List.nodup_append]
 refine ⟨k.nd, List.pairwise_singleton _ _, λ x hx z hz e => ?_⟩
 rw [List.mem_singleton] at hz
 exact h (by rw [← hz, ← e]; exact hx), λ x hx bx => by
 rcases (Tn e x).mp hx with hx | rfl
 · exact List.mem_append_left _ (k.all x hx bx)
 · exact List.mem_append_right _ (List.mem_singleton.mpr rfl), λ z hz => by
 rcases List.mem_append.mp hz with hz | hz
 · exact k.has z hz
 ·
  rw [List.mem_singleton] at hz
  exact ⟨y.1, List.mem_map_of_mem (List.mem_of_getElem? e), b, hz.symm⟩⟩
abbrev KA := (Str × Int) × Addr
def kns (ks : List KA) : List (List NK × Addr) := ks.map λ q => (mkN q.1, q.2)
theorem V2 (ks : List KA) : ((kns ks).map λ x => V.ref x.2) = ks.map λ q => V.ref q.2 := by unfold kns; rw [List.map_map]; rfl
theorem iz {ks : List KA} {k : Str × Int} : O6 (kns ks) (mkN k) = decide (k ∈ ks.map (·.1)) := by
 rw [Bool.eq_iff_iff, decide_eq_true_eq]
 unfold O6 kns
 rw [List.any_eq_true]
 constructor
 ·
  rintro ⟨x, hx, e⟩
  obtain ⟨q, hq, rfl⟩ := List.mem_map.mp hx
  rw [← P2 (of_decide_eq_true e)]
  exact List.mem_map_of_mem hq
 ·
  intro h
  obtain ⟨q, hq, rfl⟩ := List.mem_map.mp h
  exact ⟨_, List.mem_map_of_mem (f := λ q : KA => (mkN q.1, q.2)) hq, decide_eq_true rfl⟩
theorem mx (a b : Str × Int) : okL (mkN a) (mkN b) = true := Ba rfl (Ba rfl rfl)
theorem jr {ms : List (Lt × Addr)} {rs : List (Td × Addr)} {ks : List KA} (nm : NmOk ms ms.length (ks.map (·.1))) (hs : (ks.map λ q => mkN q.1).Pairwise (λ x y => ltL y x = false))
  (h1 : ∀ r ∈ rs, IsTold ltP (inK ms (tk r.1)) (some r.1)) (h2 : (rs.map λ r => tk r.1) = ks.map (·.1)) : TdsOk ms (rs.map (·.1)) where
 is_ := λ d hd => by
  obtain ⟨r, hr, rfl⟩ := List.mem_map.mp hd
  exact h1 r hr
 all := λ x hx bx => by
  rw [List.map_map]
  show x.mk ∈ rs.map λ r => tk r.1
  rw [h2]
  exact nm.all x (by rw [fh]; exact hx) bx
 up := by
  have nd : (rs.map λ r => tk r.1).Nodup := by rw [h2]; exact nm.nd
  have hs2 : (rs.map λ r => mkN (tk r.1)).Pairwise (λ x y => ltL y x = false) := by
   have e : (rs.map λ r => mkN (tk r.1)) = ks.map λ q => mkN q.1 := by
    have e1 : (rs.map λ r => mkN (tk r.1)) = (rs.map λ r => tk r.1).map mkN := by rw [List.map_map]; rfl
    rw [e1, h2, List.map_map]
    rfl
   rw [e]
   exact hs
  rw [List.map_map]
  rw [List.nodup_iff_pairwise_ne, List.pairwise_map] at nd
  rw [List.pairwise_map] at hs2 ⊢
  refine (nd.and hs2).imp λ {x y} z => ?_
  show ltL (mkN (tk x.1)) (mkN (tk y.1)) = true
  cases e : ltL (mkN (tk x.1)) (mkN (tk y.1)) with
  | true => rfl
  | false => exact absurd (P2 (Du.tot _ _ e z.2)) z.1
def Nx : Sp := λ vs H Q _ => ∃ (L : Addr) (ms : List (Lt × Addr)), vs = [.ref L] /\ LtsAt H L ms /\ (∀ x ∈ ms, Y7 x.1) /\ ms.length < 64 /\
 ∀ (D : Addr) (rs : List (Td × Addr)) H', Same H H' -> H D = none -> H' D = some (.lst (rs.map λ r => V.ref r.2)) -> (∀ r ∈ rs, TdAt H' r.1 r.2) -> TdsOk ms (rs.map (·.1)) -> rs.length < 64 -> Q (.ref D) H'
def Nl : Sp := λ vs H Q _ => ∃ (L : Addr) (ms : List (Lt × Addr)) (h : Str), vs = [.ref L, .str h] /\ LtsAt H L ms /\ (∀ x ∈ ms, Y7 x.1) /\ ms.length < 64 /\
 ∀ (D : Addr) (zs : List (Qd × Addr)) H', Same H H' -> H D = none -> H' D = some (.lst (zs.map λ z => V.ref z.2)) -> (∀ z ∈ zs, ff H' z.1 z.2) -> HoldsIs ms h (zs.map (·.1)) -> zs.length < 64 -> Q (.ref D) H'
def X8 (h : Str) (d : Td) : Bool := decide (d.a = h) || (decide (h ∈ d.yes) && (decide (d.st = "open") || decide (h ∈ d.come)))
end K64
namespace K64
open PySem L2 DW
section
variable {P : Program} {w : World} {K : W.Frag} {mg : Str -> Option Value} {base : Heap} {a : Adr}
theorem Qj : Ax ["text", "signs"] ["text", "signs"] (Ac Cj) := ⟨rfl, rfl, rfl, by decide +kernel, rfl, by decide +kernel, by decide +kernel⟩
theorem Py (T : Txt K mg a) : FnOk P w K mg base CX0 true 1 a.Fp a.Fs ["text", "signs"] (O9) := by
 refine T.Lp.ok Qj (λ vs H Q E h => ?_) (λ cdv A outer s H vs Q E hr h => ?_)
 · obtain ⟨t, g, rfl, _⟩ := h; rfl
 ·
  obtain ⟨t, g, rfl, hl, k⟩ := h
  refine ⟨_, (Ai (As (Aj (Ik (K := K) rfl rfl) rfl T.Pl (by decide +kernel) (Aa (B8 (N := ["sign", "signs"]) (cap := [none, some 1]) (by show Ay (Ac Cj) _ ["text", "signs"] _ _; exact ⟨rfl, by decide +kernel, by decide +kernel, by decide +kernel, by decide +kernel, rfl, by decide +kernel⟩) rfl (ki (pv 0)) (λ C s H fp => ⟨(Bh (i := 0) (by show (["sign", "signs"] : List Str).Nodup; decide +kernel) rfl (Or.inl rfl) (.inr rfl)), F5, (B5 R3 (pv 0) (pv 1) (by with_unfolding_all rfl))⟩)) Ad)))), ?_⟩
  refine ⟨_, rfl, t, rfl, ?_⟩
  refine Bl (iw t H) (λ _ => true) (λ v => V.bl (match v with | .str y => decide (y.cps.toList.headD 0 ∈ g.cps.toList) | _ => false)) ?_ ?_ ?_ ?_
  ·
   rw [List.length_map, Array.length_toList]
   exact Nat.le_trans hl (by decide)
  · exact λ x _ H' _ R hR => hR H' (Same.refl _)
  ·
   intro x hx _ H' _ R hR
   obtain ⟨c, _, rfl⟩ := List.mem_map.mp hx
   exact ⟨_, rfl, _, rfl, c, g, rfl, rfl, hR H' (Same.refl _)⟩
  ·
   intro D H' sm _ hD
   refine ⟨D, t.cps.toList.map λ c => decide (c ∈ g.cps.toList), rfl, SqL.of ?_, ?_⟩
   ·
    rw [hD, List.filter_eq_self.mpr (λ _ _ => rfl), List.map_map, List.map_map]
    rfl
   ·
    have := k H' sm
    rw [List.all_map]
    exact this
theorem We : Ax ["begin", "end"] ["begin", "end"] (Ac Gn) := ⟨rfl, rfl, rfl, by decide +kernel, rfl, by decide +kernel, by decide +kernel⟩
theorem Wk (T : Txt K mg a) : FnOk P w K mg base CX0 true 1 a.Kv a.Jy ["begin", "end"] (Wz) := by
 refine T.Sh.ok We (λ vs H Q E h => ?_) (λ cdv A outer s H vs Q E hr h => ?_)
 · obtain ⟨b, e, rfl, _⟩ := h; rfl
 ·
  obtain ⟨b, e, rfl, k⟩ := h
  refine ⟨_, (Ai (As (B5 Ts (pv 1) (pv 0) (Ar _)))), ?_⟩
  exact ⟨_, rfl, _, rfl, _, _, rfl, rfl, k⟩
theorem Tf : Ax ["value"] ["value"] (Ac Ds) := ⟨rfl, rfl, rfl, by decide +kernel, rfl, by decide +kernel, by decide +kernel⟩
theorem Ii (T : Txt K mg a) : FnOk P w K mg base CX0 true 1 a.Ha a.Gu ["value"] (Sa) := by
 refine T.Hc.ok Tf (λ vs H Q E h => ?_) (λ cdv A outer s H vs Q E hr h => ?_)
 · obtain ⟨v, w, rfl, _⟩ := h; rfl
 ·
  obtain ⟨v, w, rfl, hw, k⟩ := h
  refine ⟨_, (Ai (As (Ew (Aj (Bk (K := K) rfl) rfl T.A8 (by decide +kernel) (Aa (pv 0) (Aa (Cw (v := .ty "int") rfl T.Wr (by decide +kernel) rfl) Ad))) (El (Yq (Aj (Bk (K := K) rfl) rfl T.A8 (by decide +kernel) (Aa (pv 0) (Aa (Cw (v := .ty "bool") rfl T.Ol (by decide +kernel) rfl) Ad)))))))), ?_⟩
  cases w with
  | n => cases hw; exact ⟨_, rfl, _, _, _, _, rfl, Dm.non, rfl, _, rfl, Ff k⟩
  | b x => cases hw; exact ⟨_, rfl, _, _, _, _, rfl, Dm.bl _, rfl, _, rfl, Ij ⟨_, rfl, _, _, _, _, rfl, Dm.bl _, rfl, _, rfl, k⟩⟩
  | i z => cases hw; exact ⟨_, rfl, _, _, _, _, rfl, Dm.int _, rfl, _, rfl, Ij ⟨_, rfl, _, _, _, _, rfl, Dm.int _, rfl, _, rfl, k⟩⟩
  | s t => obtain ⟨rfl, ht⟩ := hw; exact ⟨_, rfl, _, _, _, _, rfl, Dm.str _, rfl, _, rfl, Ff k⟩
  | ts l => obtain ⟨r, rfl, hr0, hl0, hl1⟩ := hw; exact ⟨_, rfl, _, _, _, _, rfl, Dm.tup hr0, rfl, _, rfl, Ff k⟩
  | ti z => obtain ⟨r, rfl, hr0⟩ := hw; exact ⟨_, rfl, _, _, _, _, rfl, Dm.tup hr0, rfl, _, rfl, Ff k⟩
theorem Sw : Ax ["hands"] ["hands"] (Ac Cv) := ⟨rfl, rfl, rfl, by decide +kernel, rfl, by decide +kernel, by decide +kernel⟩
theorem R0 (T : Txt K mg a) : FnOk P w K mg base CX0 true 1 a.Gr a.Hk ["hands"] (Q2) := by
 refine T.Mo.ok Sw (λ vs H Q E h => ?_) (λ cdv A outer s H vs Q E hr h => ?_)
 · obtain ⟨r, l, rfl, _⟩ := h; rfl
 ·
  obtain ⟨r, l, rfl, hr0, hl, k⟩ := h
  refine ⟨_, (Ai (As (Aj (Ik (K := K) rfl rfl) rfl T.Pl (by decide +kernel) (Aa (B8 (N := ["place", "hands"]) (cap := [none, some 0]) (by show Ay (Ac Cv) _ ["hands"] _ _; exact ⟨rfl, by decide +kernel, by decide +kernel, by decide +kernel, by decide +kernel, rfl, by decide +kernel⟩) rfl (Xx rfl T.Hm (Aa Ab (Aa (Aj (Ao (K := K) rfl) rfl T.Di (by decide +kernel) (Aa (pv 0) Ad)) Ad))) (λ C s H fp => ⟨(Bh (i := 0) (by show (["place", "hands"] : List Str).Nodup; decide +kernel) rfl (Or.inl rfl) (.inr rfl)), F5, (B5 Xu (Ap (Ah (K := K) rfl) (pv 1) (Bf Om (pv 0) Ab) (λ _ _ => rfl)) (Ap (Ah (K := K) rfl) (pv 1) (pv 0) (λ _ _ => rfl)) (Ar _))⟩)) Ad)))), ?_⟩
  refine ⟨_, rfl, r, _, rfl, .inr (SqT.of hr0), _, _, rfl, ⟨by decide, by decide, by omega, by rw [List.length_map]; omega⟩, ?_⟩
  rw [List.length_map]
  have en : ((l.length : Int) - 1).toNat = l.length - 1 := by omega
  rw [en]
  refine Bl (Gh 1 (l.length - 1) H) (λ _ => true) (ltF l) ?_ (λ x _ H' _ R hR => hR H' (Same.refl _)) ?_ (λ D H1 s1 hD0 hD => ?_)
  ·
   rw [List.length_map, List.length_range]
   omega
  ·
   intro x hx _ H' sm R hR
   obtain ⟨j, hj, rfl⟩ := List.mem_map.mp hx
   have hj2 := List.mem_range.mp hj
   have A1 : atI (l.map V.str) (1 + (j : Int) - 1) = some (.str (l.getD ((1 + (j : Int)) - 1).toNat "")) := by rw [show ((1 + (j : Int)) - 1).toNat = j by omega, show (1 + (j : Int) - 1) = ((j : Nat) : Int) by omega]; exact getD_at (by omega)
   have A2 : atI (l.map V.str) (1 + (j : Int)) = some (.str (l.getD (1 + (j : Int)).toNat "")) := by rw [show (1 + (j : Int)).toNat = j + 1 by omega, show (1 + (j : Int)) = ((j + 1 : Nat) : Int) by omega]; exact getD_at (by omega)
   exact ⟨_, rfl, _, rfl, _, _, rfl, rfl, r, _, _, _, rfl, rfl, SqT.of (sm _ _ hr0), A1, _, rfl, _, rfl, r, _, _, _, rfl, rfl, SqT.of (sm _ _ hr0), A2, _, _, rfl, rfl, hR H' (Same.refl _)⟩
  rw [List.filter_eq_self.mpr (λ _ _ => rfl), gc] at hD
  refine ⟨D, _, rfl, SqL.of hD, ?_⟩
  rw [List.all_map]
  have ea := Vq l
  have eb : ((List.range (l.length - 1)).all (id ∘ λ j => decide ((l.getD j "").cps.toList < (l.getD (j + 1) "").cps.toList))) = F7 l := ea
  rw [eb]
  exact k H1 s1
theorem Pn : Ax ["letter"] ["letter"] (Ac C3) := ⟨rfl, rfl, rfl, by decide +kernel, rfl, by decide +kernel, by decide +kernel⟩
theorem Qm (T : Txt K mg a) : FnOk P w K mg base CX0 true 1 a.Fz a.Fl ["letter"] (Pd) := by
 refine T.Qu.ok Pn (λ vs H Q E h => ?_) (λ cdv A outer s H vs Q E hr h => ?_)
 · obtain ⟨p, l, rfl, _⟩ := h; rfl
 ·
  obtain ⟨p, l, rfl, ⟨ys, hp, hv⟩, k⟩ := h
  refine ⟨_, (Ai (As (Bp (Aa (Ap (Ah (K := K) rfl) (pv 0) Ab (λ _ _ => rfl)) (Aa (pv 0) Ad))))), ?_⟩
  obtain ⟨r, rfl⟩ := hv.four
  exact ⟨_, rfl, p, _, _, _, rfl, rfl, SqT.of hp, Zx, _, rfl, (by show 2 <= sizeLine; decide), λ q hq => k q hq⟩
theorem G3 : Ax ["letters", "turn", "last", "letter"] ["letters", "turn"] (Ac C1) := ⟨rfl, rfl, rfl, by decide +kernel, rfl, by decide +kernel, by decide +kernel⟩
theorem P0 (
      T : Txt K mg a) : FnOk P w K mg base CX0 true 1 a.Fo a.Ft ["letters", "turn"] (P5) := by
 refine T.Lj.ok G3 (λ vs H Q E h => ?_) (λ cdv A outer s H vs Q E hr h => ?_)
 · obtain ⟨L, ms, t, rfl, _⟩ := h; rfl
 ·
  obtain ⟨L, ms, t, rfl, hL, hG, k⟩ := h
  refine ⟨_, (Af (A9 (i := 2) G3.nd rfl (Or.inl rfl) Pg)
   (Af (Oy PassesOwn.never rfl (Bx (K := K) rfl (pv 0)) (Bh (i := 3) G3.nd rfl (Or.inl rfl)) (Ai (Bv (PW.pt (Il (Am (Jd (Fi hr)) (Ap (Ah (K := K) rfl) (pv 3) Ab (λ _ _ => rfl)) Bm (Ar _)) (Gv (Am Cg (Ap (Ah (K := K) rfl) (pv 3) Ab (λ _ _ => rfl)) (pv 1) (Ar _))))) (Ai (T4 (Fi hr) (pv 2) (Ap (Ah (K := K) rfl) (pv 3) Ab (λ _ _ => rfl)) (Aj (V4 rfl) rfl T.Tc (by decide +kernel) (Aa (Qp (Fi hr) (pv 2) (Ap (Ah (K := K) rfl) (pv 3) Ab (λ _ _ => rfl)) (Bp (Ig [.int (-1), .str ""] (by decide +kernel))) ⟨rfl, rfl, rfl, rfl⟩) (Aa (Bp (Aa (Ap (Ah (K := K) rfl) (pv 3) Ab (λ _ _ => rfl)) (Aa (Ap (Ah (K := K) rfl) (pv 3) Ab (λ _ _ => rfl)) Ad))) Ad))) rfl)) Aw)))
   (Ai (As (pv 2))))), ?_⟩
  refine λ D hD => ?_
  refine ⟨_, rfl, L, rfl, ⟨_, SqL.of ((Ag hD) _ _ hL.at_)⟩, ?_⟩
  refine Lf (Bz (K := K) (SqL.of Uh)) (λ i σ H' => Same H H' /\ ∃ (kvs : List (Key × V)) (y : Option V), H' D = some (.dK kvs) /\ AnsB H' (Si ms i) t kvs /\ kvs.length <= i /\ σ = [some (.ref L), some (.int t), some (.ref D), y]) ⟨Ag hD, [], _, Ae, (λ x => .inl ⟨rfl, λ _ _ _ _ z => nomatch z⟩), Nat.le_refl _, rfl⟩ (λ _ _ _ _ h => M6 (h.1 _ _ hL.at_)) ?_ ?_
  ·
   rintro i v σ H1 hv ⟨s1, kvs, y, h1, hA, hl, rfl⟩
   have hi : i < 1000 := by have h1 := (List.getElem?_eq_some_iff.mp hv).1; rw [List.length_map] at h1; have := hL.few; omega
   rw [List.getElem?_map] at hv
   obtain ⟨m, hmi, rfl⟩ := Option.map_eq_some_iff.mp hv
   have hm := List.mem_of_getElem? hmi
   obtain ⟨lt, p⟩ := m
   have hS := Tn hmi
   have nx : (∀ a n x g w, Lt.ans a n t x g w ≠ lt) -> Same H H1 /\ ∃ (kvs : List (Key × V)) (y' : Option V), H1 D = some (.dK kvs) /\ AnsB H1 (Si ms (i + 1)) t kvs /\ kvs.length <= i + 1 /\ ([some (V.ref L), some (V.int t), some (V.ref D), y].set 3 (some (V.ref p))) = [some (.ref L), some (.int t), some (.ref D), y'] := λ ne => ⟨s1, kvs, _, h1, hA.skip (λ a n x g w => by rw [hS]; exact ⟨λ z => z.elim id λ y => absurd y (ne a n x g w), .inl⟩), Nat.le_succ_of_le hl, rfl⟩
   obtain ⟨zs, hp, hv'⟩ := (hL.ok _ hm).up s1
   cases lt with
   | bid a0 n t0 b e hs => obtain ⟨q, rfl, _⟩ := hv'; exact ⟨_, rfl, p, _, _, _, rfl, rfl, SqT.of hp, Kq, _, rfl, .inl ⟨rfl, _, rfl, Bt (λ z => absurd z (by decide +kernel)) (λ _ => nx (λ _ _ _ _ _ z => nomatch z))⟩⟩
   | off a0 n t0 => cases hv'; exact ⟨_, rfl, p, _, _, _, rfl, rfl, SqT.of hp, Kq, _, rfl, .inl ⟨rfl, _, rfl, Bt (λ z => absurd z (by decide +kernel)) (λ _ => nx (λ _ _ _ _ _ z => nomatch z))⟩⟩
   | close a0 n t0 hs => obtain ⟨q, rfl, _⟩ := hv'; exact ⟨_, rfl, p, _, _, _, rfl, rfl, SqT.of hp, Kq, _, rfl, .inl ⟨rfl, _, rfl, Bt (λ z => absurd z (by decide +kernel)) (λ _ => nx (λ _ _ _ _ _ z => nomatch z))⟩⟩
   | ans a0 nn t0 h g w0 =>
   cases hv'
   have hg : 0 <= g := hG _ hm
   refine ⟨_, rfl, p, _, _, _, rfl, rfl, SqT.of hp, Kq, _, rfl, .inl ⟨rfl, _, rfl, Bt (λ _ => ?_) (λ z => absurd (by decide +kernel) z)⟩⟩
   refine ⟨_, rfl, p, _, _, _, rfl, rfl, SqT.of hp, Zx, _, rfl, rfl, _, rfl, Bt (λ zt => ?_) (λ z => nx (λ _ _ _ _ _ e => z (by injection e with _ _ e _ _ _; rw [e]; exact decide_eq_true rfl)))⟩
   obtain rfl : t0 = t := V.int.inj (of_decide_eq_true zt)
   clear zt nx
   refine ⟨_, rfl, D, rfl, .inl ⟨kvs, .inl h1⟩, _, rfl, p, _, _, _, rfl, rfl, SqT.of hp, Bb (j := 4) rfl, (by show 2 <= sizeLine; decide), λ q0 hq0 => ?_⟩
   have u0 := Ag (o := .tup [.int (-1), .str ""]) hq0
   have e0 : (upd H1 q0 (.tup [.int (-1), .str ""])) q0 = some (.tup [.int (-1), .str ""]) := Ae
   replace hp := u0 _ _ hp
   replace h1 := u0 _ _ h1
   replace hA := hA.up λ b xs e => u0 b _ e
   replace s1 := s1.trans u0
   clear hv
   generalize upd H1 q0 (.tup [.int (-1), .str ""]) = H2 at *
   refine ⟨_, DGet.k (k := .inr h) h1, _, rfl, p, _, _, _, rfl, rfl, SqT.of hp, Bb (j := 5) rfl, _, rfl, p, _, _, _, rfl, rfl, SqT.of hp, Bb (j := 6) rfl, (by show 2 <= sizeLine; decide), λ q1 hq1 => ?_⟩
   have u1 := Ag (o := .tup [.int g, .str w0]) hq1
   have e1 : (upd H2 q1 (.tup [.int g, .str w0])) q1 = some (.tup [.int g, .str w0]) := Ae
   replace hp := u1 _ _ hp
   replace h1 := u1 _ _ h1
   replace e0 := u1 _ _ e0
   replace hA := hA.up λ b xs e => u1 b _ e
   replace s1 := s1.trans u1
   generalize upd H2 q1 (.tup [.int g, .str w0]) = H3 at *
   have hS' : ∀ a n x g' w', Si ms (i + 1) (.ans a n t0 x g' w') ↔ Si ms i (.ans a n t0 x g' w') ∨ Lt.ans a n t0 x g' w' = .ans a0 nn t0 h g w0 := λ a n x g' w' => hS _
   have hold : ∃ (q2 : Addr) (g2 : Int) (w2 : Str), ((Eu kvs (.inr h)).getD (.ref q0)) = .ref q2 /\ H3 q2 = some (.tup [.int g2, .str w2]) /\ (∀ a n g' w', Si ms i (.ans a n t0 h g' w') -> ltP (g2, w2) (g', w') = false) /\ (ltP (g2, w2) (g, w0) = false -> Nc ltP (Si ms i) t0 h g2 w2) := by
    rcases hA h with ⟨e, no⟩ | ⟨q2, g2, w2, e, e2, best⟩
    · exact ⟨q0, -1, "", by rw [e]; rfl, e0, λ a n g' w' z => absurd z (no a n g' w'), λ z => by rw [jt (a := (-1, "")) (b := (g, w0)) (by show (-1 : Int) < g; omega)] at z; cases z⟩
    · exact ⟨q2, g2, w2, by rw [e]; rfl, e2, best.2, λ _ => best⟩
   obtain ⟨q2, g2, w2, eq2, hq2, low, keep⟩ := hold
   rw [eq2]
   let c : V -> List Key := λ z => if z = .ref q2 then [.inl g2, .inr w2] else [.inl g, .inr w0]
   have hc : ∀ z ∈ [V.ref q2, V.ref q1], ∀ H4, Same H3 H4 -> ∃ q, z = .ref q /\ H4 q = some (.tup ((c z).map kV)) /\ ∃ a b, c z = [.inl a, .inr b] := by
    intro z hz H4 s4
    by_cases ez : z = .ref q2
    · exact ⟨q2, ez, by show H4 q2 = some (.tup ((if z = .ref q2 then _ else _ : List Key).map kV)); rw [if_pos ez]; exact s4 _ _ hq2, g2, w2, if_pos ez⟩
    ·
     have e1' : z = .ref q1 := by
      rcases List.mem_cons.mp hz with h | h
      · exact absurd h ez
      · exact List.mem_singleton.mp h
     exact ⟨q1, e1', by show H4 q1 = some (.tup ((if z = .ref q2 then _ else _ : List Key).map kV)); rw [if_neg ez]; exact s4 _ _ e1, g, w0, if_neg ez⟩
   have c2 : c (.ref q2) = pk (g2, w2) := if_pos rfl
   have c1 : c (.ref q1) = pk (g, w0) := by
    by_cases ez : V.ref q1 = .ref q2
    ·
     have e3 := e1
     rw [V.ref.inj ez, hq2] at e3
     show (if V.ref q1 = .ref q2 then _ else _) = _
     rw [if_pos ez]
     injection e3 with e3
     injection e3 with e3
     injection e3 with e4 e5
     injection e5 with e5 _
     rw [V.int.inj e4, V.str.inj e5]
     rfl
    · exact if_neg ez
   refine ⟨.ref q2, .ref q1, λ z z' => DX.F4 ltK (c z') (c z), rfl, λ z hz z' hz' H4 s4 => ?_, λ H4 s4 => ?_⟩
   ·
    obtain ⟨qa, ea, ha, a1, b1, ca⟩ := hc z hz H4 s4
    obtain ⟨qb, eb, hb, a2, b2, cb⟩ := hc z' hz' H4 s4
    subst ea eb
    exact jg (hu2 hr) ha hb (by rw [ca, cb]; exact xu)
   ·
    have hD4 : ∀ xs, H4 D ≠ some (.tup xs) := λ xs z => by rw [s4 _ _ h1] at z; cases z
    have hz : kvs.length < sizeLine := by rw [PySem.sizeLine_eq]; omega
    refine ⟨_, rfl, _, rfl, p, _, _, _, rfl, rfl, SqT.of (s4 _ _ hp), Bb (j := 4) rfl, D, _, rfl, DPut.k (k := .inr h) (s4 _ _ h1) hz, λ b o e => ?_, _, _, Ae, ?_, Nat.le_trans (Dv _ _ _) (by omega), rfl⟩
    ·
     rw [Al (Aq e hD)]
     exact s4 _ _ (s1 _ _ e)
    ·
     have tp : ∀ b xs, H3 b = some (.tup xs) -> (upd H4 D (.dK (putK kvs (.inr h) (if DX.F4 ltK (c (.ref q2)) (c (.ref q1)) then .ref q1 else .ref q2)))) b = some (.tup xs) := λ b xs e => by
      rw [Al (λ z => hD4 xs (by rw [← z]; exact s4 _ _ e))]
      exact s4 _ _ e
     have eg : DX.F4 ltK (c (.ref q2)) (c (.ref q1)) = ltP (g2, w2) (g, w0) := by rw [c1, c2]; rfl
     show AnsB (upd H4 D (.dK (putK kvs (.inr h) (if DX.F4 ltK (c (.ref q2)) (c (.ref q1)) = true then .ref q1 else .ref q2)))) (Si ms (i + 1)) t0 (putK kvs (.inr h) (if DX.F4 ltK (c (.ref q2)) (c (.ref q1)) = true then .ref q1 else .ref q2))
     rw [eg] at tp ⊢
     cases hlt : ltP (g2, w2) (g, w0) with
     |
      true =>
      rw [hlt] at tp
      exact (hA.up tp).put hS' (tp _ _ e1) (cu hS' λ a n g' w' z => by
       cases hx : ltP (g, w0) (g', w') with
       | false => rfl
       | true => have := Uu.tr _ _ _ hlt hx; rw [low a n g' w' z] at this; cases this)
     |
      false =>
      rw [hlt] at tp
      exact (hA.up tp).put hS' (tp _ _ hq2) (bp hS' (keep hlt) hlt)
  rintro σ H1 ⟨s1, kvs, y, h1, hA, hl, rfl⟩
  rw [List.length_map, fh] at hA
  exact ⟨_, rfl, k D kvs H1 s1 h1 hA⟩
theorem Rq : Ax ["asked", "answers", "word"] ["asked", "answers", "word"] (Ac Cm) := ⟨rfl, rfl, rfl, by decide +kernel, rfl, by decide +kernel, by decide +kernel⟩
theorem Ic (T : Txt K mg a) : FnOk P w K mg base CX0 true 1 a.Gy a.G7 ["asked", "answers", "word"] (Sr) := by
 refine T.Hg.ok Rq (λ vs H Q E h => ?_) (λ cdv A outer s H vs Q E hr h => ?_)
 · obtain ⟨A0, D, l, kvs, o, wf, rfl, _⟩ := h; rfl
 ·
  obtain ⟨A0, D, l, kvs, o, wf, rfl, hA0, hl, hD, hW, k⟩ := h
  refine ⟨_, (Af (Bv (Am Rh (pv 2) Fx (Ar _)) (Ai (As (Df (Bu (K := K) rfl) rfl T.Co (by decide +kernel) (Aa (B8 (N := ["hand", "answers"]) (cap := [none, some 1]) (by show Ay (Ac Cm) _ ["asked", "answers", "word"] _ _; exact ⟨rfl, by decide +kernel, by decide +kernel, by decide +kernel, by decide +kernel, rfl, by decide +kernel⟩) rfl (Gq (K := K) rfl (pv 0)) (λ C s H fp => ⟨(Bh (i := 0) (by show (["hand", "answers"] : List Str).Nodup; decide +kernel) rfl (Or.inl rfl) (.inr rfl)), (Es (Za (Sv (Fi hr) (pv 0) (pv 1)) (by with_unfolding_all rfl))), (pv 0)⟩)) Ad)))) Aw)
   (Ai (As (Df (Bu (K := K) rfl) rfl T.Co (by decide +kernel) (Aa (B8 (N := ["hand", "answers", "word"]) (cap := [none, some 1, some 2]) (by show Ay (Ac Cm) _ ["asked", "answers", "word"] _ _; exact ⟨rfl, by decide +kernel, by decide +kernel, by decide +kernel, by decide +kernel, rfl, by decide +kernel⟩) rfl (Gq (K := K) rfl (pv 0)) (λ C s H fp => ⟨(Bh (i := 0) (by show (["hand", "answers", "word"] : List Str).Nodup; decide +kernel) rfl (Or.inl rfl) (.inr rfl)), (Es (PW.pt (Il (Za (nu (Fi hr) (pv 0) (pv 1)) (by with_unfolding_all rfl)) (Gv (Am Cg (Ap (Ah (K := K) rfl) (Us (Fi hr) (pv 1) (pv 0) (λ _ _ => rfl)) Ab (λ _ _ => rfl)) (pv 2) (Ar _)))))), (pv 0)⟩)) Ad))))), ?_⟩
  have fin : ∀ {σ : St} {cap : List (Option Nat)} {tt : TT}, (∀ t ∈ l, ∀ H', Same H H' -> ∀ R : Bool -> Hp -> Prop, (∀ H'', Same H' H'' -> R (decide (wf t = o)) H'') -> tt ((L1 cap σ).set 0 (some (V.str t))) H' R) ->
    (∀ t ∈ l, ((L1 cap σ).set 0 (some (V.str t)))[0]? = some (some (V.str t))) -> ∀ {Q' : VK}, (∀ (D2 : Addr) H', Same H H' -> H' D2 = some (.lst ((Ky wf o l).map V.str)) -> Q' (.ref D2) H') -> Kj (Itt K A0) H cap (Nt 0) tt (qp 0) σ Q' := by
   intro σ cap tt h1 h2 Q' h3
   refine Bl (Hr (SqT.of hA0)) (wP wf o) (λ v => v) (by rw [List.length_map]; omega) (λ x hx => ?_) (λ x hx _ H' sm R hR => ?_) (λ D2 H2 s2 hD20 hD2 => ?_)
   ·
    obtain ⟨t, ht, rfl⟩ := List.mem_map.mp hx
    exact h1 t ht
   ·
    obtain ⟨t, ht, rfl⟩ := List.mem_map.mp hx
    exact ⟨_, h2 t ht, hR H' (Same.refl _)⟩
   ·
    rw [Vt] at hD2
    exact h3 D2 H2 s2 hD2
  cases o with
  |
   none =>
   refine ⟨_, rfl, rfl, _, rfl, Bt (λ _ => ?_) (λ z => absurd rfl z)⟩
   refine ⟨_, rfl, A0, rfl, ⟨_, SqT.of hA0⟩, fin (λ t ht H' sm R hR => ?_) (λ _ _ => rfl) λ D2 H2 s2 hD2 => ⟨D2, _, rfl, .inl ⟨SqL.of hD2, λ r hr0 => k r _ (s2.trans (Ag hr0)) Ae⟩⟩⟩
   refine ⟨_, rfl, _, rfl, D, _, rfl, DGet.k (k := .inr t) (sm _ _ hD), _, rfl, ?_⟩
   have q := hR H' (Same.refl _)
   rcases hW t with ⟨e1, e2⟩ | ⟨q2, g2, w2, e1, e2, e3⟩
   ·
    rw [e2, decide_eq_true rfl] at q
    rw [e1]
    exact q
   ·
    rw [e3, decide_eq_false (λ z => nomatch z)] at q
    rw [e1]
    exact q
  |
   some t0 =>
   refine ⟨_, rfl, rfl, _, rfl, Bt (λ z => absurd z (by simp [oV])) (λ _ => ?_)⟩
   refine ⟨_, rfl, A0, rfl, ⟨_, SqT.of hA0⟩, fin (λ t ht H' sm R hR => ?_) (λ _ _ => rfl) λ D2 H2 s2 hD2 => ⟨D2, _, rfl, .inl ⟨SqL.of hD2, λ r hr0 => k r _ (s2.trans (Ag hr0)) Ae⟩⟩⟩
   refine ⟨_, rfl, _, rfl, D, _, rfl, DGet.k (k := .inr t) (sm _ _ hD), _, rfl, ?_⟩
   have q := hR H' (Same.refl _)
   rcases hW t with ⟨e1, e2⟩ | ⟨q2, g2, w2, e1, e2, e3⟩
   ·
    rw [e2, decide_eq_false (λ z => nomatch z)] at q
    rw [e1]
    exact Ff q
   ·
    rw [e3] at q
    rw [e1]
    refine Ij ⟨_, rfl, _, rfl, D, _, rfl, e1 ▸ DGet.k (k := .inr t) (sm _ _ hD), q2, _, _, _, rfl, rfl, SqT.of (sm _ _ e2), rfl, _, rfl, rfl, _, rfl, ?_⟩
    rw [show decide (V.str w2 = oV (some t0)) = decide (some w2 = some t0) from decide_eq_decide.mpr (by show V.str w2 = V.str t0 ↔ _; rw [V.str.injEq, Option.some.injEq])]
    exact q
theorem W2 : Ax ["told", "hand"] ["told", "hand"] (Ac Gi) := ⟨rfl, rfl, rfl, by decide +kernel, rfl, by decide +kernel, by decide +kernel⟩
theorem Wd (T : Txt K mg a) : FnOk P w K mg base CX0 true 1 a.Ko a.Kt ["told", "hand"] (Wv) := by
 refine T.Q7.ok W2 (λ vs H Q E h => ?_) (λ cdv A outer s H vs Q E hr h => ?_)
 · obtain ⟨p, d, h0, rfl, _⟩ := h; rfl
 ·
  obtain ⟨p, d, h0, rfl, hT, k⟩ := h
  refine ⟨_, (Af (Bv (Am Cg (Ap (Ah (K := K) rfl) (pv 0) Ab (λ _ _ => rfl)) Bm (Ar _)) (Ai (As Hw)) Aw)
   (Af (Bv (Am Cg (Ap (Ah (K := K) rfl) (pv 0) Ab (λ _ _ => rfl)) (pv 1) (Ar _)) (Ai (As Hw)) Aw)
   (Ai (As (Ew (B5 (E9 (K := K) rfl) (pv 1) (Ap (Ah (K := K) rfl) (pv 0) Ab (λ _ _ => rfl)) (by with_unfolding_all rfl)) (El (Ze (B5 Cg (Ap (Ah (K := K) rfl) (pv 0) Ab (λ _ _ => rfl)) Bm (Ar _)) (El (B5 (E9 (K := K) rfl) (pv 1) (Ap (Ah (K := K) rfl) (pv 0) Ab (λ _ _ => rfl)) (by with_unfolding_all rfl)))))))))), ?_⟩
  obtain ⟨q1, q2, q3, q4, q5, e0, e1, e2, e3, e4, e5⟩ := hT.at_
  have q := k H (Same.refl _)
  unfold Hx at q
  refine ⟨_, rfl, p, _, _, _, rfl, rfl, SqT.of e0, Zx, rfl, _, rfl, ?_⟩
  rw [Gx]
  refine Bt (λ z => ?_) (λ z => ?_)
  ·
   rw [z] at q
   exact q
  rw [Bool.eq_false_iff.mpr z, Bool.not_false, Bool.true_and] at q
  refine ⟨_, rfl, p, _, _, _, rfl, rfl, SqT.of e0, Kq, _, rfl, rfl, _, rfl, ?_⟩
  rw [Gx]
  refine Bt (λ z => ?_) (λ z => ?_)
  ·
   rw [z, Bool.true_or] at q
   exact q
  rw [Bool.eq_false_iff.mpr z, Bool.false_or] at q
  refine ⟨_, rfl, _, rfl, p, _, _, _, rfl, rfl, SqT.of e0, Bb (j := 6) rfl, q1, _, rfl, .inr (SqT.of e1), rfl, C7 d.yes, _, rfl, ?_⟩
  show (if inV (.str h0) (d.yes.map V.str) = true then _ else _)
  rw [Fm]
  refine Bt (λ z => ?_) (λ z => ?_)
  ·
   rw [z, Bool.true_and] at q
   refine ⟨_, rfl, p, _, _, _, rfl, rfl, SqT.of e0, Zx, rfl, _, rfl, ?_⟩
   rw [Gx]
   refine Bt (λ z => ?_) (λ z => ?_)
   ·
    rw [z, Bool.true_or] at q
    exact q
   rw [Bool.eq_false_iff.mpr z, Bool.false_or] at q
   refine ⟨_, rfl, _, rfl, p, _, _, _, rfl, rfl, SqT.of e0, Bb (j := 9) rfl, q4, _, rfl, .inr (SqT.of e4), rfl, C7 d.come, ?_⟩
   show Q (.bl (inV (.str h0) (d.come.map V.str))) H
   rw [Fm]
   exact q
  ·
   rw [Bool.eq_false_iff.mpr z, Bool.false_and] at q
   exact q
theorem Mn : Ax ["self"] ["self"] (Ac Cd) := ⟨rfl, rfl, rfl, by decide +kernel, rfl, by decide +kernel, by decide +kernel⟩
theorem Ml (T : Txt K mg a) : FnOk P w K mg base CX0 true 1 a.Ef a.Dz ["self"] (Pr P w a.An) := by
 refine T.N8.ok Mn (λ vs H Q E h => ?_) (λ cdv A outer s H vs Q E hr h => ?_)
 · obtain ⟨x, dx, rfl, _⟩ := h; rfl
 ·
  obtain ⟨x, dx, rfl, hx, kk⟩ := h
  refine ⟨_, (Af (P6 (K := K) rfl (pv 0) Pg)
   (Af (P6 (K := K) rfl (pv 0) Vc)
   (Ai (P6 (K := K) rfl (pv 0) Vc)))), ?_⟩
  refine λ k0 hk0 => ?_
  have nk : x ≠ k0 := Aq hx hk0
  refine ⟨_, rfl, x, _, dx, _, rfl, (by rw [Al nk]; exact hx), T.Cf, T.Iq, by decide, λ m0 hm0 => ?_⟩
  have a1 : ∀ {b : Addr} {o : HO}, H b = some o -> b ≠ x -> (upd (upd H k0 (.dK [])) x (.ins a.An dx (La "kept" (.ref k0) []))) b = some o := λ {b o} e nb => by rw [Al nb, Al (Aq e hk0)]; exact e
  have x1 : (upd (upd H k0 (.dK [])) x (.ins a.An dx (La "kept" (.ref k0) []))) x = some (.ins a.An dx [("kept", .ref k0)]) := Ae
  have k1 : (upd (upd H k0 (.dK [])) x (.ins a.An dx (La "kept" (.ref k0) []))) k0 = some (.dK []) := by rw [Al nk.symm]; exact Ae
  generalize upd (upd H k0 (.dK [])) x (.ins a.An dx (La "kept" (.ref k0) [])) = H1 at *
  have nm : x ≠ m0 := Aq x1 hm0
  have hm : H m0 = none := by
   cases e : H m0 with
   | none => rfl
   | some o => have := a1 e nm.symm; rw [hm0] at this; cases this
  refine ⟨_, rfl, x, _, dx, _, rfl, (by rw [Al nm]; exact x1), T.Cf, T.Dl, (by show 1 < 1000; decide), λ t0 ht0 => ?_⟩
  have a2 : ∀ {b : Addr} {o : HO}, H1 b = some o -> b ≠ x -> (upd (upd H1 m0 (.dT [])) x (.ins a.An dx (La "by_meeting" (.ref m0) [("kept", .ref k0)]))) b = some o := λ {b o} e nb => by rw [Al nb, Al (Aq e hm0)]; exact e
  have x2 : (upd (upd H1 m0 (.dT [])) x (.ins a.An dx (La "by_meeting" (.ref m0) [("kept", .ref k0)]))) x = some (.ins a.An dx [("kept", .ref k0), ("by_meeting", .ref m0)]) := Ae
  have m2 : (upd (upd H1 m0 (.dT [])) x (.ins a.An dx (La "by_meeting" (.ref m0) [("kept", .ref k0)]))) m0 = some (.dT []) := by rw [Al nm.symm]; exact Ae
  generalize upd (upd H1 m0 (.dT [])) x (.ins a.An dx (La "by_meeting" (.ref m0) [("kept", .ref k0)])) = H2 at *
  have nt : x ≠ t0 := Aq x2 ht0
  have ht : H t0 = none := by
   cases e : H t0 with
   | none => rfl
   | some o => have := a2 (a1 e nt.symm) nt.symm; rw [ht0] at this; cases this
  refine ⟨_, rfl, x, _, dx, _, rfl, (by rw [Al nt]; exact x2), T.Cf, T.Cs, (by show 2 < 1000; decide), ?_⟩
  have a3 : ∀ {b : Addr} {o : HO}, H2 b = some o -> b ≠ x -> (upd (upd H2 t0 (.dT [])) x (.ins a.An dx (La "tellings" (.ref t0) [("kept", .ref k0), ("by_meeting", .ref m0)]))) b = some o := λ {b o} e nb => by rw [Al nb, Al (Aq e ht0)]; exact e
  refine kk k0 m0 t0 _ (λ b o e nb => a3 (a2 (a1 e nb) nb) nb) hk0 hm ht ⟨⟨dx, Ae⟩, ⟨.inr ⟨rfl, a3 (a2 k1 nk.symm) nk.symm⟩, (λ _ z => nomatch z), Nat.zero_le _⟩, (λ _ z => nomatch z), (λ _ z => nomatch z), a3 m2 nm.symm, (by rw [Al nt.symm]; exact Ae), Aq m2 ht0, ⟨(λ _ z => nomatch z), (λ _ z => nomatch z), List.nodup_nil, List.nodup_nil, (λ _ z => nomatch z)⟩, Nat.zero_le _, Nat.le_refl _, Nat.le_refl _⟩
theorem Po : Ax ["self"] ["self"] (Ac Ck) := ⟨rfl, rfl, rfl, by decide +kernel, rfl, by decide +kernel, by decide +kernel⟩
theorem Pb (T : Txt K mg a) : FnOk P w K mg base CX0 true 1 a.Fw a.Fu ["self"] (Ka P w a.An) := by
 refine T.Sd.ok Po (λ vs H Q E h => ?_) (λ cdv A outer s H vs Q E hr h => ?_)
 · obtain ⟨x, k0, m0, t0, ms, bs, ts, rfl, _⟩ := h; rfl
 ·
  obtain ⟨x, k0, m0, t0, ms, bs, ts, rfl, hT, tl, h64, k⟩ := h
  refine ⟨_, (Ai (As (B8 (N := ["meeting", "self"]) (cap := [none, some 0]) (by show Ay (Ac Ck) _ ["self"] _ _; exact ⟨rfl, by decide +kernel, by decide +kernel, by decide +kernel, by decide +kernel, rfl, by decide +kernel⟩) rfl (Bx (K := K) rfl (Aj (Qn rfl (hu2 hr)) rfl T.Ea (by decide +kernel) (Aa (Ie (K := K) rfl (pv 0)) Ad))) (λ C s H fp => ⟨(Bh (i := 0) (by show (["meeting", "self"] : List Str).Nodup; decide +kernel) rfl (Or.inl rfl) (.inr rfl)), F5, (Us (Fi hr) (Ie (K := K) rfl (pv 1)) (pv 0) (λ _ _ => rfl))⟩)))), ?_⟩
  obtain ⟨dx, hx⟩ := hT.ins
  have hkey : ∀ q ∈ ts.map (·.1), ∃ k : Str × Int, q = mkK k := λ q hq => by
   obtain ⟨kv, hkv, rfl⟩ := List.mem_map.mp hq
   exact tl.keys kv hkv
  have hfew := hT.few
  refine ⟨_, rfl, x, _, dx, _, _, rfl, hx, T.Cf, T.Cs, rfl, t0, ts, rfl, hT.told, by omega, λ q hq => ?_, λ q hq q' hq' => ?_, λ D0 qs hD0 hpm htu hso => ⟨D0, rfl, ⟨_, SqL.of Ae⟩, ?_⟩⟩
  ·
   obtain ⟨k, rfl⟩ := hkey q hq
   exact ⟨_, _, rfl⟩
  ·
   obtain ⟨k, rfl⟩ := hkey q hq
   obtain ⟨k', rfl⟩ := hkey q' hq'
   exact Ba rfl (Ba rfl rfl)
  have u0 := Ag (o := .lst (qs.map λ x => V.ref x.2)) hD0
  have hql : qs.length = ts.length := by have := hpm.length_eq; rw [List.length_map, List.length_map] at this; exact this
  refine Kx (Bz (K := K) (SqL.of Ae)) (λ _ => true) (RlT ms) (λ _ _ _ _ tp ⟨q, k, r, d, e1, e2, e3, e4, e5⟩ => ⟨q, k, r, d, e1, tp _ _ e2, e3, e4.upT tp, e5⟩) (by rw [List.length_map]; omega) (λ x _ H' _ R hR => hR H' (Same.refl _)) ?_ (λ D H2 ys s2 hD1 hD hP => ?_)
  ·
   intro v hv _ H' sm R hR
   obtain ⟨q, hq, rfl⟩ := List.mem_map.mp hv
   have hin : q.1 ∈ ts.map (·.1) := hpm.mem_iff.mp (List.mem_map_of_mem hq)
   obtain ⟨k, ek⟩ := hkey q.1 hin
   have ht := htu q hq
   rw [ek] at ht
   have S := u0.trans sm
   rcases tl.val k with ⟨e, _⟩ | ⟨r, d, e1, e2, e3⟩
   · exact absurd (by rw [← ek]; exact hin) (aw e)
   · exact ⟨_, rfl, x, _, dx, _, _, rfl, S _ _ hx, T.Cf, T.Cs, rfl, _, rfl, t0, _, rfl, e1 ▸ DGet.t (k := mkK k) (S _ _ hT.told) (S _ _ ht), hR _ H' (Same.refl _) ⟨q.2, k, r, d, rfl, S _ _ ht, rfl, e2.up S, e3⟩⟩
  rw [List.filter_eq_self.mpr (λ _ _ => rfl)] at hP
  have S2 := u0.trans s2
  obtain ⟨rs, rfl, h1, h2⟩ := Y9 (λ q hq => S2 _ _ (htu q hq)) hP
  have hrl : rs.length = qs.length := by have := congrArg List.length h2; rw [List.length_map, List.length_map] at this; exact this
  exact k D rs H2 S2 (P1 u0 hD1) hD (λ r hr => (h1 r hr).1) (kg tl hpm hso (λ r hr => (h1 r hr).2) h2) (by omega)
theorem N5 : Ax ["_law_script", "_law_k"] ["_law_script", "_law_k"] (Ac Cq) := ⟨rfl, rfl, rfl, by decide +kernel, rfl, by decide +kernel, by decide +kernel⟩
theorem Jf (T : Txt K mg a) : FnOk P w K mg base CX0 true 1 a.E5 a.E7 ["_law_script", "_law_k"] (N4 K) := by
 refine T.G5.ok N5 (λ vs H Q E h => ?_) (λ cdv A outer s H vs Q E hr h => ?_)
 · obtain ⟨p, ns, i, rfl, _⟩ := h; rfl
 ·
  obtain ⟨p, ns, i, rfl, hS, h0, k⟩ := h
  refine ⟨_, (Af (Bv (Am Tq (pv 1) (Aj (Ao (K := K) rfl) rfl T.Di (by decide +kernel) (Aa (pv 0) Ad)) (Ar _)) (Ai (As (Ap (By (K := K) rfl) (pv 0) (pv 1) (λ _ _ => rfl)))) Aw)
   (Ai (As Ab))), ?_⟩
  refine ⟨_, rfl, _, rfl, p, _, rfl, .inl hS, _, _, rfl, rfl, _, rfl, ?_⟩
  rw [List.length_map]
  refine Bt (λ e1 => ?_) (λ e1 => ?_)
  · exact ⟨_, rfl, _, rfl, p, _, _, _, rfl, rfl, hS, cell_in h0 (of_decide_eq_true e1), k⟩
  ·
   rw [cell_out (λ z => e1 (decide_eq_true z))] at k
   exact k
theorem Lm : Ax ["_law_cell", "_law_k", "_law_many", "_law_made"] ["_law_cell", "_law_k", "_law_many"] (Ac Dp) := ⟨rfl, rfl, rfl, by decide +kernel, rfl, by decide +kernel, by decide +kernel⟩
theorem Bc (T : Txt K mg a) : FnOk P w K mg base CX0 true 1 a.He a.Hf ["_law_cell", "_law_k", "_law_many"] (Qx) := by
 refine T.Be.ok Lm (λ vs H Q E h => ?_) (λ cdv A outer s H vs Q E hr h => ?_)
 · obtain ⟨c, k, m, rfl, _⟩ := h; rfl
 ·
  obtain ⟨c, q, m, rfl, q0, q1, hm, k⟩ := h
  refine ⟨_, (Af (A9 (i := 3) Lm.nd rfl (Or.inl rfl) (Bf En (Bf Cr (Bf Cr (Bf Cr (Bf Gj (pv 0) Ab) (Bf Gj (Bf Gj Ab (pv 1)) (pv 1))) (Bf Gj Ab (pv 1))) Ab) Ab))
   (Ai (As (Bf En (Bf En (Bf Gj (pv 3) (Bf Cr (Bf Cr (pv 3) (Bf Gj Ab (pv 1))) Ab)) Ab) (pv 2))))), ?_⟩
  refine ⟨_, rfl, _, _, rfl, rfl, .inr ⟨by decide, by decide⟩, _, rfl, _, _, rfl, rfl, .inl ⟨by decide, by decide⟩, _, rfl, _, _, rfl, rfl, .inr ⟨by omega, by omega⟩, _, _, rfl, rfl, _, rfl, _, _, rfl, rfl, .inl ⟨by decide, by decide⟩, _, _, rfl, rfl, _, _, rfl, rfl, _, _, rfl, rfl, (by show (0 : Int) < 2147483647; decide), ?_⟩
  generalize hbig : (c * 48271 + 7919 * q * q + 31 * q + 5) = big
  have b0 : 0 <= big % 2147483647 := Int.emod_nonneg _ (by decide)
  have b1 : big % 2147483647 < 2147483647 := Int.emod_lt_of_pos _ (by decide)
  refine ⟨_, rfl, _, rfl, _, rfl, _, _, rfl, rfl, .inl ⟨by decide, by decide⟩, _, _, rfl, rfl, _, _, rfl, rfl, _, _, rfl, rfl, .inl ⟨by omega, by omega⟩, _, _, rfl, rfl, (by show (0 : Int) < 1000000007; decide), _, rfl, _, _, rfl, rfl, hm, ?_⟩
  exact k _ (Int.emod_nonneg _ (by omega)) (Int.emod_lt_of_pos _ hm) (by subst hbig; rfl)
theorem Ei : Ax ["_law_k", "_law_cell", "_law_one", "_law_other", "_law_place"] ["_law_k", "_law_cell"] (Ac Cp) := ⟨rfl, rfl, rfl, by decide +kernel, rfl, by decide +kernel, by decide +kernel⟩
theorem N9 (T : Txt K mg a) : FnOk P w K mg base CX0 true 1 a.E1 a.E2 ["_law_k", "_law_cell"] (Nv) := by
 refine T.J1.ok Ei (λ vs H Q E h => ?_) (λ cdv A outer s H vs Q E hr h => ?_)
 · obtain ⟨n, c, rfl, _⟩ := h; rfl
 ·
  obtain ⟨n, c, rfl, hn, k⟩ := h
  refine ⟨_, (Af (A9 (i := 2) Ei.nd rfl (Or.inl rfl) (Ap Vx Bm (Bf En (pv 0) Ab) (λ _ _ => rfl)))
   (Af (A9 (i := 3) Ei.nd rfl (Or.inl rfl) (Ap Vx Bm (Bf En (Bf Hz (pv 0) Ab) Ab) (λ _ _ => rfl)))
   (Af (Bv (Am Cg (Bf En (pv 1) Ab) Ab (Ar _)) (Ai (As (Bf Fd (Bf Fd (Ap (By (K := K) rfl) (F1 (Ig [.str "t", .str "ab", .str "x9a"] (by decide +kernel))) (Bf En (Bf Hz (pv 1) Ab) Ab) (λ _ _ => rfl)) (pv 2)) (pv 3)))) Aw)
   (Af (A9 (i := 4) Ei.nd rfl (Or.inl rfl) (Bf En (Bf Hz (pv 1) Ab) Ab))
   (Ai (As (Bf Fd (Bf Fd (Bf Fd (Bf Oi Bm (pv 4)) (pv 2)) (pv 3)) (Bf Oi Bm (Bf Om Ab (pv 4)))))))))), ?_⟩
  have e0 : atI (Str.ofString "bcdefghijklmnopqrstuvwxy").cps.toList ((n : Int) % 24) = some (98 + n) := by
   rw [show ((n : Int) % 24) = ((n : Nat) : Int) by omega]
   exact Bb (s24 ⟨n, hn⟩)
  refine ⟨_, rfl, _, _, rfl, rfl, (by show (0 : Int) < 24; decide), _, _, _, rfl, rfl, by decide +kernel, e0, ?_⟩
  have e1 : atI (Str.ofString "a0z").cps.toList ((n : Int) / 24 % 3) = some 97 := by
   rw [show ((n : Int) / 24 % 3) = 0 by omega]
   decide +kernel
  refine ⟨_, rfl, _, _, rfl, rfl, ⟨by decide, by decide⟩, _, _, rfl, rfl, (by show (0 : Int) < 3; decide), _, _, _, rfl, rfl, by decide +kernel, e1, ?_⟩
  refine ⟨_, rfl, _, _, rfl, rfl, (by show (0 : Int) < 2; decide), rfl, _, rfl, ?_⟩
  rw [Z2]
  by_cases hc : c % 2 = 1
  ·
   rw [decide_eq_true hc]
   refine Ij ?_
   have a0 : 0 <= c / 2 % 3 := Int.emod_nonneg _ (by decide)
   have a1 : c / 2 % 3 < 3 := Int.emod_lt_of_pos _ (by decide)
   refine ⟨(by show 3 <= sizeLine; decide), λ l hl => ⟨_, rfl, _, _, rfl, rfl, ⟨by decide, by decide⟩, _, _, rfl, rfl, (by show (0 : Int) < 3; decide), l, _, _, _, rfl, rfl, SqL.of Ae, rp a0 a1, _, rfl, _, _, rfl, rfl, sz2 3 1 (eo _) (ed _), _, rfl, _, _, rfl, rfl, sz2 4 1 (ap2 3 1 (eo _) (ed _)) (ed _), ?_⟩⟩
   have q := k _ (Ag (o := .lst [.str "t", .str "ab", .str "x9a"]) hl)
   unfold nmT at q
   rw [if_pos hc] at q
   exact q
  ·
   rw [decide_eq_false hc]
   refine Ff ?_
   have a0 : 0 <= c / 2 % 7 := Int.emod_nonneg _ (by decide)
   have a1 : c / 2 % 7 < 7 := Int.emod_lt_of_pos _ (by decide)
   have m1 := ui (i := c / 2 % 7) a0 (by omega)
   have m2 := ui (i := 6 - c / 2 % 7) (by omega) (by omega)
   refine ⟨_, rfl, _, _, rfl, rfl, ⟨by decide, by decide⟩, _, _, rfl, rfl, (by show (0 : Int) < 7; decide), ?_⟩
   refine ⟨_, rfl, _, _, rfl, rfl, m1.1, _, rfl, _, _, rfl, rfl, sz2 6 1 m1.2 (ed _), _, rfl, _, _, rfl, rfl, sz2 7 1 (ap2 6 1 m1.2 (ed _)) (ed _), _, rfl, _, _, rfl, rfl, _, _, rfl, rfl, m2.1, _, _, rfl, rfl, sz2 8 6 (ap2 7 1 (ap2 6 1 m1.2 (ed _)) (ed _)) m2.2, ?_⟩
   have q := k H (Same.refl _)
   unfold nmT at q
   rw [if_neg hc] at q
   exact q
theorem Oh : Ax ["_law_seed", "_law_names", "_law_asker", "_law_number", "_law_turn", "_law_key_here"] ["_law_seed", "_law_names", "_law_asker", "_law_number", "_law_turn"] (Ac Gm) := ⟨rfl, rfl, rfl, by decide +kernel, rfl, by decide +kernel, by decide +kernel⟩
theorem Ld (T : Txt K mg a) : FnOk P w K mg base CX0 true 1 a.Ke a.Ku ["_law_seed", "_law_names", "_law_asker", "_law_number", "_law_turn"] (Wb) := by
 refine T.Kb.ok Oh (λ vs H Q E h => ?_) (λ cdv A outer s H vs Q E hr h => ?_)
 · obtain ⟨L, ns, a, s, n, t, rfl, _⟩ := h; rfl
 ·
  obtain ⟨L, ns, a0, sd, n, t, rfl, hL, hN, ha, k⟩ := h
  refine ⟨_, (Af (A9 (i := 5) Oh.nd rfl (Or.inl rfl) (Bf Cr (pv 0) (Bf Gj Ab (O8 PySem.F.plainAttrs_list PySem.F.slot_list_index PySem.F.type_list_index Tg (pv 1) (Aa (pv 2) Ad)))))
   (Ai (As (Bf Cr (Bf Cr (pv 5) (Bf Gj Ab (Bf En (pv 3) Ab))) (Bf Gj Ab (Bf En (pv 4) Ab)))))), ?_⟩
  refine ⟨_, rfl, _, rfl, .inl ⟨rfl, _, SqL.of hL⟩, _, rfl, L, ns, a0, rfl, rfl, SqL.of hL, ha, ⟨_, _, rfl, rfl, .inl ⟨by decide, by decide⟩, _, _, rfl, rfl, ?_⟩⟩
  exact ⟨_, rfl, _, rfl, _, _, rfl, rfl, (by show (0 : Int) < 100003; decide), _, _, rfl, rfl, .inl ⟨by decide, by decide⟩, _, _, rfl, rfl, _, rfl, _, _, rfl, rfl, (by show (0 : Int) < 100019; decide), _, _, rfl, rfl, .inl ⟨by decide, by decide⟩, _, _, rfl, rfl, k _ rfl⟩
theorem Az : Ax ["_law_letters", "_law_asker", "_law_number", "_law_bids", "_law_turn", "_law_latest", "_law_words", "_law_hand", "_law_said", "_law_yes", "_law_no", "_law_silent", "_law_closes", "_law_late"] ["_law_letters", "_law_asker", "_law_number"] (Ac Au) := ⟨rfl, rfl, rfl, by decide +kernel, rfl, by decide +kernel, by decide +kernel⟩
theorem K9 (T : Txt K mg a) : FnOk P w K mg base CX0 true 1 a.Cu a.Ct ["_law_letters", "_law_asker", "_law_number"] (K4) := by
 refine T.Ht.ok Az (λ vs H Q E h => ?_) (λ cdv A outer s H vs Q E hr h => ?_)
 · obtain ⟨L, ms, a0, n, rfl, _⟩ := h; rfl
 ·
  obtain ⟨L, ms, a0, n, rfl, hL, hz, h64, k⟩ := h
  refine ⟨_, (Af (Dy (i0 := 3) Az.nd rfl rfl (N := ["_law_one", "_law_asker", "_law_number"]) (cap := [none, some 1, some 2]) (by show Ay (Ac Au) _ ["_law_letters", "_law_asker", "_law_number", "_law_bids", "_law_turn", "_law_latest", "_law_words", "_law_hand", "_law_said", "_law_yes", "_law_no", "_law_silent", "_law_closes", "_law_late"] _ _; exact ⟨rfl, by decide +kernel, by decide +kernel, by decide +kernel, by decide +kernel, rfl, by decide +kernel⟩) rfl (Bx (K := K) rfl (pv 0)) (λ C s H fp => ⟨(Bh (i := 0) (by show (["_law_one", "_law_asker", "_law_number"] : List Str).Nodup; decide +kernel) rfl (Or.inl rfl) (.inr rfl)), (Es (PW.pt (Il (Am (E9 (K := K) rfl) (Ap (Ah (K := K) rfl) (pv 0) Ab (λ _ _ => rfl)) (F1 (Ig [.str "bid", .str "off"] (by decide +kernel))) (by with_unfolding_all rfl)) (Il (Am Cg (Ap (Ah (K := K) rfl) (pv 0) Ab (λ _ _ => rfl)) (pv 1) (Ar _)) (Gv (Am Cg (Ap (Ah (K := K) rfl) (pv 0) Ab (λ _ _ => rfl)) (pv 2) (Ar _))))))), (pv 0)⟩))
   (Af (Bv (Am Cg (Aj (Ao (K := K) rfl) rfl T.Di (by decide +kernel) (Aa (pv 3) Ad)) Ab (Ar _)) (Ai (As Fx)) Aw)
   (Af (A9 (i := 4) Az.nd rfl (Or.inr rfl) (Aj (Zh rfl) rfl T.Tc (by decide +kernel) (Aa (B8 (N := ["_law_one"]) (cap := [none]) (by show Ay (Ac Au) _ ["_law_letters", "_law_asker", "_law_number", "_law_bids", "_law_turn", "_law_latest", "_law_words", "_law_hand", "_law_said", "_law_yes", "_law_no", "_law_silent", "_law_closes", "_law_late"] _ _; exact ⟨rfl, by decide +kernel, by decide +kernel, by decide +kernel, by decide +kernel, rfl, by decide +kernel⟩) rfl (Bx (K := K) rfl (pv 3)) (λ C s H fp => ⟨(Bh (i := 0) (by show (["_law_one"] : List Str).Nodup; decide +kernel) rfl (Or.inl rfl) (.inr rfl)), F5, (Ap (Ah (K := K) rfl) (pv 0) Ab (λ _ _ => rfl))⟩)) Ad)))
   (Af (A9 (i := 5) Az.nd rfl (Or.inl rfl) (Ap (By (K := K) rfl) (B8 (N := ["_law_one", "_law_turn"]) (cap := [none, some 4]) (by show Ay (Ac Au) _ ["_law_letters", "_law_asker", "_law_number", "_law_bids", "_law_turn", "_law_latest", "_law_words", "_law_hand", "_law_said", "_law_yes", "_law_no", "_law_silent", "_law_closes", "_law_late"] _ _; exact ⟨rfl, by decide +kernel, by decide +kernel, by decide +kernel, by decide +kernel, rfl, by decide +kernel⟩) rfl (Bx (K := K) rfl (pv 3)) (λ C s H fp => ⟨(Bh (i := 0) (by show (["_law_one", "_law_turn"] : List Str).Nodup; decide +kernel) rfl (Or.inl rfl) (.inr rfl)), (Es (Am Cg (Ap (Ah (K := K) rfl) (pv 0) Ab (λ _ _ => rfl)) (pv 1) (Ar _))), (pv 0)⟩)) Ab (λ _ _ => rfl)))
   (Af (Bv (Am Cg (Ap (Ah (K := K) rfl) (pv 5) Ab (λ _ _ => rfl)) Bm (Ar _)) (Ai (As (Bp (Aa (pv 1) (Aa (pv 2) (Aa (pv 4) (Aa Bm (Aa Fx (Aa Fx (Aa (Bp Ad) (Aa (Bp Ad) (Aa (Bp Ad) (Aa (Bp Ad) (Aa (Bp Ad) Ad)))))))))))))) Aw)
   (Af (A9 (i := 6) Az.nd rfl (Or.inr rfl) Pg)
   (Af (Oy PassesOwn.never rfl (Gq (K := K) rfl (Ap (Ah (K := K) rfl) (pv 5) Ab (λ _ _ => rfl))) (Bh (i := 7) Az.nd rfl (Or.inr rfl)) (Af (Dy (i0 := 8) Az.nd rfl rfl (N := ["_law_one", "_law_asker", "_law_number", "_law_turn", "_law_hand"]) (cap := [none, some 1, some 2, some 4, some 7]) (by show Ay (Ac Au) _ ["_law_letters", "_law_asker", "_law_number", "_law_bids", "_law_turn", "_law_latest", "_law_words", "_law_hand", "_law_said", "_law_yes", "_law_no", "_law_silent", "_law_closes", "_law_late"] _ _; exact ⟨rfl, by decide +kernel, by decide +kernel, by decide +kernel, by decide +kernel, rfl, by decide +kernel⟩) rfl (Bx (K := K) rfl (pv 0)) (λ C s H fp => ⟨(Bh (i := 0) (by show (["_law_one", "_law_asker", "_law_number", "_law_turn", "_law_hand"] : List Str).Nodup; decide +kernel) rfl (Or.inl rfl) (.inr rfl)), (Es (PW.pt (Il (Am Cg (Ap (Ah (K := K) rfl) (pv 0) Ab (λ _ _ => rfl)) Bm (Ar _)) (Gv (Am (e8 (hu2 hr)) (Iy M0 (pv 0) (F3 Ab) (F3 Ab)) (Bp (Aa (pv 1) (Aa (pv 2) (Aa (pv 3) (Aa (pv 4) Ad))))) (Ar _)))))), (Iy M0 (pv 0) (F3 Ab) X1)⟩))
   (Ai (Bv (Am Ts (Aj (Ao (K := K) rfl) rfl T.Di (by decide +kernel) (Aa (pv 8) Ad)) Ab (Ar _)) (Ai (T4 (Fi hr) (pv 6) (pv 7) (Ap (Ah (K := K) rfl) (Ap (By (K := K) rfl) (Aj (Fv (hu2 hr)) rfl T.Ea (by decide +kernel) (Aa (pv 8) Ad)) (mq Yc Ab) (λ _ _ => rfl)) Ab (λ _ _ => rfl)) rfl)) Aw))))
   (Af (A9 (i := 9) Az.nd rfl (Or.inl rfl) (Df (Bu (K := K) rfl) rfl T.Co (by decide +kernel) (Aa (B8 (N := ["_law_hand", "_law_words"]) (cap := [none, some 6]) (by show Ay (Ac Au) _ ["_law_letters", "_law_asker", "_law_number", "_law_bids", "_law_turn", "_law_latest", "_law_words", "_law_hand", "_law_said", "_law_yes", "_law_no", "_law_silent", "_law_closes", "_law_late"] _ _; exact ⟨rfl, by decide +kernel, by decide +kernel, by decide +kernel, by decide +kernel, rfl, by decide +kernel⟩) rfl (Gq (K := K) rfl (Ap (Ah (K := K) rfl) (pv 5) Ab (λ _ _ => rfl))) (λ C s H fp => ⟨(Bh (i := 0) (by show (["_law_hand", "_law_words"] : List Str).Nodup; decide +kernel) rfl (Or.inl rfl) (.inr rfl)), (Es (Am Cg (Qp (Fi hr) (pv 1) (pv 0) Bm ⟨rfl, rfl, rfl, rfl⟩) Bm (Ar _))), (pv 0)⟩)) Ad)))
   (Af (A9 (i := 10) Az.nd rfl (Or.inl rfl) (Df (Bu (K := K) rfl) rfl T.Co (by decide +kernel) (Aa (B8 (N := ["_law_hand", "_law_words"]) (cap := [none, some 6]) (by show Ay (Ac Au) _ ["_law_letters", "_law_asker", "_law_number", "_law_bids", "_law_turn", "_law_latest", "_law_words", "_law_hand", "_law_said", "_law_yes", "_law_no", "_law_silent", "_law_closes", "_law_late"] _ _; exact ⟨rfl, by decide +kernel, by decide +kernel, by decide +kernel, by decide +kernel, rfl, by decide +kernel⟩) rfl (Gq (K := K) rfl (Ap (Ah (K := K) rfl) (pv 5) Ab (λ _ _ => rfl))) (λ C s H fp => ⟨(Bh (i := 0) (by show (["_law_hand", "_law_words"] : List Str).Nodup; decide +kernel) rfl (Or.inl rfl) (.inr rfl)), (Es (Am Cg (Qp (Fi hr) (pv 1) (pv 0) Bm ⟨rfl, rfl, rfl, rfl⟩) Bm (Ar _))), (pv 0)⟩)) Ad)))
   (Af (A9 (i := 11) Az.nd rfl (Or.inl rfl) (Df (Bu (K := K) rfl) rfl T.Co (by decide +kernel) (Aa (B8 (N := ["_law_hand", "_law_words"]) (cap := [none, some 6]) (by show Ay (Ac Au) _ ["_law_letters", "_law_asker", "_law_number", "_law_bids", "_law_turn", "_law_latest", "_law_words", "_law_hand", "_law_said", "_law_yes", "_law_no", "_law_silent", "_law_closes", "_law_late"] _ _; exact ⟨rfl, by decide +kernel, by decide +kernel, by decide +kernel, by decide +kernel, rfl, by decide +kernel⟩) rfl (Gq (K := K) rfl (Ap (Ah (K := K) rfl) (pv 5) Ab (λ _ _ => rfl))) (λ C s H fp => ⟨(Bh (i := 0) (by show (["_law_hand", "_law_words"] : List Str).Nodup; decide +kernel) rfl (Or.inl rfl) (.inr rfl)), (Es (Za (Sv (Fi hr) (pv 0) (pv 1)) (by with_unfolding_all rfl))), (pv 0)⟩)) Ad)))
   (Af (A9 (i := 12) Az.nd rfl (Or.inr rfl) (B8 (N := ["_law_one", "_law_asker", "_law_number", "_law_turn"]) (cap := [none, some 1, some 2, some 4]) (by show Ay (Ac Au) _ ["_law_letters", "_law_asker", "_law_number", "_law_bids", "_law_turn", "_law_latest", "_law_words", "_law_hand", "_law_said", "_law_yes", "_law_no", "_law_silent", "_law_closes", "_law_late"] _ _; exact ⟨rfl, by decide +kernel, by decide +kernel, by decide +kernel, by decide +kernel, rfl, by decide +kernel⟩) rfl (Bx (K := K) rfl (pv 0)) (λ C s H fp => ⟨(Bh (i := 0) (by show (["_law_one", "_law_asker", "_law_number", "_law_turn"] : List Str).Nodup; decide +kernel) rfl (Or.inl rfl) (.inr rfl)), (Es (PW.pt (Il (Am Cg (Ap (Ah (K := K) rfl) (pv 0) Ab (λ _ _ => rfl)) Bm (Ar _)) (Gv (Am (e8 (hu2 hr)) (Iy M0 (pv 0) (F3 Ab) (F3 Ab)) (Bp (Aa (pv 1) (Aa (pv 2) (Aa (pv 3) Ad)))) (Ar _)))))), (Ap (Ah (K := K) rfl) (pv 0) Ab (λ _ _ => rfl))⟩)))
   (Af (Bv (Am Cg (Aj (Ao (K := K) rfl) rfl T.Di (by decide +kernel) (Aa (pv 12) Ad)) Ab (Ar _)) (Ai (As (Bp (Aa (pv 1) (Aa (pv 2) (Aa (pv 4) (Aa Bm (Aa (Ap (Ah (K := K) rfl) (pv 5) Ab (λ _ _ => rfl)) (Aa (Ap (Ah (K := K) rfl) (pv 5) Ab (λ _ _ => rfl)) (Aa (pv 9) (Aa (pv 10) (Aa (pv 11) (Aa (Bp Ad) (Aa (Bp Ad) Ad)))))))))))))) Aw)
   (Af (A9 (i := 13) Az.nd rfl (Or.inl rfl) (Df (Bu (K := K) rfl) rfl T.Co (by decide +kernel) (Aa (B8 (N := ["_law_hand", "_law_closes"]) (cap := [none, some 12]) (by show Ay (Ac Au) _ ["_law_letters", "_law_asker", "_law_number", "_law_bids", "_law_turn", "_law_latest", "_law_words", "_law_hand", "_law_said", "_law_yes", "_law_no", "_law_silent", "_law_closes", "_law_late"] _ _; exact ⟨rfl, by decide +kernel, by decide +kernel, by decide +kernel, by decide +kernel, rfl, by decide +kernel⟩) rfl (Gq (K := K) rfl (pv 9)) (λ C s H fp => ⟨(Bh (i := 0) (by show (["_law_hand", "_law_closes"] : List Str).Nodup; decide +kernel) rfl (Or.inl rfl) (.inr rfl)), (Es (Am (G2 (K := K) rfl) (pv 0) (Ap (By (K := K) rfl) (pv 1) Ab (λ _ _ => rfl)) (by with_unfolding_all rfl))), (pv 0)⟩)) Ad)))
   (Ai (As (Bp (Aa (pv 1) (Aa (pv 2) (Aa (pv 4) (Aa Bm (Aa (Ap (Ah (K := K) rfl) (pv 5) Ab (λ _ _ => rfl)) (Aa (Ap (Ah (K := K) rfl) (pv 5) Ab (λ _ _ => rfl)) (Aa (pv 9) (Aa (pv 10) (Aa (pv 11) (Aa (Ap (By (K := K) rfl) (pv 12) Ab (λ _ _ => rfl)) (Aa (pv 13) Ad))))))))))))))))))))))))))), ?_⟩
  refine ⟨_, rfl, L, rfl, ⟨_, SqL.of hL.at_⟩, ?_⟩
  refine Bl (Bz (K := K) (SqL.of hL.at_)) (lqF (bnP a0 n) ms) (λ v => v) (by rw [List.length_map]; omega) ?_ (λ x _ _ H' _ R hR => ⟨_, rfl, hR H' (Same.refl _)⟩) (λ D H1 s1 hD0 hD => ?_)
  ·
   intro x hx H' sm R hR
   obtain ⟨m, hm, rfl⟩ := List.mem_map.mp hx
   rw [Mi hL.ok hm] at hR
   obtain ⟨zs, hp, hv⟩ := (hL.ok m hm).up sm
   obtain ⟨r, rfl⟩ := hv.four
   refine ⟨_, rfl, m.2, _, _, _, rfl, rfl, SqT.of hp, Kq, (by show 2 <= sizeLine; decide), λ l hl => ?_⟩
   have ul := Ag (o := .lst [.str "bid", .str "off"]) hl
   refine ⟨l, _, rfl, .inl (SqL.of Ae), rfl, C7 ["bid", "off"], _, rfl, ?_⟩
   show (if inV (.str m.1.kind) ((["bid", "off"] : List Str).map V.str) = true then _ else _)
   rw [l4]
   have q := hR _ ul
   refine Bt (λ z => ?_) (λ z => ?_)
   ·
    refine ⟨_, rfl, m.2, _, _, _, rfl, rfl, SqT.of (ul _ _ hp), de, _, rfl, rfl, _, rfl, ?_⟩
    rw [Gx]
    refine Bt (λ z1 => ?_) (λ z1 => ?_)
    ·
     refine ⟨_, rfl, m.2, _, _, _, rfl, rfl, SqT.of (ul _ _ hp), j5, _, rfl, rfl, _, rfl, ?_⟩
     rw [Z2]
     rw [show bnP a0 n m.1 = decide (m.1.number = n) from by unfold bnP; rw [z, z1]; rfl] at q
     exact q
    ·
     rw [show bnP a0 n m.1 = false from by unfold bnP; rw [Bool.eq_false_iff.mpr z1, Bool.false_and, Bool.and_false]] at q
     exact q
   ·
    rw [show bnP a0 n m.1 = false from by unfold bnP; rw [Bool.eq_false_iff.mpr z, Bool.false_and]] at q
    exact q
  rw [Rj hL.ok (λ x hx => hx)] at hD
  have hb : ∀ x ∈ ms.filter λ x => bnP a0 n x.1, x ∈ ms /\ bnP a0 n x.1 = true := λ x hx => List.mem_filter.mp hx
  have hA : ∀ x, inK ms (a0, n) x -> x.bo = true -> ∃ y ∈ ms.filter λ x => bnP a0 n x.1, y.1 = x := λ x hx bx => by
   obtain ⟨y, hy, rfl⟩ := List.mem_map.mp hx.1
   have e1 : y.1.asker = a0 := congrArg Prod.fst hx.2
   have e2 : y.1.number = n := congrArg Prod.snd hx.2
   exact ⟨y, List.mem_filter.mpr ⟨hy, by unfold bnP; rw [bx, decide_eq_true e1, decide_eq_true e2]; rfl⟩, rfl⟩
  have hbl : (ms.filter λ x => bnP a0 n x.1).length < 64 := Nat.lt_of_le_of_lt (List.length_filter_le _ _) h64
  generalize (ms.filter λ x => bnP a0 n x.1) = bl at hD hb hA hbl
  refine ⟨_, rfl, D, _, rfl, .inl (SqL.of hD), rfl, _, rfl, ?_⟩
  rw [List.length_map, Z2]
  refine Bt (λ z => ?_) (λ z => ?_)
  ·
   have e0 : bl = [] := List.length_eq_zero_iff.mp (by have := of_decide_eq_true z; omega)
   refine k _ H1 s1 (.inl ⟨rfl, λ x hx => ?_⟩)
   cases bx : x.bo with
   | false => rfl
   | true => obtain ⟨y, hy, _⟩ := hA x hx bx; rw [e0] at hy; cases hy
  have hpos : 0 < bl.length := by
   rcases Nat.eq_zero_or_pos bl.length with e | e
   · exact absurd (decide_eq_true (by omega)) z
   · exact e
  have hL1 := hL.up s1
  refine ⟨_, rfl, D, rfl, ⟨_, SqL.of hD⟩, ?_⟩
  refine Bl (Bz (K := K) (SqL.of hD)) (λ _ => true) (λ v => .int (codeOf ms v).1) (by rw [List.length_map]; omega) (λ x _ H' _ R hR => hR H' (Same.refl _)) ?_ (λ D2 H2 s2 hD20 hD2 => ?_)
  ·
   intro x hx _ H' sm R hR
   obtain ⟨m, hm, rfl⟩ := List.mem_map.mp hx
   obtain ⟨zs, hp, hv⟩ := (hL1.ok m (hb m hm).1).up sm
   obtain ⟨r, rfl⟩ := hv.four
   have q := hR H' (Same.refl _)
   rw [K3 hL.ok (hb m hm).1] at q
   exact ⟨_, rfl, m.2, _, _, _, rfl, rfl, SqT.of hp, Zx, q⟩
  rw [List.filter_eq_self.mpr (λ _ _ => rfl), show ((bl.map λ x => V.ref x.2).map λ v => V.int (codeOf ms v).1) = (bl.map λ x => x.1.turn).map V.int from by
   rw [List.map_map, List.map_map]
   refine List.map_congr_left λ x hx => ?_
   show V.int (codeOf ms (.ref x.2)).1 = _
   rw [K3 hL.ok (hb x hx).1]
   rfl] at hD2
  refine ⟨D2, _, rfl, hD2, by rw [List.length_map]; exact hpos, λ M hM hmax => ?_⟩
  have hL2 := hL1.up s2
  replace hD := s2 _ _ hD
  refine ⟨_, rfl, D, rfl, ⟨_, SqL.of hD⟩, ?_⟩
  refine Bl (Bz (K := K) (SqL.of hD)) (lqF (λ x => decide (x.turn = M)) ms) (λ v => v) (by rw [List.length_map]; omega) ?_ (λ x _ _ H' _ R hR => ⟨_, rfl, hR H' (Same.refl _)⟩) (λ D3 H3 s3 hD30 hD3 => ?_)
  ·
   intro x hx H' sm R hR
   obtain ⟨m, hm, rfl⟩ := List.mem_map.mp hx
   obtain ⟨zs, hp, hv⟩ := (hL2.ok m (hb m hm).1).up sm
   obtain ⟨r, rfl⟩ := hv.four
   have q := hR H' (Same.refl _)
   rw [Mi hL.ok (hb m hm).1] at q
   refine ⟨_, rfl, m.2, _, _, _, rfl, rfl, SqT.of hp, Zx, _, rfl, rfl, _, rfl, ?_⟩
   rw [Z2]
   exact q
  rw [Rj hL.ok (λ x hx => (hb x hx).1)] at hD3
  have h3 : ∃ x0 r, (bl.filter λ x => decide (x.1.turn = M)) = x0 :: r := by
   obtain ⟨x, hx, e⟩ := List.mem_map.mp hM
   cases e2 : bl.filter λ x => decide (x.1.turn = M) with
   | nil => exact absurd (decide_eq_true e) (List.filter_eq_nil_iff.mp e2 x hx)
   | cons x0 r => exact ⟨x0, r, rfl⟩
  obtain ⟨x0, r0, e3⟩ := h3
  have hx0 := List.mem_filter.mp (show x0 ∈ bl.filter λ x => decide (x.1.turn = M) by rw [e3]; exact List.mem_cons_self ..)
  rw [e3] at hD3
  have hx1 := hb x0 hx0.1
  have tM : x0.1.turn = M := of_decide_eq_true hx0.2
  have bP := hx1.2
  unfold bnP at bP
  rw [Bool.and_eq_true, Bool.and_eq_true, decide_eq_true_eq, decide_eq_true_eq] at bP
  have hlast : IsLast (inK ms (a0, n)) x0.1 := ⟨⟨List.mem_map_of_mem hx1.1, Prod.ext bP.2.1 bP.2.2⟩, bP.1, λ y hy by_ => by
   obtain ⟨u, hu, rfl⟩ := hA y hy by_
   rw [tM]
   exact hmax _ (List.mem_map_of_mem (f := λ x : Lt × Addr => x.1.turn) hu)⟩
  refine ⟨D3, _, 0, _, rfl, rfl, SqL.of hD3, Kq, ?_⟩
  have S3 := (s1.trans s2).trans s3
  have hL3 := hL2.up s3
  clear hD3 e3 hx0 hmax hM hD2 hD20 hD30 hD0 hpos z hD hL1 hL2 hA hbl
  obtain ⟨lt, p0⟩ := x0
  have hlt := hL3.ok _ hx1.1
  have z0 : (0 : Nat) <= sizeLine := Nat.zero_le _
  cases lt with
  | close => exact absurd hlast.2.1 Bool.false_ne_true
  | ans => exact absurd hlast.2.1 Bool.false_ne_true
  |
   off a1 n1 t1 =>
   obtain ⟨zs, hp, rfl⟩ := hlt
   obtain rfl : a1 = a0 := bP.2.1
   obtain rfl : n1 = n := bP.2.2
   obtain rfl : t1 = M := tM
   refine ⟨_, rfl, p0, _, _, _, rfl, rfl, SqT.of hp, Kq, rfl, _, rfl, Bt (λ _ => ?_) (λ z => absurd (decide_eq_true rfl) z)⟩
   refine ⟨_, rfl, _, rfl, _, rfl, z0, λ e1 h1 => ⟨z0, λ e2 h2 => ⟨z0, λ e3 h3 => ⟨z0, λ e4 h4 => ⟨z0, λ e5 h5 => ⟨(by show 11 <= sizeLine; decide), λ q hq => ?_⟩⟩⟩⟩⟩⟩
   have u1 := Ag (o := .tup []) h1
   have u2 := Ag (o := .tup []) h2
   have u3 := Ag (o := .tup []) h3
   have u4 := Ag (o := .tup []) h4
   have u5 := Ag (o := .tup []) h5
   have u6 := Ag (o := .tup [.str a1, .int n1, .int t1, .str "off", .non, .non, .ref e1, .ref e2, .ref e3, .ref e4, .ref e5]) hq
   exact k _ _ (((((S3.trans u1).trans u2).trans u3).trans u4).trans (u5.trans u6)) (.inr ⟨q, ⟨a1, n1, t1, "off", none, [], [], [], [], []⟩, rfl, ⟨⟨e1, e2, e3, e4, e5, Ae, u6 _ _ (u5 _ _ (u4 _ _ (u3 _ _ (u2 _ _ Ae)))), u6 _ _ (u5 _ _ (u4 _ _ (u3 _ _ Ae))), u6 _ _ (u5 _ _ (u4 _ _ Ae)), u6 _ _ (u5 _ _ Ae), u6 _ _ Ae⟩, Nat.zero_le _, Nat.zero_le _, Nat.zero_le _, Nat.zero_le _, Nat.zero_le _⟩, _, hlast, rfl⟩)
  | bid a1 n1 t1 b e hs =>
  obtain ⟨zs, hp, q0, rfl, hq⟩ := hlt
  obtain rfl : a1 = a0 := bP.2.1
  obtain rfl : n1 = n := bP.2.2
  obtain rfl : t1 = M := tM
  have hhs : hs.length <= 1000 := (hz _ hx1.1).2.1
  refine ⟨_, rfl, p0, _, _, _, rfl, rfl, SqT.of hp, Kq, rfl, _, rfl, Bt (λ z => absurd z (by decide)) (λ _ => ?_)⟩
  refine λ W hW => ?_
  have uW := Ag (o := .dK []) hW
  refine ⟨_, rfl, p0, _, _, _, rfl, rfl, SqT.of (uW _ _ hp), Bb (j := 6) rfl, q0, rfl, ⟨_, SqT.of (uW _ _ hq)⟩, ?_⟩
  clear bP
  refine Lf (H0 := H3) (Hr (SqT.of hq)) (λ i σ H' => Same H3 H' /\ ∃ (kvs : List (Key × V)) (y7 y8 : Option V), H' W = some (.dK kvs) /\ WdOk (inK ms (a1, n1)) t1 hs i kvs /\ kvs.length <= i /\ σ = [some (.ref L), some (.str a1), some (.int n1), some (.ref D), some (.int t1), some (.ref p0), some (.ref W), y7, y8, none, none, none, none, none]) ⟨uW, [], _, _, Ae, (λ x => .inl ⟨rfl, λ z => nomatch z⟩), Nat.le_refl _, rfl⟩ (λ _ _ _ _ h => h.1) ?_ ?_
  ·
   rintro i v σ H4 hv ⟨s4, kvs, y7, y8, hW4, hO, hl4, rfl⟩
   rw [List.getElem?_map] at hv
   obtain ⟨h0, hi0, rfl⟩ := Option.map_eq_some_iff.mp hv
   have hi : i < 1000 := by have := (List.getElem?_eq_some_iff.mp hi0).1; omega
   have hL4 := hL3.up s4
   refine ⟨_, rfl, L, rfl, ⟨_, SqL.of hL4.at_⟩, ?_⟩
   refine Kx (Bz (K := K) (SqL.of hL4.at_)) (lqF (anP a1 n1 t1 h0) ms) (RlA ms) (λ _ _ _ _ tp ⟨q, e1, e2⟩ => ⟨q, e1, tp _ _ e2⟩) (by rw [List.length_map]; omega) ?_ ?_ (λ D5 H5 ys s5 hD50 hD5 hP => ?_)
   ·
    intro x hx H' sm R hR
    obtain ⟨m, hm, rfl⟩ := List.mem_map.mp hx
    rw [Mi hL.ok hm] at hR
    obtain ⟨lt, pm⟩ := m
    obtain ⟨zs, hpm, hv⟩ := (hL4.ok _ hm).up sm
    cases lt with
    | bid => obtain ⟨_, rfl, _⟩ := hv; exact ⟨_, rfl, pm, _, _, _, rfl, rfl, SqT.of hpm, Kq, rfl, _, rfl, Bt (λ z => absurd z (by decide)) (λ _ => hR H' (Same.refl _))⟩
    | off => cases hv; exact ⟨_, rfl, pm, _, _, _, rfl, rfl, SqT.of hpm, Kq, rfl, _, rfl, Bt (λ z => absurd z (by decide)) (λ _ => hR H' (Same.refl _))⟩
    | close => obtain ⟨_, rfl, _⟩ := hv; exact ⟨_, rfl, pm, _, _, _, rfl, rfl, SqT.of hpm, Kq, rfl, _, rfl, Bt (λ z => absurd z (by decide)) (λ _ => hR H' (Same.refl _))⟩
    | ans a' n' t' h' g w0 =>
    cases hv
    refine ⟨_, rfl, pm, _, _, _, rfl, rfl, SqT.of hpm, Kq, rfl, _, rfl, Bt (λ _ => ?_) (λ z => absurd (decide_eq_true rfl) z)⟩
    refine ⟨_, rfl, _, rfl, _, rfl, pm, _, rfl, hpm, λ p1 H6 s6 h6 => ?_⟩
    refine ⟨_, rfl, _, rfl, _, rfl, _, rfl, (by show 4 <= sizeLine; decide), λ p2 hp2 => ?_⟩
    have u6 := Ag (o := .tup [.str a1, .int n1, .int t1, .str h0]) hp2
    exact ⟨p1, p2, [.inl (.inr a'), .inl (.inl n'), .inl (.inl t'), .inl (.inr h')], [.inl (.inr a1), .inl (.inl n1), .inl (.inl t1), .inl (.inr h0)], rfl, rfl, ⟨_, u6 _ _ h6, .cons rfl (.cons rfl (.cons rfl (.cons rfl .nil)))⟩, ⟨_, Ae, .cons rfl (.cons rfl (.cons rfl (.cons rfl .nil)))⟩, _, rfl, hR _ (s6.trans u6)⟩
   ·
    intro x hx hP H' sm R hR
    obtain ⟨m, hm, rfl⟩ := List.mem_map.mp hx
    rw [Mi hL.ok hm] at hP
    obtain ⟨g, w0, em⟩ := Xm.mp hP
    obtain ⟨zs, hpm, hv⟩ := (hL4.ok _ hm).up sm
    rw [em] at hv
    cases hv
    refine ⟨_, rfl, _, rfl, m.2, _, rfl, hpm, λ p1 H6 s6 h6 => hR (.ref p1) H6 s6 ⟨p1, rfl, ?_⟩⟩
    rw [Xb hL.ok hm, em]
    exact h6
   rw [Qr hL.ok (λ x hx => hx)] at hP
   have hal : ∀ x, x ∈ (ms.filter λ x => anP a1 n1 t1 h0 x.1) ↔ x ∈ ms /\ ∃ g w, x.1 = .ans a1 n1 t1 h0 g w := λ x => by rw [List.mem_filter, Xm]
   have hll : (ms.filter λ x => anP a1 n1 t1 h0 x.1).length < 64 := Nat.lt_of_le_of_lt (List.length_filter_le _ _) h64
   generalize (ms.filter λ x => anP a1 n1 t1 h0 x.1) = al at hP hal hll
   obtain ⟨zs, rfl, hzs, hza⟩ := Xj hL.ok (λ x hx => ((hal x).mp hx).1) hP
   have hzl : zs.length = al.length := by have := congrArg List.length hza; rw [List.length_map, List.length_map] at this; exact this
   refine ⟨_, rfl, D5, _, rfl, .inl (SqL.of hD5), _, _, rfl, rfl, _, rfl, ?_⟩
   rw [List.length_map]
   refine Bt (λ z => ?_) (λ z => ?_)
   ·
    have hpos : 0 < zs.length := by have := of_decide_eq_true z; omega
    have hI : ∀ x ∈ zs.map (λ z => (pn z.1, z.2)), ∃ z ∈ zs, x = (pn z.1, z.2) := λ x hx => by obtain ⟨z, hz, rfl⟩ := List.mem_map.mp hx; exact ⟨z, hz, rfl⟩
    refine ⟨_, rfl, D5, zs.map (λ z => (pn z.1, z.2)), rfl, by rw [List.map_map]; exact hD5, λ x hx => ?_, by rw [List.length_map]; omega, .inr λ x hx => ?_, λ x hx y hy => ?_, λ D6 qs hD6 hpm hso => ?_⟩
    ·
     obtain ⟨z, hz, rfl⟩ := hI x hx
     exact ⟨_, hzs z hz, .cons rfl (.cons rfl .nil)⟩
    ·
     obtain ⟨z, hz, rfl⟩ := hI x hx
     exact ⟨_, _, rfl⟩
    ·
     obtain ⟨z, hz, rfl⟩ := hI x hx
     obtain ⟨u, hu, rfl⟩ := hI y hy
     exact rq _ _
    have hql : 0 < qs.length := by rw [hpm.length_eq, List.length_map]; exact hpos
    obtain ⟨qs', q, rfl⟩ : ∃ qs' q, qs = qs' ++ [q] := ⟨_, _, (List.dropLast_concat_getLast (List.ne_nil_of_length_pos hql)).symm⟩
    obtain ⟨z1, hz1, rfl, hw⟩ := Yn hal hza hpm hso
    have u6 := Ag (o := .lst ((qs' ++ [(pn z1.1, z1.2)]).map λ x => V.ref x.2)) hD6
    refine ⟨_, rfl, D6, _, _, _, rfl, rfl, SqL.of Ae, by rw [List.map_append]; exact bg _ _, z1.2, _, _, _, rfl, rfl, SqT.of (u6 _ _ (hzs z1 hz1)), de, ?_⟩
    have hW6 := u6 _ _ (s5 _ _ hW4)
    refine ⟨_, rfl, _, rfl, W, _, rfl, DPut.k (k := .inr h0) hW6 (by rw [sizeLine_eq]; omega), λ b o e => ?_, _, _, _, Ae, hO.put hi0 hw, Nat.le_trans (Dv _ _ _) (by omega), rfl⟩
    rw [Al (Aq e hW)]
    exact u6 _ _ (s5 _ _ (s4 _ _ e))
   ·
    have e0 : zs = [] := List.length_eq_zero_iff.mp (by
     rcases Nat.eq_zero_or_pos zs.length with e | e
     · exact e
     · exact absurd (decide_eq_true (by omega)) z)
    refine ⟨s4.trans s5, kvs, _, _, s5 _ _ hW4, hO.skip hi0 ?_, by omega, rfl⟩
    rintro a' n' g' w' ⟨h1, h2⟩
    obtain ⟨x, hx, ex⟩ := List.mem_map.mp h1
    have e1 : a' = a1 := congrArg Prod.fst h2
    have e2 : n' = n1 := congrArg Prod.snd h2
    subst e1 e2
    have hxa := (hal x).mpr ⟨hx, g', w', ex⟩
    have : al.length = 0 := by rw [← hzl, e0]; rfl
    rw [List.length_eq_zero_iff.mp this] at hxa
    cases hxa
  rintro σ H4 ⟨s4, kvs, y7, y8, hW4, hO, hl4, rfl⟩
  rw [List.length_map] at hO
  have hwf := hO.word
  have ITX : ∀ {H' : Hp}, Same H3 H' -> H' p0 = some (.tup [.str "bid", .str a1, .int n1, .int t1, .int b, .int e, .ref q0]) := λ s => s _ _ hp
  refine ⟨_, rfl, p0, _, _, _, rfl, rfl, SqT.of (ITX s4), Bb (j := 6) rfl, q0, rfl, ⟨_, SqT.of (s4 _ _ hq)⟩, ?_⟩
  refine Bl (Hr (SqT.of (s4 _ _ hq))) (wP (wfS kvs) (some (Str.ofString "yes"))) (λ v => v) (by rw [List.length_map]; omega) (λ x hx H' sm R hR => ?_) (λ x hx _ H' sm R hR => ⟨_, rfl, hR H' (Same.refl _)⟩) (λ D5 H5 s5 hD50 hD5 => ?_)
  ·
   obtain ⟨tx, htx, rfl⟩ := List.mem_map.mp hx
   have q : R (decide (wfS kvs tx = (some (Str.ofString "yes")))) H' := hR H' (Same.refl _)
   rw [← hO.get (by decide)] at q
   exact ⟨_, rfl, W, rfl, .inl ⟨kvs, .inl (sm _ _ hW4)⟩, _, rfl, _, DGet.k (k := .inr tx) (sm _ _ hW4), (by rcases hO tx with ⟨e, _⟩ | ⟨w, e, _⟩ <;> rw [e] <;> rfl), _, rfl, q⟩
  rw [Vt] at hD5
  refine ⟨D5, _, rfl, .inl ⟨SqL.of hD5, λ r5 hr5 => ?_⟩⟩
  have u5 := Ag (o := .tup ((Ky (wfS kvs) (some (Str.ofString "yes")) hs).map V.str)) hr5
  have S5 := s4.trans (s5.trans u5)
  have e5 : (upd H5 r5 (.tup ((Ky (wfS kvs) (some (Str.ofString "yes")) hs).map V.str))) r5 = some (.tup ((Ky (wfS kvs) (some (Str.ofString "yes")) hs).map V.str)) := Ae
  have t5 := s5.trans u5
  generalize upd H5 r5 (.tup ((Ky (wfS kvs) (some (Str.ofString "yes")) hs).map V.str)) = K5 at *
  have hW5 := t5 _ _ hW4
  clear hr5 u5 hD5
  refine ⟨_, rfl, p0, _, _, _, rfl, rfl, SqT.of (ITX S5), Bb (j := 6) rfl, q0, rfl, ⟨_, SqT.of (S5 _ _ hq)⟩, ?_⟩
  refine Bl (Hr (SqT.of (S5 _ _ hq))) (wP (wfS kvs) (some (Str.ofString "no"))) (λ v => v) (by rw [List.length_map]; omega) (λ x hx H' sm R hR => ?_) (λ x hx _ H' sm R hR => ⟨_, rfl, hR H' (Same.refl _)⟩) (λ D6 H6 s6 hD60 hD6 => ?_)
  ·
   obtain ⟨tx, htx, rfl⟩ := List.mem_map.mp hx
   have q : R (decide (wfS kvs tx = (some (Str.ofString "no")))) H' := hR H' (Same.refl _)
   rw [← hO.get (by decide)] at q
   exact ⟨_, rfl, W, rfl, .inl ⟨kvs, .inl (sm _ _ hW5)⟩, _, rfl, _, DGet.k (k := .inr tx) (sm _ _ hW5), (by rcases hO tx with ⟨e, _⟩ | ⟨w, e, _⟩ <;> rw [e] <;> rfl), _, rfl, q⟩
  rw [Vt] at hD6
  refine ⟨D6, _, rfl, .inl ⟨SqL.of hD6, λ r6 hr6 => ?_⟩⟩
  have u6 := Ag (o := .tup ((Ky (wfS kvs) (some (Str.ofString "no")) hs).map V.str)) hr6
  have S6 := S5.trans (s6.trans u6)
  have e6 : (upd H6 r6 (.tup ((Ky (wfS kvs) (some (Str.ofString "no")) hs).map V.str))) r6 = some (.tup ((Ky (wfS kvs) (some (Str.ofString "no")) hs).map V.str)) := Ae
  have t6 := s6.trans u6
  generalize upd H6 r6 (.tup ((Ky (wfS kvs) (some (Str.ofString "no")) hs).map V.str)) = K6 at *
  have hW6 := t6 _ _ hW5
  clear hr6 u6 hD6
  refine ⟨_, rfl, p0, _, _, _, rfl, rfl, SqT.of (ITX S6), Bb (j := 6) rfl, q0, rfl, ⟨_, SqT.of (S6 _ _ hq)⟩, ?_⟩
  refine Bl (Hr (SqT.of (S6 _ _ hq))) (wP (wfS kvs) none) (λ v => v) (by rw [List.length_map]; omega) (λ x hx H' sm R hR => ?_) (λ x hx _ H' sm R hR => ⟨_, rfl, hR H' (Same.refl _)⟩) (λ D7 H7 s7 hD70 hD7 => ?_)
  ·
   obtain ⟨tx, htx, rfl⟩ := List.mem_map.mp hx
   have q : R (decide (wfS kvs tx = none)) H' := hR H' (Same.refl _)
   rw [← hO.mem] at q
   exact ⟨_, rfl, _, rfl, W, _, rfl, DGet.k (k := .inr tx) (sm _ _ hW6), _, rfl, q⟩
  rw [Vt] at hD7
  refine ⟨D7, _, rfl, .inl ⟨SqL.of hD7, λ r7 hr7 => ?_⟩⟩
  have u7 := Ag (o := .tup ((Ky (wfS kvs) none hs).map V.str)) hr7
  have S7 := S6.trans (s7.trans u7)
  have e7 : (upd H7 r7 (.tup ((Ky (wfS kvs) none hs).map V.str))) r7 = some (.tup ((Ky (wfS kvs) none hs).map V.str)) := Ae
  have t7 := s7.trans u7
  generalize upd H7 r7 (.tup ((Ky (wfS kvs) none hs).map V.str)) = K7 at *
  have hW7 := t7 _ _ hW6
  clear hr7 u7 hD7
  have hL7 := hL3.up S7
  replace e5 := t7 _ _ (t6 _ _ e5)
  replace e6 := t7 _ _ e6
  refine ⟨_, rfl, L, rfl, ⟨_, SqL.of hL7.at_⟩, ?_⟩
  refine Kx (Bz (K := K) (SqL.of hL7.at_)) (lqF (clP a1 n1 t1) ms) (RlC ms) (λ _ _ _ _ tp ⟨q, e1, e2⟩ => ⟨q, e1, tp _ _ e2⟩) (by rw [List.length_map]; omega) ?_ ?_ (λ D8 H8 ys s8 hD80 hD8 hP => ?_)
  ·
   intro x hx H' sm R hR
   obtain ⟨m, hm, rfl⟩ := List.mem_map.mp hx
   rw [Mi hL.ok hm] at hR
   obtain ⟨lt, pm⟩ := m
   obtain ⟨zs, hpm, hv⟩ := (hL7.ok _ hm).up sm
   cases lt with
   | bid => obtain ⟨_, rfl, _⟩ := hv; exact ⟨_, rfl, pm, _, _, _, rfl, rfl, SqT.of hpm, Kq, rfl, _, rfl, Bt (λ z => absurd z (by decide)) (λ _ => hR H' (Same.refl _))⟩
   | off => cases hv; exact ⟨_, rfl, pm, _, _, _, rfl, rfl, SqT.of hpm, Kq, rfl, _, rfl, Bt (λ z => absurd z (by decide)) (λ _ => hR H' (Same.refl _))⟩
   | ans => cases hv; exact ⟨_, rfl, pm, _, _, _, rfl, rfl, SqT.of hpm, Kq, rfl, _, rfl, Bt (λ z => absurd z (by decide)) (λ _ => hR H' (Same.refl _))⟩
   | close a' n' t' hs' =>
   obtain ⟨qh, rfl, hqh⟩ := hv
   refine ⟨_, rfl, pm, _, _, _, rfl, rfl, SqT.of hpm, Kq, rfl, _, rfl, Bt (λ _ => ?_) (λ z => absurd (decide_eq_true rfl) z)⟩
   refine ⟨_, rfl, _, rfl, _, rfl, pm, _, rfl, hpm, λ p1 H9 s9 h9 => ?_⟩
   refine ⟨_, rfl, _, rfl, _, rfl, (by show 3 <= sizeLine; decide), λ p2 hp2 => ?_⟩
   have u9 := Ag (o := .tup [.str a1, .int n1, .int t1]) hp2
   exact ⟨p1, p2, [.inl (.inr a'), .inl (.inl n'), .inl (.inl t')], [.inl (.inr a1), .inl (.inl n1), .inl (.inl t1)], rfl, rfl, ⟨_, u9 _ _ h9, .cons rfl (.cons rfl (.cons rfl .nil))⟩, ⟨_, Ae, .cons rfl (.cons rfl (.cons rfl .nil))⟩, _, rfl, hR _ (s9.trans u9)⟩
  ·
   intro x hx hP H' sm R hR
   obtain ⟨m, hm, rfl⟩ := List.mem_map.mp hx
   rw [Mi hL.ok hm] at hP
   obtain ⟨hs', em⟩ := Yk.mp hP
   obtain ⟨zs, hpm, hv⟩ := (hL7.ok _ hm).up sm
   rw [em] at hv
   obtain ⟨qh, rfl, hqh⟩ := hv
   refine ⟨_, rfl, m.2, _, _, _, rfl, rfl, SqT.of hpm, Bb (j := 4) rfl, hR _ H' (Same.refl _) ⟨qh, rfl, ?_⟩⟩
   rw [Yy hL.ok hm, em]
   exact hqh
  rw [Qr hL.ok (λ x hx => hx)] at hP
  have hcl : ∀ x, x ∈ (ms.filter λ x => clP a1 n1 t1 x.1) ↔ x ∈ ms /\ ∃ hs, x.1 = .close a1 n1 t1 hs := λ x => by rw [List.mem_filter, Yk]
  generalize (ms.filter λ x => clP a1 n1 t1 x.1) = cl at hP hcl
  have S8 := S7.trans s8
  replace e5 := s8 _ _ e5
  replace e6 := s8 _ _ e6
  replace e7 := s8 _ _ e7
  have wl := λ o => Nat.le_trans (E3 (wfS kvs) o hs) hhs
  refine ⟨_, rfl, D8, _, rfl, .inl (SqL.of hD8), rfl, _, rfl, ?_⟩
  rw [Z2]
  cases cl with
  |
   nil =>
   rw [List.map_nil] at hP
   cases hP
   refine Bt (λ _ => ?_) (λ z => absurd (decide_eq_true rfl) z)
   refine ⟨_, rfl, _, rfl, _, rfl, _, rfl, p0, _, _, _, rfl, rfl, SqT.of (ITX S8), Bb (j := 4) rfl, _, rfl, p0, _, _, _, rfl, rfl, SqT.of (ITX S8), Bb (j := 5) rfl, _, rfl, _, rfl, _, rfl, z0, λ f1 h1 => ⟨z0, λ f2 h2 => ⟨(by show 11 <= sizeLine; decide), λ q hq' => ?_⟩⟩⟩
   have u1 := Ag (o := .tup []) h1
   have u2 := Ag (o := .tup []) h2
   have u3 := Ag (o := .tup [.str a1, .int n1, .int t1, .str "open", .int b, .int e, .ref r5, .ref r6, .ref r7, .ref f1, .ref f2]) hq'
   have U := (u1.trans u2).trans u3
   refine k _ _ ((S3.trans S8).trans U) (.inr ⟨q, ⟨a1, n1, t1, "open", some (b, e), _, _, _, [], []⟩, rfl, ⟨⟨r5, r6, r7, f1, f2, Ae, U _ _ e5, U _ _ e6, U _ _ e7, u3 _ _ (u2 _ _ Ae), u3 _ _ Ae⟩, wl _, wl _, wl _, Nat.zero_le _, Nat.zero_le _⟩, _, hlast, wfS kvs, hwf, .inl ⟨?_, rfl⟩⟩)
   rintro a' n' hs' ⟨g1, g2⟩
   obtain ⟨x, hx, ex⟩ := List.mem_map.mp g1
   have e1 : a' = a1 := congrArg Prod.fst g2
   have e2 : n' = n1 := congrArg Prod.snd g2
   subst e1 e2
   exact nomatch (hcl x).mpr ⟨hx, hs', ex⟩
  | cons x1 cl =>
  rw [List.map_cons] at hP
  cases hP with
  | cons r1 rs =>
  obtain ⟨q1, rfl, hq1⟩ := r1
  obtain ⟨hm1, hs1, ex1⟩ := (hcl x1).mp (List.mem_cons_self ..)
  rw [Yy hL.ok hm1, ex1] at hq1
  refine Bt (λ z => absurd z (by rw [List.length_cons]; intro z; have := of_decide_eq_true z; omega)) (λ _ => ?_)
  refine ⟨_, rfl, r5, rfl, ⟨_, SqT.of e5⟩, ?_⟩
  refine Bl (Hr (SqT.of e5)) (fw hs1) (λ v => v) (by rw [List.length_map]; exact Nat.le_trans (wl _) (by decide)) (λ x hx H' sm R hR => ?_) (λ x hx _ H' sm R hR => ⟨_, rfl, hR H' (Same.refl _)⟩) (λ D9 H9 s9 hD90 hD9 => ?_)
  ·
   obtain ⟨tx, htx, rfl⟩ := List.mem_map.mp hx
   refine ⟨_, rfl, _, rfl, D8, _, _, _, rfl, rfl, SqL.of (sm _ _ hD8), Kq, q1, _, rfl, .inr (SqT.of (sm _ _ hq1)), rfl, C7 hs1, _, rfl, ?_⟩
   rw [Fm]
   exact hR _ (Same.refl _)
  rw [U9] at hD9
  refine ⟨D9, _, rfl, .inl ⟨SqL.of hD9, λ rl hrl => ?_⟩⟩
  have url := Ag (o := .tup (((Ky (wfS kvs) (some (Str.ofString "yes")) hs).filter λ h => !decide (h ∈ hs1)).map V.str)) hrl
  have S9 := S8.trans (s9.trans url)
  have hD9' := url _ _ (s9 _ _ hD8)
  refine ⟨_, rfl, _, rfl, _, rfl, _, rfl, p0, _, _, _, rfl, rfl, SqT.of (ITX S9), Bb (j := 4) rfl, _, rfl, p0, _, _, _, rfl, rfl, SqT.of (ITX S9), Bb (j := 5) rfl, _, rfl, _, rfl, _, rfl, _, rfl, D8, _, _, _, rfl, rfl, SqL.of hD9', Kq, _, rfl, (by show 11 <= sizeLine; decide), λ q hq' => ?_⟩
  have u3 := Ag (o := .tup [.str a1, .int n1, .int t1, .str "closed", .int b, .int e, .ref r5, .ref r6, .ref r7, .ref q1, .ref rl]) hq'
  have U := (s9.trans url).trans u3
  exact k _ _ ((S3.trans S8).trans U) (.inr ⟨q, ⟨a1, n1, t1, "closed", some (b, e), _, _, _, hs1, _⟩, rfl, ⟨⟨r5, r6, r7, q1, rl, Ae, U _ _ e5, U _ _ e6, U _ _ e7, U _ _ hq1, u3 _ _ Ae⟩, wl _, wl _, wl _, (by have := hz _ hm1; rw [ex1] at this; exact this.2.1), Nat.le_trans (List.length_filter_le _ _) (wl _)⟩, _, hlast, wfS kvs, hwf, .inr ⟨a1, n1, hs1, ⟨List.mem_map.mpr ⟨x1, hm1, ex1⟩, rfl⟩, rfl⟩⟩)
theorem Wj : Ax ["text"] ["text"] (Ac Gg) := ⟨rfl, rfl, rfl, by decide +kernel, rfl, by decide +kernel, by decide +kernel⟩
theorem Ww (T : Txt K mg a) : FnOk P w K mg base CX0 true 2 a.Kf a.J7 ["text"] (V5) := by
 refine T.S1.ok Wj (λ vs H Q E h => ?_) (λ cdv A outer s H vs Q E hr h => ?_)
 · obtain ⟨t, rfl, _⟩ := h; rfl
 ·
  obtain ⟨t, rfl, hl, k⟩ := h
  refine ⟨_, (Af (Bv (PW.pt (Js (Am Tq (Aj Lo rfl T.Di (by decide +kernel) (Aa (pv 0) Ad)) Ab (Ar _)) (Hu (Am Ts (Aj Lo rfl T.Di (by decide +kernel) (Aa (pv 0) Ad)) (Vr rfl T.Er) (Ar _))))) (Ai (As Hw)) Aw)
   (Ai (As (Ew (B5 R3 (Ap Vx (pv 0) Ab (λ _ _ => rfl)) (Pu rfl T.F8) (by with_unfolding_all rfl)) (El (Ak ((Py T).mono (by decide)) hr rfl T.Ta T.Lp.kp T.R4 .nil Bd (Aa (pv 0) (Aa (Bf Fd (Pu rfl T.F8) (Pu rfl T.Im)) Ad)))))))), ?_⟩
  have hz : t.length <= sizeLine := Nat.le_of_lt (Nat.lt_of_le_of_lt hl lh)
  have el : t.cps.toList.length = t.length := Array.length_toList
  refine ⟨_, rfl, t, rfl, hz, _, _, rfl, rfl, _, rfl, ?_⟩
  refine Bt (λ h1 => ?_) (λ h1 => ?_)
  ·
   refine Ij ?_
   have q := k H (Same.refl _)
   rw [T2 (by rw [el]; have := of_decide_eq_true h1; omega)] at q
   exact q
  ·
   have h1' : ¬ ((t.length : Int) < 1) := λ z => h1 (decide_eq_true z)
   refine ⟨_, rfl, t, rfl, hz, _, _, rfl, rfl, _, rfl, ?_⟩
   refine Bt (λ h2 => ?_) (λ h2 => ?_)
   ·
    have q := k H (Same.refl _)
    rw [V3 (by rw [el]; have := of_decide_eq_true h2; omega)] at q
    exact q
   ·
    have h2' : ¬ ((8 : Int) < t.length) := λ z => h2 (decide_eq_true z)
    obtain ⟨c0, e0⟩ : ∃ c, t.cps.toList[0]? = some c := ⟨t.cps.toList[0]'(by rw [el]; omega), by simp⟩
    refine ⟨_, rfl, t, 0, c0, rfl, rfl, hz, Bb e0, c0, _, rfl, rfl, _, rfl, ?_⟩
    have en := Yr (l := t.cps.toList) (by rw [el]; omega) (by rw [el]; omega) e0
    refine Bt (λ h3 => ?_) (λ h3 => ?_)
    ·
     refine ⟨_, rfl, _, _, rfl, rfl, by decide +kernel, t, _, rfl, hl, λ H' sm => ?_⟩
     have q := k H' sm
     rw [en, show decide (c0 ∈ LT) = true from h3, Bool.true_and] at q
     exact q
    ·
     have q := k H (Same.refl _)
     rw [en, show decide (c0 ∈ LT) = false from decide_eq_false (λ z => h3 (decide_eq_true z)), Bool.false_and] at q
     exact q
theorem Wt : Ax ["value", "least"] ["value", "least"] (Ac Gb) := ⟨rfl, rfl, rfl, by decide +kernel, rfl, by decide +kernel, by decide +kernel⟩
theorem Fb (T : Txt K mg a) : FnOk P w K mg base CX0 true 2 a.J5 a.Kr ["value", "least"] (W3) := by
 refine T.Fe.ok Wt (λ vs H Q E h => ?_) (λ cdv A outer s H vs Q E hr h => ?_)
 · obtain ⟨v, w, j, rfl, _⟩ := h; rfl
 ·
  obtain ⟨v, w, j, rfl, hw, k⟩ := h
  refine ⟨_, (Ai (As (Ew (Ak ((Ii T).mono (by decide)) hr rfl T.Jo T.Hc.kp T.Jq .nil Bd (Aa (pv 0) Ad)) (El (B5 lj (pv 0) (pv 1) (Ar _)))))), ?_⟩
  refine ⟨_, rfl, v, w, rfl, hw, _, rfl, ?_⟩
  cases w with
  | i z => cases hw; exact Ij ⟨_, rfl, _, rfl, _, _, rfl, rfl, k⟩
  | n => exact Ff k
  | b x => exact Ff k
  | s t => exact Ff k
  | ts l => exact Ff k
  | ti z => exact Ff k
theorem Bn : Ax ["letters", "bid", "turn", "asked", "answers", "yes", "no", "silent", "closes", "come", "late"] ["letters", "bid"] (Ac B3) := ⟨rfl, rfl, rfl, by decide +kernel, rfl, by decide +kernel, by decide +kernel⟩
theorem Nz (T : Txt K mg a) : FnOk P w K mg base CX0 true 2 a.E6 a.Ex ["letters", "bid"] (N7) := by
 refine T.J3.ok Bn (λ vs H Q E h => ?_) (λ cdv A outer s H vs Q E hr h => ?_)
 · obtain ⟨L, B, ms, a0, n, t, b, e, hs, rfl, _⟩ := h; rfl
 ·
  obtain ⟨L, B, ms, a0, n, t, b, e, hs, rfl, hL, hz, hG, hB, hhs, k⟩ := h
  refine ⟨_, (Af (A9 (i := 2) Bn.nd rfl (Or.inr rfl) (Ap (Ah (K := K) rfl) (pv 1) Ab (λ _ _ => rfl)))
   (Af (A9 (i := 3) Bn.nd rfl (Or.inl rfl) (Ap (Ah (K := K) rfl) (pv 1) Ab (λ _ _ => rfl)))
   (Af (A9 (i := 4) Bn.nd rfl (Or.inl rfl) (Ak ((P0 T).mono (by decide)) hr rfl T.Sn T.Lj.kp T.Qw .nil Bd (Aa (pv 0) (Aa (pv 2) Ad))))
   (Af (A9 (i := 5) Bn.nd rfl (Or.inl rfl) (Ak ((Ic T).mono (by decide)) hr rfl T.Jr T.Hg.kp T.Jp .nil Bd (Aa (pv 3) (Aa (pv 4) (Aa Bm Ad)))))
   (Af (A9 (i := 6) Bn.nd rfl (Or.inl rfl) (Ak ((Ic T).mono (by decide)) hr rfl T.Jr T.Hg.kp T.Jp .nil Bd (Aa (pv 3) (Aa (pv 4) (Aa Bm Ad)))))
   (Af (A9 (i := 7) Bn.nd rfl (Or.inl rfl) (Ak ((Ic T).mono (by decide)) hr rfl T.Jr T.Hg.kp T.Jp .nil Bd (Aa (pv 3) (Aa (pv 4) (Aa Fx Ad)))))
   (Af (Dy (i0 := 8) Bn.nd rfl rfl (N := ["letter", "turn"]) (cap := [none, some 2]) (by show Ay (Ac B3) _ ["letters", "bid", "turn", "asked", "answers", "yes", "no", "silent", "closes", "come", "late"] _ _; exact ⟨rfl, by decide +kernel, by decide +kernel, by decide +kernel, by decide +kernel, rfl, by decide +kernel⟩) rfl (Bx (K := K) rfl (pv 0)) (λ C s H fp => ⟨(Bh (i := 0) (by show (["letter", "turn"] : List Str).Nodup; decide +kernel) rfl (Or.inl rfl) (.inr rfl)), (Es (PW.pt (Il (Am (Jd (Fi hr)) (Ap (Ah (K := K) rfl) (pv 0) Ab (λ _ _ => rfl)) Bm (Ar _)) (Gv (Am Cg (Ap (Ah (K := K) rfl) (pv 0) Ab (λ _ _ => rfl)) (pv 1) (Ar _)))))), (pv 0)⟩))
   (Af (Bv (F0 (Vp (pv 8) (λ _ => rfl))) (Ai (As (Bp (Aa (Ap (Ah (K := K) rfl) (pv 1) Ab (λ _ _ => rfl)) (Aa (Ap (Ah (K := K) rfl) (pv 1) Ab (λ _ _ => rfl)) (Aa (pv 2) (Aa Bm (Aa (Ap (Ah (K := K) rfl) (pv 1) Ab (λ _ _ => rfl)) (Aa (Ap (Ah (K := K) rfl) (pv 1) Ab (λ _ _ => rfl)) (Aa (pv 5) (Aa (pv 6) (Aa (pv 7) (Aa (Bp Ad) (Aa (Bp Ad) Ad)))))))))))))) Aw)
   (Af (A9 (i := 9) Bn.nd rfl (Or.inr rfl) (Ap (Ah (K := K) rfl) (Aj (X5 rfl) rfl T.Tc (by decide +kernel) (Aa (pv 8) Ad)) Ab (λ _ _ => rfl)))
   (Af (A9 (i := 10) Bn.nd rfl (Or.inl rfl) (Df (Bu (K := K) rfl) rfl T.Co (by decide +kernel) (Aa (B8 (N := ["hand", "come"]) (cap := [none, some 9]) (by show Ay (Ac B3) _ ["letters", "bid", "turn", "asked", "answers", "yes", "no", "silent", "closes", "come", "late"] _ _; exact ⟨rfl, by decide +kernel, by decide +kernel, by decide +kernel, by decide +kernel, rfl, by decide +kernel⟩) rfl (Gq (K := K) rfl (pv 5)) (λ C s H fp => ⟨(Bh (i := 0) (by show (["hand", "come"] : List Str).Nodup; decide +kernel) rfl (Or.inl rfl) (.inr rfl)), (Es (Am (G2 (K := K) rfl) (pv 0) (pv 1) (by with_unfolding_all rfl))), (pv 0)⟩)) Ad)))
   (Ai (As (Bp (Aa (Ap (Ah (K := K) rfl) (pv 1) Ab (λ _ _ => rfl)) (Aa (Ap (Ah (K := K) rfl) (pv 1) Ab (λ _ _ => rfl)) (Aa (pv 2) (Aa Bm (Aa (Ap (Ah (K := K) rfl) (pv 1) Ab (λ _ _ => rfl)) (Aa (Ap (Ah (K := K) rfl) (pv 1) Ab (λ _ _ => rfl)) (Aa (pv 5) (Aa (pv 6) (Aa (pv 7) (Aa (pv 9) (Aa (pv 10) Ad)))))))))))))))))))))))), ?_⟩
  obtain ⟨zs, hB, q0, rfl, hq⟩ := hB
  refine ⟨_, rfl, B, _, _, _, rfl, rfl, SqT.of hB, Zx, ?_⟩
  refine ⟨_, rfl, B, _, _, _, rfl, rfl, SqT.of hB, Bb (j := 6) rfl, ?_⟩
  refine ⟨_, rfl, _, rfl, L, ms, t, rfl, hL, hG, λ D kvs H1 s1 hD hA => ?_⟩
  obtain ⟨wf, hwf⟩ := hA.know
  have hK := λ h => (hwf h).1
  refine ⟨_, rfl, _, rfl, q0, D, hs, kvs, some (Str.ofString "yes"), wf, rfl, s1 _ _ hq, hhs, hD, hK, λ r1 H2 s2 h2 => ?_⟩
  refine ⟨_, rfl, _, rfl, q0, D, hs, kvs, some (Str.ofString "no"), wf, rfl, s2 _ _ (s1 _ _ hq), hhs, s2 _ _ hD, λ h => (hK h).up s2, λ r2 H3 s3 h3 => ?_⟩
  refine ⟨_, rfl, _, rfl, q0, D, hs, kvs, none, wf, rfl, s3 _ _ (s2 _ _ (s1 _ _ hq)), hhs, s3 _ _ (s2 _ _ hD), λ h => ((hK h).up s2).up s3, λ r3 H4 s4 h4 => ?_⟩
  have S4 := ((s1.trans s2).trans s3).trans s4
  have hL4 := hL.up S4
  refine ⟨_, rfl, L, rfl, ⟨_, SqL.of hL4.at_⟩, ?_⟩
  refine Bl (Bz (K := K) (SqL.of hL4.at_)) (clF ms t) (λ v => v) (by rw [List.length_map]; have := hL.few; omega) ?_ (λ x _ _ H' _ R hR => ⟨_, rfl, hR H' (Same.refl _)⟩) (λ C H5 s5 hC0 hC => ?_)
  ·
   intro x hx H' sm R hR
   obtain ⟨m, hm, rfl⟩ := List.mem_map.mp hx
   have hq := hR H' (Same.refl _)
   rw [Zf (t := t) hL.ok hm] at hq
   obtain ⟨ws, hp, hv⟩ := (hL4.ok m hm).up sm
   obtain ⟨r, rfl⟩ := hv.four
   refine ⟨_, rfl, m.2, _, _, _, rfl, rfl, SqT.of hp, Kq, _, rfl, .inl ⟨rfl, _, rfl, ?_⟩⟩
   have e1 : decide (V.str m.1.kind = V.str "close") = decide (m.1.kind = "close") := decide_eq_decide.mpr (by rw [V.str.injEq])
   rw [e1]
   refine Bt (λ z => ?_) (λ z => ?_)
   ·
    refine ⟨_, rfl, m.2, _, _, _, rfl, rfl, SqT.of hp, Zx, _, rfl, rfl, _, rfl, ?_⟩
    rw [z, Bool.true_and] at hq
    rw [Z2]
    exact hq
   ·
    rw [Bool.eq_false_iff.mpr z, Bool.false_and] at hq
    exact hq
  have hS5 := S4.trans s5
  have hB5 := hS5 _ _ hB
  have hcs : ∀ z ∈ (((ms.map λ x => V.ref x.2).filter (clF ms t)).map λ v => v), ∃ x ∈ ms, z = V.ref x.2 /\ x.1.kind = "close" /\ x.1.turn = t := by
   intro z hz
   obtain ⟨y, hy, rfl⟩ := List.mem_map.mp hz
   obtain ⟨hy1, hy2⟩ := List.mem_filter.mp hy
   obtain ⟨x, hx, rfl⟩ := List.mem_map.mp hy1
   rw [Zf (t := t) hL.ok hx, Bool.and_eq_true] at hy2
   exact ⟨x, hx, rfl, of_decide_eq_true hy2.1, of_decide_eq_true hy2.2⟩
  have hno : (((ms.map λ x => V.ref x.2).filter (clF ms t)).map λ v => v) = [] -> ∀ a' n' hs', ¬ inM ms (.close a' n' t hs') := λ e a' n' hs' z => by
   obtain ⟨x, hx, ex⟩ := List.mem_map.mp z
   rw [List.map_id'' (λ _ => rfl), List.filter_eq_nil_iff] at e
   refine e _ (List.mem_map_of_mem (f := λ x : Lt × Addr => V.ref x.2) hx) ?_
   rw [Zf (t := t) hL.ok hx, show x.1 = .close a' n' t hs' from ex]
   show (decide ((Str.ofString "close") = Str.ofString "close") && decide (t = t)) = true
   rw [decide_eq_true rfl, decide_eq_true rfl]
   rfl
  generalize (((ms.map λ x => V.ref x.2).filter (clF ms t)).map λ v => v) = cs at hC hcs hno
  have g1 := λ (H' : Hp) (s' : Same H5 H') => s' _ _ hB5
  cases cs with
  |
   nil =>
   refine ⟨_, rfl, _, .inl ⟨_, SqL.of hC, rfl⟩, Ij ?_⟩
   refine ⟨_, rfl, B, _, _, _, rfl, rfl, SqT.of hB5, de, _, rfl, B, _, _, _, rfl, rfl, SqT.of hB5, j5, _, rfl, _, rfl, B, _, _, _, rfl, rfl, SqT.of hB5, Bb (j := 4) rfl, _, rfl, B, _, _, _, rfl, rfl, SqT.of hB5, Bb (j := 5) rfl, _, rfl, _, rfl, _, rfl, (by show 0 <= sizeLine; decide), λ e1 he1 => ⟨(by show 0 <= sizeLine; decide), λ e2 he2 => ⟨(by show 11 <= sizeLine; decide), λ r hr => ?_⟩⟩⟩
   have u1 := Ag (o := .tup []) he1
   have u2 := Ag (o := .tup []) he2
   have u3 := Ag (o := .tup [.str a0, .int n, .int t, .str "open", .int b, .int e, .ref r1, .ref r2, .ref r3, .ref e1, .ref e2]) hr
   have S8 := (s5.trans u1).trans (u2.trans u3)
   exact k r ⟨a0, n, t, "open", some (b, e), _, _, _, [], []⟩ _ (S4.trans S8) ⟨⟨r1, r2, r3, e1, e2, Ae, S8 _ _ (s4 _ _ (s3 _ _ h2)), S8 _ _ (s4 _ _ h3), S8 _ _ h4, u3 _ _ (u2 _ _ Ae), u3 _ _ Ae⟩, Nat.le_trans (E3 _ _ _) hhs, Nat.le_trans (E3 _ _ _) hhs, Nat.le_trans (E3 _ _ _) hhs, Nat.zero_le _, Nat.zero_le _⟩ ⟨wf, λ h _ => (hwf h).2, .inl ⟨hno rfl, rfl⟩⟩
  |
   cons c cs =>
   refine ⟨_, rfl, _, .inl ⟨_, SqL.of hC, rfl⟩, Ff ?_⟩
   have hL5 := hL.up hS5
   refine ⟨_, rfl, C, c, cs, λ z z' => ltL (codeOf ms z').2 (codeOf ms z).2, rfl, hC, ?_, λ H6 s6 => ?_⟩
   ·
    intro z hz z' hz' H' s'
    obtain ⟨x, hx, rfl, _, _⟩ := hcs z hz
    obtain ⟨x', hx', rfl, _, _⟩ := hcs z' hz'
    obtain ⟨y, hy, ey, hcode⟩ := code_at hx
    obtain ⟨y', hy', ey', hcode'⟩ := code_at hx'
    have e1 : y.1 = x.1 := LtAt.inj (by rw [← ey]; exact hL.ok y hy) (hL.ok x hx)
    have e2 : y'.1 = x'.1 := LtAt.inj (by rw [← ey']; exact hL.ok y' hy') (hL.ok x' hx')
    show GtV _ H' _ _ (ltL (codeOf ms (.ref x'.2)).2 (codeOf ms (.ref x.2)).2)
    rw [hcode, hcode', e1, e2]
    exact ck (hu2 hr) ((hL5.ok x hx).up s').nk ((hL5.ok x' hx').up s').nk (Lt.ok _ _)
   ·
    have hmx : ∃ x ∈ ms, Ga (λ z z' => ltL (codeOf ms z').2 (codeOf ms z).2) c cs = V.ref x.2 /\ x.1.kind = "close" /\ x.1.turn = t := by
     rcases M9 (gt := λ z z' => ltL (codeOf ms z').2 (codeOf ms z).2) (xs := cs) (b := c) with e | e
     · rw [e]; exact hcs c (List.mem_cons_self ..)
     · exact hcs _ (List.mem_cons_of_mem _ e)
    obtain ⟨⟨lt, p⟩, hx, emx, hk, htn⟩ := hmx
    rw [emx]
    have hlt := (hL5.ok _ hx).up s6
    cases lt with
    | bid => exact absurd (show Str.ofString "bid" = Str.ofString "close" from hk) (by decide)
    | off => exact absurd (show Str.ofString "off" = Str.ofString "close" from hk) (by decide)
    | ans => exact absurd (show Str.ofString "answer" = Str.ofString "close" from hk) (by decide)
    | close a1 n1 t1 hs1 =>
    obtain ⟨zs, hp, q1, rfl, hq1⟩ := hlt
    refine ⟨p, _, _, _, rfl, rfl, SqT.of hp, Bb (j := 4) rfl, ?_⟩
    have h26 := s6 _ _ (s5 _ _ (s4 _ _ (s3 _ _ h2)))
    refine ⟨_, rfl, r1, rfl, ⟨_, SqT.of h26⟩, Bl (Hr (SqT.of h26)) (fw hs1) (λ v => v) (by rw [List.length_map]; exact Nat.le_trans (Nat.le_trans (E3 _ _ _) hhs) (by decide)) (λ x hx H' sm R hR => ?_) (λ x hx _ H' sm R hR => ⟨_, rfl, hR H' (Same.refl _)⟩) (λ D2 H7 s7 hD20 hD2 => ?_)⟩
    ·
     obtain ⟨tx, htx, rfl⟩ := List.mem_map.mp hx
     refine ⟨_, rfl, _, rfl, q1, _, rfl, .inr (SqT.of (sm _ _ hq1)), rfl, C7 hs1, _, rfl, ?_⟩
     rw [Fm]
     exact hR _ (Same.refl _)
    refine ⟨D2, _, rfl, .inl ⟨SqL.of hD2, λ rl hrl => ?_⟩⟩
    rw [U9] at hD2 ⊢
    have url := Ag (o := .tup (((Ky wf (some (Str.ofString "yes")) hs).filter λ h => !decide (h ∈ hs1)).map V.str)) hrl
    have hB8 := url _ _ (s7 _ _ (s6 _ _ hB5))
    refine ⟨_, rfl, B, _, _, _, rfl, rfl, SqT.of hB8, de, _, rfl, B, _, _, _, rfl, rfl, SqT.of hB8, j5, _, rfl, _, rfl, B, _, _, _, rfl, rfl, SqT.of hB8, Bb (j := 4) rfl, _, rfl, B, _, _, _, rfl, rfl, SqT.of hB8, Bb (j := 5) rfl, _, rfl, _, rfl, _, rfl, _, rfl, _, rfl, (by show 11 <= sizeLine; decide), λ r hr => ?_⟩
    have ur := Ag (o := .tup [.str a0, .int n, .int t, .str "closed", .int b, .int e, .ref r1, .ref r2, .ref r3, .ref q1, .ref rl]) hr
    have S9 := ((s5.trans s6).trans s7).trans (url.trans ur)
    obtain rfl : t1 = t := htn
    exact k r ⟨a0, n, _, "closed", some (b, e), _, _, _, hs1, _⟩ _ (S4.trans S9) ⟨⟨r1, r2, r3, q1, rl, Ae, S9 _ _ (s4 _ _ (s3 _ _ h2)), S9 _ _ (s4 _ _ h3), S9 _ _ h4, ur _ _ (url _ _ (s7 _ _ hq1)), ur _ _ Ae⟩, Nat.le_trans (E3 _ _ _) hhs, Nat.le_trans (E3 _ _ _) hhs, Nat.le_trans (E3 _ _ _) hhs, (hz _ hx).2.1, Nat.le_trans (List.length_filter_le _ _) (Nat.le_trans (E3 _ _ _) hhs)⟩ ⟨wf, λ h _ => (hwf h).2, .inr ⟨a1, n1, hs1, List.mem_map_of_mem (f := λ x : Lt × Addr => x.1) hx, rfl⟩⟩
theorem Jh : Ax ["self", "hand", "held"] ["self", "hand"] (Ac B2) := ⟨rfl, rfl, rfl, by decide +kernel, rfl, by decide +kernel, by decide +kernel⟩
theorem Je (T : Txt K mg a) : FnOk P w K mg base CX0 true 2 a.Ez a.E4 ["self", "hand"] (F6 P w a.An) := by
 refine T.Qe.ok Jh (λ vs H Q E h => ?_) (λ cdv A outer s H vs Q E hr h => ?_)
 · obtain ⟨x, k0, m0, t0, ms, bs, ts, h0, rfl, _⟩ := h; rfl
 ·
  obtain ⟨x, k0, m0, t0, ms, bs, ts, h0, rfl, hT, tl, h64, k⟩ := h
  refine ⟨_, (Af (Dy (i0 := 2) Jh.nd rfl rfl (N := ["told", "hand"]) (cap := [none, some 1]) (by show Ay (Ac B2) _ ["self", "hand", "held"] _ _; exact ⟨rfl, by decide +kernel, by decide +kernel, by decide +kernel, by decide +kernel, rfl, by decide +kernel⟩) rfl (Bx (K := K) rfl (R7 (D := λ C R => (C = a.An /\ R = λ x vs H Q => (Ka P w a.An) (x :: (vs ++ ([] : List V))) H Q E0)) (pv 0) (by rintro C R ⟨rfl, rfl⟩ <;> first | exact ⟨T.Cf, _, _, _, _, _, _, _, _, _, _, T.Pp, (Pb T).mono (by decide), hr, T.Q9, .nil, Bd, λ _ _ _ _ _ h => h⟩))) (λ C s H fp => ⟨(Bh (i := 0) (by show (["told", "hand"] : List Str).Nodup; decide +kernel) rfl (Or.inl rfl) (.inr rfl)), (Es (De (Ak ((Wd T).mono (by decide)) hr rfl T.Yo T.Q7.kp T.Y1 .nil Bd (Aa (pv 0) (Aa (pv 1) Ad))))), (pv 0)⟩))
   (Ai (As (Aj (Fv (hu2 hr)) rfl T.Ea (by decide +kernel) (Aa (B8 (N := ["told"]) (cap := [none]) (by show Ay (Ac B2) _ ["self", "hand", "held"] _ _; exact ⟨rfl, by decide +kernel, by decide +kernel, by decide +kernel, by decide +kernel, rfl, by decide +kernel⟩) rfl (Bx (K := K) rfl (pv 2)) (λ C s H fp => ⟨(Bh (i := 0) (by show (["told"] : List Str).Nodup; decide +kernel) rfl (Or.inl rfl) (.inr rfl)), F5, (Bp (Aa (Ap (Ah (K := K) rfl) (pv 0) Ab (λ _ _ => rfl)) (Aa (Ap (Ah (K := K) rfl) (pv 0) Ab (λ _ _ => rfl)) (Aa (Ap (Ah (K := K) rfl) (pv 0) Ab (λ _ _ => rfl)) (Aa (Ap (Ah (K := K) rfl) (pv 0) Ab (λ _ _ => rfl)) Ad)))))⟩)) Ad))))), ?_⟩
  obtain ⟨dx, hx⟩ := hT.ins
  refine ⟨_, rfl, x, _, dx, _, _, rfl, hx, rfl, ⟨rfl, rfl⟩, x, k0, m0, t0, ms, bs, ts, rfl, hT, tl, h64, λ D rs H1 s1 hD0 hD htd hto hrl => ⟨D, rfl, ⟨_, SqL.of hD⟩, ?_⟩⟩
  refine Bl (Bz (K := K) (SqL.of hD)) (tdG false (Hx h0) rs) (λ v => v) (by rw [List.length_map]; omega) ?_ (λ x _ _ H' _ R hR => ⟨_, rfl, hR H' (Same.refl _)⟩) (λ D2 H2 s2 hD20 hD2 => ?_)
  ·
   intro v hv H' sm R hR
   obtain ⟨r, hr, rfl⟩ := List.mem_map.mp hv
   rw [Ve htd hr] at hR
   exact ⟨_, rfl, _, rfl, r.2, r.1, h0, rfl, (htd r hr).up sm, λ H'' s'' => ⟨_, rfl, hR H'' s''⟩⟩
  rw [h8 htd] at hD2
  have hfl : (rs.filter λ x => Hx h0 x.1).length < 64 := Nat.lt_of_le_of_lt (List.length_filter_le _ _) hrl
  have hin : ∀ x ∈ rs.filter (λ x => Hx h0 x.1), x ∈ rs /\ Hx h0 x.1 = true := λ x hx => List.mem_filter.mp hx
  have hfe : ((rs.filter λ x => Hx h0 x.1).map λ x => Pw x.1) = ((rs.map (·.1)).filter (Hx h0)).map Pw := by
   rw [List.filter_map, List.map_map]
   rfl
  generalize (rs.filter λ x => Hx h0 x.1) = al at hD2 hfl hin hfe
  refine ⟨_, rfl, D2, rfl, ⟨_, SqL.of hD2⟩, ?_⟩
  refine Kx (Bz (K := K) (SqL.of hD2)) (λ _ => true) (RlQ rs) (λ _ _ _ _ tp ⟨q, e1, e2⟩ => ⟨q, e1, tp _ _ e2⟩) (by rw [List.length_map]; omega) (λ x _ H' _ R hR => hR H' (Same.refl _)) ?_ (λ D3 H3 ys s3 hD30 hD3 hP => ?_)
  ·
   intro v hv _ H' sm R hR
   obtain ⟨r, hr, rfl⟩ := List.mem_map.mp hv
   obtain ⟨hr1, hb⟩ := hin r hr
   have hbe := Ye (hto.is_ r.1 (List.mem_map_of_mem hr1)) hb
   obtain ⟨q1, q2, q3, q4, q5, e0, _⟩ := ((htd r hr1).up (s2.trans sm)).at_
   rw [hbe] at e0
   refine ⟨_, rfl, r.2, _, _, _, rfl, rfl, SqT.of e0, Bb (j := 4) rfl, _, rfl, r.2, _, _, _, rfl, rfl, SqT.of e0, Bb (j := 5) rfl, _, rfl, r.2, _, _, _, rfl, rfl, SqT.of e0, Kq, _, rfl, r.2, _, _, _, rfl, rfl, SqT.of e0, de, (by show 4 <= sizeLine; decide), λ q hq => hR (.ref q) _ (Ag hq) ⟨q, rfl, ?_⟩⟩
   rw [Ve htd hr1]
   exact Ae
  rw [List.filter_eq_self.mpr (λ _ _ => rfl)] at hP
  obtain ⟨zs, rfl, hzq, hze⟩ := d5 htd (λ x hx => (hin x hx).1) hP
  have hzl : zs.length = al.length := by have := congrArg List.length hze; rw [List.length_map, List.length_map] at this; exact this
  rw [hfe] at hze
  have SS := (s1.trans s2).trans s3
  refine ⟨D3, zs.map (λ z => (qn z.1, z.2)), rfl, by rw [List.map_map]; exact hD3, λ x hx => ?_, by rw [List.length_map]; omega, .inr λ x hx => ?_, λ x hx y hy => ?_, λ D4 qs hD4 hpm hso => ?_⟩
  ·
   obtain ⟨z, hz, rfl⟩ := List.mem_map.mp hx
   exact m5 (hzq z hz)
  ·
   obtain ⟨z, hz, rfl⟩ := List.mem_map.mp hx
   exact ⟨_, _, rfl⟩
  ·
   obtain ⟨z, hz, rfl⟩ := List.mem_map.mp hx
   obtain ⟨u, hu, rfl⟩ := List.mem_map.mp hy
   exact my _ _
  obtain ⟨zs', pz, rfl, hho⟩ := holds_of hto hze hpm hso
  have hzl' := pz.length_eq
  have u4 := Ag (o := .lst (zs'.map λ z => V.ref z.2)) hD4
  have eL : ((zs'.map λ z => (qn z.1, z.2)).map λ x => V.ref x.2) = zs'.map λ z => V.ref z.2 := by rw [List.map_map]; rfl
  rw [eL]
  exact k D4 zs' _ (SS.trans u4) (P1 SS hD4) Ae (λ z hz => u4 _ _ (hzq z (pz.mem_iff.mp hz))) hho (by omega)
theorem Fg : Ax ["_law_cell", "_law_many"] ["_law_cell"] (Ac B4) := ⟨rfl, rfl, rfl, by decide +kernel, rfl, by decide +kernel, by decide +kernel⟩
theorem Mf (T : Txt K mg a) : FnOk P w K mg base CX0 true 2 a.Eh a.Eg ["_law_cell"] (Na) := by
 refine T.Jg.ok Fg (λ vs H Q E h => ?_) (λ cdv A outer s H vs Q E hr h => ?_)
 · obtain ⟨c, rfl, _⟩ := h; rfl
 ·
  obtain ⟨c, rfl, k⟩ := h
  refine ⟨_, (Af (A9 (i := 1) Fg.nd rfl (Or.inl rfl) (Bf Cr Ab (Bf En (pv 0) Ab)))
   (Et (Bv (Am Cg (Bf En (Bf Hz (pv 0) Ab) Ab) Ab (Ar _)) (Ai (A9 (i := 1) Fg.nd rfl (Or.inl rfl) (Bf Cr Ab (Bf En (Bf Hz (pv 0) Ab) Ab)))) Aw)
   (Ai (As (Aj Qv rfl T.Ea (by decide +kernel) (Aa (B8 (N := ["_law_k", "_law_cell"]) (cap := [none, some 0]) (by show Ay (Ac B4) _ ["_law_cell", "_law_many"] _ _; exact ⟨rfl, by decide +kernel, by decide +kernel, by decide +kernel, by decide +kernel, rfl, by decide +kernel⟩) rfl (Kd rfl T.Hm (Aa (pv 1) Ad)) (λ C s H fp => ⟨(Bh (i := 0) (by show (["_law_k", "_law_cell"] : List Str).Nodup; decide +kernel) rfl (Or.inl rfl) (.inr rfl)), F5, (Ak ((N9 T).mono (by decide)) hr rfl T.Qk T.J1.kp T.P4 .nil Bd (Aa (pv 0) (Aa (Bf Hz (pv 1) Ab) Ad)))⟩)) Ad)))))), ?_⟩
  have b0 : 0 <= c % 6 := Int.emod_nonneg _ (by decide)
  have b1 : c % 6 < 6 := Int.emod_lt_of_pos _ (by decide)
  refine ⟨_, rfl, _, _, rfl, rfl, (by show (0 : Int) < 6; decide), _, _, rfl, rfl, ?_⟩
  refine ⟨λ σ H' => H' = H /\ ∃ n : Int, 2 <= n /\ n <= 22 /\ σ = [some (.int c), some (.int n)], ?_, ?_⟩
  ·
   refine ⟨_, rfl, _, _, rfl, rfl, ⟨by decide, by decide⟩, _, _, rfl, rfl, (by show (0 : Int) < 6; decide), rfl, _, rfl, ?_⟩
   refine Bt (λ _ => ?_) (λ _ => ⟨rfl, _, by omega, by omega, rfl⟩)
   have d0 : 0 <= c / 36 % 2 := Int.emod_nonneg _ (by decide)
   have d1 : c / 36 % 2 < 2 := Int.emod_lt_of_pos _ (by decide)
   exact ⟨_, rfl, _, _, rfl, rfl, ⟨by decide, by decide⟩, _, _, rfl, rfl, (by show (0 : Int) < 2; decide), _, _, rfl, rfl, rfl, _, by omega, by omega, rfl⟩
  rintro _ H1 ⟨e1, n, n0, n1, rfl⟩
  obtain rfl := e1.symm
  refine ⟨_, rfl, n, rfl, by omega, by omega, ?_⟩
  refine Bl (Gh 0 n.toNat H) (λ _ => true) (nmG (c / 6)) ?_ (λ x _ H' _ R hR => hR H' (Same.refl _)) ?_ (λ D H2 s2 hD0 hD => ?_)
  ·
   rw [List.length_map, List.length_range]
   omega
  ·
   intro x hx _ H' sm R hR
   obtain ⟨j, hj, rfl⟩ := List.mem_map.mp hx
   have hj2 := List.mem_range.mp hj
   refine ⟨_, rfl, _, rfl, _, _, rfl, rfl, ⟨by decide, by decide⟩, j, _, (by rw [show (0 + (j : Int)) = (j : Int) by omega]; rfl), by omega, λ H3 s3 => ?_⟩
   have q := hR H3 s3
   rw [show nmG ((c / 6)) (V.int (0 + (j : Int))) = .str (nmT ((c / 6)) j) from by show V.str (nmT ((c / 6)) (0 + (j : Int)).toNat) = _; rw [show (0 + (j : Int)).toNat = j by omega]] at q
   exact q
  rw [List.filter_eq_self.mpr (λ _ _ => rfl), dh] at hD
  refine ⟨D, _, rfl, hD, by rw [List.length_map, List.length_range]; omega, λ D2 ms hD2 hpm hsr => ?_⟩
  exact k D2 ms _ (s2.trans (Ag hD2)) Ae (iu (n := n.toNat) (by omega) (by omega) hpm hsr)
theorem Gs : Ax ["_law_names", "_law_asker", "_law_seed", "_law_k", "_law_least", "_law_others", "_law_found"] ["_law_names", "_law_asker", "_law_seed", "_law_k", "_law_least"] (Ac C4) := ⟨rfl, rfl, rfl, by decide +kernel, rfl, by decide +kernel, by decide +kernel⟩
theorem Mw (T : Txt K mg a) : FnOk P w K mg base CX0 true 2 a.Iw a.Jb ["_law_names", "_law_asker", "_law_seed", "_law_k", "_law_least"] (Ui) := by
 refine T.K0.ok Gs (λ vs H Q E h => ?_) (λ cdv A outer s H vs Q E hr h => ?_)
 · obtain ⟨L, ns, a, s, k, m, rfl, _⟩ := h; rfl
 ·
  obtain ⟨L, ns, a0, sd, kk, m, rfl, hL, hN, k0, k1, m0, m1, k⟩ := h
  refine ⟨_, (Af (A9 (i := 5) Gs.nd rfl (Or.inr rfl) (B8 (N := ["_law_name", "_law_asker"]) (cap := [none, some 1]) (by show Ay (Ac C4) _ ["_law_names", "_law_asker", "_law_seed", "_law_k", "_law_least", "_law_others", "_law_found"] _ _; exact ⟨rfl, by decide +kernel, by decide +kernel, by decide +kernel, by decide +kernel, rfl, by decide +kernel⟩) rfl (Bx (K := K) rfl (pv 0)) (λ C s H fp => ⟨(Bh (i := 0) (by show (["_law_name", "_law_asker"] : List Str).Nodup; decide +kernel) rfl (Or.inl rfl) (.inr rfl)), (Es (Am Pf (pv 0) (pv 1) (Ar _))), (pv 0)⟩)))
   (Af (Dy (i0 := 6) Gs.nd rfl rfl (N := ["_law_at", "_law_others", "_law_seed", "_law_k"]) (cap := [none, some 5, some 2, some 3]) (by show Ay (Ac C4) _ ["_law_names", "_law_asker", "_law_seed", "_law_k", "_law_least", "_law_others", "_law_found"] _ _; exact ⟨rfl, by decide +kernel, by decide +kernel, by decide +kernel, by decide +kernel, rfl, by decide +kernel⟩) rfl (Kd rfl T.Hm (Aa (Aj (Ao (K := K) rfl) rfl T.Di (by decide +kernel) (Aa (pv 5) Ad)) Ad)) (λ C s H fp => ⟨(Bh (i := 0) (by show (["_law_at", "_law_others", "_law_seed", "_law_k"] : List Str).Nodup; decide +kernel) rfl (Or.inl rfl) (.inr rfl)), (Es (Am Ts (Ak ((Bc T).mono (by decide)) hr rfl T.Bi T.Be.kp T.Bj .nil Bd (Aa (pv 2) (Aa (Bf Cr (Bf Cr (pv 3) Ab) (Bf Gj Ab (pv 0))) (Aa Ab Ad)))) Ab (Ar _))), (Ap (By (K := K) rfl) (pv 1) (pv 0) (λ _ _ => rfl))⟩))
   (Et (Bv (Am Tq (Aj (Ao (K := K) rfl) rfl T.Di (by decide +kernel) (Aa (pv 6) Ad)) (pv 4) (Ar _)) (Ai (A9 (i := 6) Gs.nd rfl (Or.inl rfl) (pv 5))) Aw)
   (Ai (As (Df (Bu (K := K) rfl) rfl T.Co (by decide +kernel) (Aa (Iy (Z8 (K := K) rfl) (pv 6) X1 (F3 Ab)) Ad))))))), ?_⟩
  refine ⟨_, rfl, L, rfl, ⟨_, SqL.of hL⟩, ?_⟩
  refine Bl (Bz (K := K) (SqL.of hL)) (neF a0) (λ v => v) (by rw [List.length_map]; have := hN.hi; omega) ?_ (λ x _ _ H' _ R hR => ⟨_, rfl, hR H' (Same.refl _)⟩) (λ D H1 s1 hD0 hD => ?_)
  ·
   intro x hx H' sm R hR
   obtain ⟨t, ht, rfl⟩ := List.mem_map.mp hx
   refine ⟨_, rfl, _, rfl, rfl, _, rfl, ?_⟩
   have q := hR H' (Same.refl _)
   rw [show neF a0 (V.str t) = (!decide (t = a0)) from rfl] at q
   rw [show (!decide (V.str t = V.str a0)) = (!decide (t = a0)) from congrArg _ (decide_eq_decide.mpr (by rw [V.str.injEq]))]
   exact q
  rw [U4] at hD
  obtain ⟨os, hos⟩ : ∃ os : List Str, os = ns.filter λ t => !decide (t = a0) := ⟨_, rfl⟩
  rw [← hos] at hD
  have hon : ∀ t ∈ os, NM t = true := λ t ht => hN.nm t (by rw [hos] at ht; exact (List.mem_filter.mp ht).1)
  have hor : F7 os = true := Vn hN.rise (by rw [hos]; exact List.filter_sublist)
  have hoa : ¬ a0 ∈ os := λ z => by rw [hos] at z; have := (List.mem_filter.mp z).2; simp at this
  have hpos := Vj hN.lo hN.nd a0
  rw [← hos] at hpos
  have hol : os.length <= 22 := Nat.le_trans (by rw [hos]; exact List.length_filter_le _ _) hN.hi
  refine ⟨_, rfl, D, _, rfl, .inl (SqL.of hD), (os.length : Int), by rw [List.length_map], by omega, by omega, ?_⟩
  refine Bl (Gh 0 _ H1) (rh sd kk) (tw os) (by rw [List.length_map, List.length_range]; omega) ?_ ?_ (λ D2 H2 s2 hD20 hD2 => ?_)
  ·
   intro x hx H' sm R hR
   obtain ⟨j, hj, rfl⟩ := List.mem_map.mp hx
   have hj2 := List.mem_range.mp hj
   refine ⟨_, rfl, _, rfl, _, _, rfl, rfl, _, rfl, _, _, rfl, rfl, .inl ⟨by decide, by decide⟩, _, _, rfl, rfl, _, _, _, rfl, by omega, by omega, by decide, λ v _ _ hv => ⟨_, _, rfl, rfl, _, rfl, ?_⟩⟩
   have q := hR H' (Same.refl _)
   rw [hv]
   exact q
  ·
   intro x hx _ H' sm R hR
   obtain ⟨j, hj, rfl⟩ := List.mem_map.mp hx
   have hj2 := List.mem_range.mp hj
   have hj3 : j < os.length := by omega
   have et : atI (os.map V.str) (0 + (j : Int)) = some (.str (os.getD (0 + (j : Int)).toNat "")) := by rw [show (0 + (j : Int)).toNat = j by omega, show (0 + (j : Int)) = ((j : Nat) : Int) by omega]; exact getD_at hj3
   exact ⟨_, rfl, _, rfl, D, _, _, _, rfl, rfl, SqL.of (sm _ _ hD), et, hR _ (Same.refl _)⟩
  have hfs := gd os sd kk
  rw [ao] at hD2
  refine ⟨λ σ H' => H' = H2 /\ ∃ (F : Addr) (gs : List Str), H2 F = some (.lst (gs.map V.str)) /\ gs.Sublist os /\ m <= gs.length /\ gs = (if ((dq os sd kk).length : Int) < m then os else dq os sd kk) /\ σ = [some (.ref L), some (.str a0), some (.int sd), some (.int kk), some (.int m), some (.ref D), some (.ref F)], ?_, ?_⟩
  ·
   refine ⟨_, rfl, D2, _, rfl, .inl (SqL.of hD2), _, rfl, _, _, rfl, rfl, _, rfl, ?_⟩
   rw [List.length_map]
   refine Bt (λ z => ⟨_, rfl, rfl, D, os, s2 _ _ hD, List.Sublist.refl _, by omega, by rw [if_pos (of_decide_eq_true z)], rfl⟩) (λ z => ⟨rfl, D2, _, hD2, hfs, by have z' : ¬ (((dq os sd kk).length : Nat) : Int) < m := λ y => z (decide_eq_true y); omega, by rw [if_neg (λ y => z (decide_eq_true y))], rfl⟩)
  rintro _ H3 ⟨e3, F, gs, hF, hgs, hgm, hge, rfl⟩
  obtain rfl := e3.symm
  refine ⟨_, rfl, _, rfl, F, _, rfl, SqL.of hF, λ l hl => ?_⟩
  have el : Wx (gs.map V.str) none (some 20) = (gs.take 20).map V.str := r9 gs
  rw [el]
  refine ⟨l, _, rfl, .inl ⟨SqL.of Ae, λ r hr0 => ?_⟩⟩
  have hsub : (gs.take 20).Sublist os := (List.take_sublist _ _).trans hgs
  exact k r _ _ (((s1.trans s2).trans (Ag hl)).trans (Ag hr0)) Ae (V1 (by rw [List.length_take]; omega) (by rw [List.length_take]; omega) (λ t ht => hon t (hsub.subset ht)) (Vn hor hsub) (λ z => hoa (hsub.subset z))) (by rw [hge, hos]; rfl)
theorem B0 : Ax ["_law_seed", "_law_names", "_law_asker", "_law_number", "_law_turn", "_law_cell", "_law_others", "_law_hand", "_law_again", "_law_key_here"] ["_law_seed", "_law_names", "_law_asker", "_law_number", "_law_turn", "_law_cell"] (Ac Bw) := ⟨rfl, rfl, rfl, by decide +kernel, rfl, by decide +kernel, by decide +kernel⟩
theorem Lw (T : Txt K mg a) : FnOk P w K mg base CX0 true 2 a.C6 a.Dj ["_law_seed", "_law_names", "_law_asker", "_law_number", "_law_turn", "_law_cell"] (gj (λ r => ∃ c : Int, r = [.int c])) := by
 refine T.Ia.ok B0 (λ vs H Q E h => ?_) (λ cdv A outer s H vs Q E hr h => ?_)
 · obtain ⟨L, ns, a0, sd, n, t, r, rfl, ⟨c, rfl⟩, _⟩ := h; rfl
 ·
  obtain ⟨L, ns, a0, sd, n, t, r, rfl, ⟨c, rfl⟩, hL, hN, ha, n0, n1, t0, t1, k⟩ := h
  refine ⟨_, (Af (Dy (i0 := 6) B0.nd rfl rfl (N := ["_law_name", "_law_asker"]) (cap := [none, some 2]) (by show Ay (Ac Bw) _ ["_law_seed", "_law_names", "_law_asker", "_law_number", "_law_turn", "_law_cell", "_law_others", "_law_hand", "_law_again", "_law_key_here"] _ _; exact ⟨rfl, by decide +kernel, by decide +kernel, by decide +kernel, by decide +kernel, rfl, by decide +kernel⟩) rfl (Bx (K := K) rfl (pv 1)) (λ C s H fp => ⟨(Bh (i := 0) (by show (["_law_name", "_law_asker"] : List Str).Nodup; decide +kernel) rfl (Or.inl rfl) (.inr rfl)), (Es (Am Pf (pv 0) (pv 1) (Ar _))), (pv 0)⟩))
   (Af (A9 (i := 7) B0.nd rfl (Or.inl rfl) (Ap (By (K := K) rfl) (pv 6) (Ak ((Bc T).mono (by decide)) hr rfl T.Bi T.Be.kp T.Bj .nil Bd (Aa (pv 5) (Aa Ab (Aa (Aj (Ao (K := K) rfl) rfl T.Di (by decide +kernel) (Aa (pv 6) Ad)) Ad)))) (λ _ _ => rfl)))
   (Af (A9 (i := 8) B0.nd rfl (Or.inl rfl) (Ak ((Bc T).mono (by decide)) hr rfl T.Bi T.Be.kp T.Bj .nil Bd (Aa (pv 5) (Aa Ab (Aa Ab Ad)))))
   (Et (Bv (Am Cg (Ak ((Bc T).mono (by decide)) hr rfl T.Bi T.Be.kp T.Bj .nil Bd (Aa (pv 5) (Aa Ab (Aa Ab Ad)))) Ab (Ar _)) (Ai (A9 (i := 8) B0.nd rfl (Or.inl rfl) (Bf Cr (Bf Vh Ab Ab) (pv 8)))) Aw)
   (Af (A9 (i := 9) B0.nd rfl (Or.inl rfl) (Bf Cr (Bf Cr (Ak ((Ld T).mono (by decide)) hr rfl T.Mq T.Kb.kp T.Mm .nil Bd (Aa (pv 0) (Aa (pv 1) (Aa (pv 2) (Aa (pv 3) (Aa (pv 4) Ad)))))) (Bf Gj Ab (O8 PySem.F.plainAttrs_list PySem.F.slot_list_index PySem.F.type_list_index Tg (pv 1) (Aa (pv 7) Ad)))) (Bf Gj (pv 8) Ab)))
   (Ai (As (Bp (Aa Bm (Aa (pv 2) (Aa (pv 3) (Aa (pv 4) (Aa (pv 7) (Aa (pv 8) (Aa (Ap (By (K := K) rfl) (F1 (Ig [.str "yes", .str "no", .str "yes"] (by decide +kernel))) (Ak ((Bc T).mono (by decide)) hr rfl T.Bi T.Be.kp T.Bj .nil Bd (Aa (pv 9) (Aa Ab (Aa Ab Ad)))) (λ _ _ => rfl)) Ad))))))))))))))), ?_⟩
  have hna := hN.nm a0 ha
  refine ⟨_, rfl, L, rfl, ⟨_, SqL.of hL⟩, ?_⟩
  refine Bl (Bz (K := K) (SqL.of hL)) (neF a0) (λ v => v) (by rw [List.length_map]; have := hN.hi; omega) ?_ (λ x _ _ H' _ R hR => ⟨_, rfl, hR H' (Same.refl _)⟩) (λ D H1 s1 hD0 hD => ?_)
  ·
   intro x hx H' sm R hR
   obtain ⟨t, ht, rfl⟩ := List.mem_map.mp hx
   refine ⟨_, rfl, _, rfl, rfl, _, rfl, ?_⟩
   have q := hR H' (Same.refl _)
   rw [show neF a0 (V.str t) = (!decide (t = a0)) from rfl] at q
   rw [show (!decide (V.str t = V.str a0)) = (!decide (t = a0)) from congrArg _ (decide_eq_decide.mpr (by rw [V.str.injEq]))]
   exact q
  rw [U4] at hD
  obtain ⟨os, hos⟩ : ∃ os : List Str, os = ns.filter λ t => !decide (t = a0) := ⟨_, rfl⟩
  have hpos := Vj hN.lo hN.nd a0
  rw [← hos] at hD hpos
  have hon : ∀ t ∈ os, t ∈ ns := λ t ht => by rw [hos] at ht; exact (List.mem_filter.mp ht).1
  replace hL := s1 _ _ hL
  refine ⟨_, rfl, _, rfl, _, rfl, D, _, rfl, .inl (SqL.of hD), _, _, _, rfl, by decide, by decide, (by rw [List.length_map]; omega), λ v v0 v1 _ => ?_⟩
  rw [List.length_map] at v1
  obtain ⟨hd, hhd, et⟩ := Kl (ts := os) v0 v1
  have hnd := hN.nm hd (hon hd hhd)
  have hne : hd ≠ a0 := λ z => by rw [hos] at hhd; have := (List.mem_filter.mp hhd).2; simp [z] at this
  refine ⟨D, _, _, _, rfl, rfl, SqL.of hD, et, ?_⟩
  refine ⟨_, rfl, _, _, _, rfl, by decide, by decide, by decide, λ g g0 g1 _ => ?_⟩
  refine ⟨λ σ H' => H' = H1 /\ ∃ g : Int, 0 <= g /\ g <= 10 ^ 10 /\ σ = [some (.int sd), some (.ref L), some (.str a0), some (.int n), some (.int t), some (.int c), some (.ref D), some (.str hd), some (.int g), none], ?_, ?_⟩
  ·
   refine ⟨_, rfl, _, _, _, rfl, by decide, by decide, by decide, λ u _ _ _ => ⟨rfl, _, rfl, Bt (λ _ => ?_) (λ _ => ⟨rfl, g, g0, by omega, rfl⟩)⟩⟩
   refine ⟨_, _, rfl, rfl, ⟨by decide, by decide, by decide⟩, _, rfl, _, _, rfl, rfl, rfl, _, ?_, ?_, rfl⟩
   ·
    have : (10 : Int) ^ (9 : Int).toNat = 1000000000 := by decide
    rw [this]
    omega
   ·
    have : (10 : Int) ^ (9 : Int).toNat = 1000000000 := by decide
    rw [this]
    omega
  rintro _ H2 ⟨e2, g, g0, g1, rfl⟩
  obtain rfl := e2.symm
  refine ⟨_, rfl, _, rfl, _, rfl, _, rfl, _, rfl, L, ns, a0, sd, n, t, rfl, hL, hN, ha, λ key _ => ⟨_, rfl, .inl ⟨rfl, _, SqL.of hL⟩, _, rfl, L, ns, hd, rfl, rfl, SqL.of hL, hon hd hhd, ⟨_, _, rfl, rfl, .inl ⟨by decide, by decide⟩, _, _, rfl, rfl, _, rfl, _, _, rfl, rfl, .inr ⟨by decide, by decide⟩, _, _, rfl, rfl, ?_⟩⟩⟩
  refine ⟨_, rfl, _, rfl, _, rfl, _, rfl, _, rfl, (by show 3 <= sizeLine; decide), λ l hl => ⟨_, rfl, _, _, _, rfl, by decide, by decide, by decide, λ y y0 y1 _ => ?_⟩⟩
  obtain ⟨yn, hyn, ey⟩ := Kl (ts := ["yes", "no", "yes"]) y0 y1
  refine ⟨l, _, _, _, rfl, rfl, SqL.of Ae, ey, (by show 7 <= sizeLine; decide), λ p hp => ?_⟩
  have big : (10 : Int) ^ 10 <= 10 ^ 18 := by decide
  have hyo := pb yn hyn
  exact k p (.ans a0 n t hd g yn) _ ((s1.trans (Ag hl)).trans (Ag hp)) ⟨_, Ae, rfl⟩ (mw hna n0 t0 hnd hne g0 (by simp only [List.mem_cons, List.not_mem_nil, or_false] at hyn; rcases hyn with h | h | h <;> first | exact .inl h | exact .inr h)) True.intro rfl
theorem F2 : Ax ["_law_letters", "_law_named", "_law_one"] ["_law_letters"] (Ac B9) := ⟨rfl, rfl, rfl, by decide +kernel, rfl, by decide +kernel, by decide +kernel⟩
theorem Nn (
      T : Txt K mg a) : FnOk P w K mg base CX0 true 2 a.E8 a.Ey ["_law_letters"] (Nx) := by
 refine T.Kh.ok F2 (λ vs H Q E h => ?_) (λ cdv A outer s H vs Q E hr h => ?_)
 · obtain ⟨L, ms, rfl, _⟩ := h; rfl
 ·
  obtain ⟨L, ms, rfl, hL, hz, h64, k⟩ := h
  refine ⟨_, (Af (A9 (i := 1) F2.nd rfl (Or.inl rfl) (F1 Ad))
   (Af (Oy PassesOwn.never rfl (Bx (K := K) rfl (pv 0)) (Bh (i := 2) F2.nd rfl (Or.inl rfl)) (Ai (Bv (PW.pt (Il (Am (E9 (K := K) rfl) (Ap (Ah (K := K) rfl) (pv 2) Ab (λ _ _ => rfl)) (F1 (Ig [.str "bid", .str "off"] (by decide +kernel))) (by with_unfolding_all rfl)) (Gv (Am (Ra (hu2 hr)) (Iy M0 (pv 2) (F3 Ab) (F3 Ab)) (pv 1) (by with_unfolding_all rfl))))) (Ai (Jm (O8 PySem.F.plainAttrs_list PySem.F.slot_list_append PySem.F.type_list_append Ep (pv 1) (Aa (Iy M0 (pv 2) (F3 Ab) (F3 Ab)) Ad)))) Aw)))
   (Ai (As (B8 (N := ["_law_pair", "_law_letters"]) (cap := [none, some 0]) (by show Ay (Ac B9) _ ["_law_letters", "_law_named", "_law_one"] _ _; exact ⟨rfl, by decide +kernel, by decide +kernel, by decide +kernel, by decide +kernel, rfl, by decide +kernel⟩) rfl (Bx (K := K) rfl (Aj (Fv (hu2 hr)) rfl T.Ea (by decide +kernel) (Aa (pv 1) Ad))) (λ C s H fp => ⟨(Bh (i := 0) (by show (["_law_pair", "_law_letters"] : List Str).Nodup; decide +kernel) rfl (Or.inl rfl) (.inr rfl)), F5, (Ak ((K9 T).mono (by decide)) hr rfl T.Lq T.Ht.kp T.Lu .nil Bd (Aa (pv 1) (Aa (Ap (Ah (K := K) rfl) (pv 0) Ab (λ _ _ => rfl)) (Aa (Ap (Ah (K := K) rfl) (pv 0) Ab (λ _ _ => rfl)) Ad))))⟩)))))), ?_⟩
  refine ⟨(by show 0 <= sizeLine; decide), λ Nm hNm => ?_⟩
  have uN := Ag (o := .lst []) hNm
  refine ⟨_, rfl, L, rfl, ⟨_, SqL.of (uN _ _ hL.at_)⟩, ?_⟩
  refine Lf (Bz (K := K) (SqL.of Uh)) (λ i σ H' => Same H H' /\ ∃ (ks : List KA) (y2 : Option V), H' Nm = some (.lst (ks.map λ q => V.ref q.2)) /\ (∀ q ∈ ks, H' q.2 = some (.tup ((mkK q.1).map kV))) /\ NmOk ms i (ks.map (·.1)) /\ ks.length <= i /\ σ = [some (.ref L), some (.ref Nm), y2]) ⟨uN, [], _, Ae, (λ _ z => nomatch z), ⟨List.nodup_nil, (λ x hx => nomatch hx), (λ _ z => nomatch z)⟩, Nat.le_refl _, rfl⟩ (λ _ _ _ _ h => M6 (h.1 _ _ hL.at_)) ?_ ?_
  ·
   rintro i v σ H1 hv ⟨s1, ks, y2, hN, hq, ok, hl, rfl⟩
   have hi : i < 64 := by have h1 := (List.getElem?_eq_some_iff.mp hv).1; rw [List.length_map] at h1; omega
   rw [List.getElem?_map] at hv
   obtain ⟨m, hmi, rfl⟩ := Option.map_eq_some_iff.mp hv
   have hm := List.mem_of_getElem? hmi
   obtain ⟨zs, hp, hv⟩ := (hL.ok m hm).up s1
   have h13 := rm hv
   obtain ⟨r, rfl⟩ := hv.four
   refine ⟨_, rfl, m.2, _, _, _, rfl, rfl, SqT.of hp, Kq, (by show 2 <= sizeLine; decide), λ l hl0 => ?_⟩
   have ul := Ag (o := .lst [.str "bid", .str "off"]) hl0
   refine ⟨l, _, rfl, .inl (SqL.of Ae), rfl, C7 ["bid", "off"], _, rfl, ?_⟩
   show (if inV (.str m.1.kind) ((["bid", "off"] : List Str).map V.str) = true then _ else _)
   rw [l4]
   have s2 := s1.trans ul
   replace hp := ul _ _ hp
   replace hN := ul _ _ hN
   replace hq := λ q hh => ul _ _ (hq q hh)
   clear hl0 s1
   generalize upd H1 l (.lst [.str "bid", .str "off"]) = H2 at *
   refine Bt (λ bz => ?_) (λ bz => ⟨s2, ks, _, hN, hq, ok.skip hmi (λ z => absurd z bz), by omega, rfl⟩)
   refine ⟨_, rfl, _, rfl, _, rfl, m.2, _, rfl, hp, λ p1 H3 s3 h3 => ?_⟩
   rw [h13 bz] at h3
   refine ⟨_, rfl, p1, Nm, mkN m.1.mk, kns ks, rfl, rfl, U1 h3, (by rw [V2]; exact s3 _ _ hN), λ x hx => ?_, _, rfl, ?_⟩
   ·
    obtain ⟨q, hqq, rfl⟩ := List.mem_map.mp hx
    exact U1 (s3 _ _ (hq q hqq))
   rw [iz]
   by_cases hin : m.1.mk ∈ ks.map (·.1)
   ·
    rw [decide_eq_true hin]
    exact Ff ⟨s2.trans s3, ks, _, s3 _ _ hN, λ q hh => s3 _ _ (hq q hh), ok.skip hmi (λ _ => hin), by omega, rfl⟩
   ·
    rw [decide_eq_false hin]
    refine Ij ⟨_, rfl, .inl ⟨rfl, _, SqL.of (s3 _ _ hN)⟩, _, rfl, _, rfl, _, rfl, m.2, _, rfl, s3 _ _ hp, λ p2 H4 s4 h4 => ?_⟩
    rw [h13 bz] at h4
    have hN4 := s4 _ _ (s3 _ _ hN)
    refine ⟨Nm, _, _, rfl, rfl, hN4, (by rw [List.length_map, sizeLine_eq]; omega), λ b o e => ?_, ks ++ [(m.1.mk, p2)], _, by rw [List.map_append]; exact Ae, λ q hh => ?_, by rw [List.map_append]; exact ok.add hmi bz hin, by rw [List.length_append]; show _ + 1 <= _; omega, rfl⟩
    ·
     rw [Al (Aq e hNm)]
     exact s4 _ _ (s3 _ _ (s2 _ _ e))
    ·
     have ht : H4 q.2 = some (.tup ((mkK q.1).map kV)) := by
      rcases List.mem_append.mp hh with hh | hh
      · exact s4 _ _ (s3 _ _ (hq q hh))
      · rw [List.mem_singleton] at hh; subst hh; exact h4
     rw [Al (Eo ht hN4 (λ z => nomatch z))]
     exact ht
  rintro σ H1 ⟨s1, ks, y2, hN, hq, ok, hl, rfl⟩
  rw [List.length_map] at ok hl
  refine ⟨_, rfl, Nm, kns ks, rfl, by rw [V2]; exact hN, λ x hx => ?_, by unfold kns; rw [List.length_map]; omega, .inl λ x hx => ?_, λ x hx y hy => ?_, λ D0 qs hD0 hpm hso => ⟨D0, rfl, ⟨_, SqL.of Ae⟩, ?_⟩⟩
  ·
   obtain ⟨q, hqq, rfl⟩ := List.mem_map.mp hx
   exact U1 (hq q hqq)
  ·
   obtain ⟨q, hqq, rfl⟩ := List.mem_map.mp hx
   exact ⟨_, _, rfl⟩
  ·
   obtain ⟨q, hqq, rfl⟩ := List.mem_map.mp hx
   obtain ⟨q', hqq', rfl⟩ := List.mem_map.mp hy
   exact mx _ _
  obtain ⟨ks', pk', rfl⟩ := G6 (f := λ (q : KA) => (mkN q.1, q.2)) hpm ks rfl
  have hkl := pk'.length_eq
  have eL : ((ks'.map λ q => (mkN q.1, q.2)).map λ x => V.ref x.2) = ks'.map λ q => V.ref q.2 := by rw [List.map_map]; rfl
  have hso2 : (ks'.map λ q => mkN q.1).Pairwise (λ x y => ltL y x = false) := by unfold keysOf at hso; rw [List.map_map] at hso; exact hso
  have ok2 : NmOk ms ms.length (ks'.map (·.1)) := ⟨(pk'.map (·.1)).nodup_iff.mpr ok.nd, λ x hx bx => (pk'.map (·.1)).mem_iff.mpr (ok.all x hx bx), λ z hz => ok.has z ((pk'.map (·.1)).mem_iff.mp hz)⟩
  have u0 := Ag (o := .lst ((ks'.map λ q => (mkN q.1, q.2)).map λ x => V.ref x.2)) hD0
  have hq2 : ∀ q ∈ ks', (upd H1 D0 (.lst ((ks'.map λ q => (mkN q.1, q.2)).map λ x => V.ref x.2))) q.2 = some (.tup ((mkK q.1).map kV)) := λ q hh => u0 _ _ (hq q (pk'.mem_iff.mp hh))
  have hD00 : (upd H1 D0 (.lst ((ks'.map λ q => (mkN q.1, q.2)).map λ x => V.ref x.2))) D0 = some (.lst (ks'.map λ q => V.ref q.2)) := by rw [Ae, eL]
  rw [eL]
  rw [eL] at u0 hq2 hD00
  have S0 := s1.trans u0
  generalize upd H1 D0 (.lst (ks'.map λ q => V.ref q.2)) = H2 at *
  have hL2 := hL.up S0
  refine Kx (Bz (K := K) (SqL.of hD00)) (λ _ => true) (RlT ms) (λ _ _ _ _ tp ⟨q, k, r, d, e1, e2, e3, e4, e5⟩ => ⟨q, k, r, d, e1, tp _ _ e2, e3, e4.upT tp, e5⟩) (by rw [List.length_map]; omega) (λ x _ H' _ R hR => hR H' (Same.refl _)) ?_ (λ D H3 ys s3 hD1 hD hP => ?_)
  ·
   intro v hv _ H' sm R hR
   obtain ⟨q, hqq, rfl⟩ := List.mem_map.mp hv
   have ht : H' q.2 = some (.tup [.str q.1.1, .int q.1.2]) := sm _ _ (hq2 q hqq)
   refine ⟨_, rfl, _, rfl, q.2, _, _, _, rfl, rfl, SqT.of ht, Kq, _, rfl, q.2, _, _, _, rfl, rfl, SqT.of ht, de, L, ms, q.1.1, q.1.2, rfl, hL2.up sm, hz, h64, λ v H'' s'' hv' => ?_⟩
   rcases hv' with ⟨_, hno⟩ | ⟨r, d, rfl, t1, t2⟩
   ·
    obtain ⟨x, hx, bx, ex⟩ := ok2.has q.1 (List.mem_map_of_mem hqq)
    have := hno x ⟨hx, ex⟩
    rw [bx] at this
    cases this
   · exact hR (.ref r) H'' s'' ⟨q.2, q.1, r, d, rfl, s'' _ _ ht, rfl, t1, t2⟩
  rw [List.filter_eq_self.mpr (λ _ _ => rfl)] at hP
  have eQ : (ks'.map λ q => V.ref q.2) = (ks'.map λ q => ((mkK q.1, q.2) : List Key × Addr)).map λ q => V.ref q.2 := by rw [List.map_map]; rfl
  rw [eQ] at hP
  obtain ⟨rs, rfl, h1, h2⟩ := Y9 (λ q hh => by obtain ⟨q', hh', rfl⟩ := List.mem_map.mp hh; exact s3 _ _ (hq2 q' hh')) hP
  have h3 : (rs.map λ r => tk r.1) = ks'.map (·.1) := by
   rw [List.map_map] at h2
   refine (List.map_inj_right (f := mkK) λ x y e => Ub e).mp ?_
   rw [List.map_map, List.map_map]
   exact h2
  have hrl : rs.length = ks'.length := by have := congrArg List.length h3; rw [List.length_map, List.length_map] at this; exact this
  exact k D rs H3 (S0.trans s3) (P1 S0 hD1) hD (λ r hr => (h1 r hr).1) (jr ok2 hso2 (λ r hr => (h1 r hr).2) h3) (by omega)
theorem Su : Ax ["value"] ["value"] (Ac Dx) := ⟨rfl, rfl, rfl, by decide +kernel, rfl, by decide +kernel, by decide +kernel⟩
theorem Io (T : Txt K mg a) : FnOk P w K mg base CX0 true 3 a.Gp a.Hq ["value"] (Qy) := by
 refine T.Hj.ok Su (λ vs H Q E h => ?_) (λ cdv A outer s H vs Q E hr h => ?_)
 · obtain ⟨v, w, rfl, _⟩ := h; rfl
 ·
  obtain ⟨v, w, rfl, hw, k⟩ := h
  refine ⟨_, (Ai (As (Ew (Aj (Bk (K := K) rfl) rfl T.A8 (by decide +kernel) (Aa (pv 0) (Aa (Cw (v := .ty "str") rfl T.T8 (by decide +kernel) rfl) Ad))) (El (Ak ((Ww T).mono (by decide)) hr rfl T.Xl T.S1.kp T.Zl .nil Bd (Aa (pv 0) Ad)))))), ?_⟩
  cases w with
  | n => cases hw; exact ⟨_, rfl, _, _, _, _, rfl, Dm.non, rfl, _, rfl, Ff (k H (Same.refl _))⟩
  | b x => cases hw; exact ⟨_, rfl, _, _, _, _, rfl, Dm.bl _, rfl, _, rfl, Ff (k H (Same.refl _))⟩
  | i z => cases hw; exact ⟨_, rfl, _, _, _, _, rfl, Dm.int _, rfl, _, rfl, Ff (k H (Same.refl _))⟩
  | s t => obtain ⟨rfl, ht⟩ := hw; exact ⟨_, rfl, _, _, _, _, rfl, Dm.str _, rfl, _, rfl, Ij ⟨_, rfl, t, rfl, ht, k⟩⟩
  | ts l => obtain ⟨r, rfl, hr0, hl0, hl1⟩ := hw; exact ⟨_, rfl, _, _, _, _, rfl, Dm.tup hr0, rfl, _, rfl, Ff (k H (Same.refl _))⟩
  | ti z => obtain ⟨r, rfl, hr0⟩ := hw; exact ⟨_, rfl, _, _, _, _, rfl, Dm.tup hr0, rfl, _, rfl, Ff (k H (Same.refl _))⟩
theorem Zk : Ax ["letter"] ["letter"] (Ac Ja) := ⟨rfl, rfl, rfl, by decide +kernel, rfl, by decide +kernel, by decide +kernel⟩
theorem Zg (T : Txt K mg a) : FnOk P w K mg base CX0 true 3 a.L5 a.Lx ["letter"] (n9 ju) := by
 refine T.Vw.ok Zk (λ vs H Q E h => ?_) (λ cdv A outer s H vs Q E hr h => ?_)
 · obtain ⟨p, ps, a0, rfl, _⟩ := h; rfl
 ·
  obtain ⟨p, ps, a0, rfl, hp, h4, h1, k⟩ := h
  refine ⟨_, (Ai (As (Ew (B5 Cg (Aj (Ao (K := K) rfl) rfl T.Di (by decide +kernel) (Aa (pv 0) Ad)) Ab (Ar _)) (El (Ak ((Fb T).mono (by decide)) hr rfl T.F9 T.Fe.kp T.Ge .nil Bd (Aa (Ap (Ah (K := K) rfl) (pv 0) Ab (λ _ _ => rfl)) (Aa Ab Ad))))))), ?_⟩
  have fin : ∀ b, b = ju (ws ps) -> ∀ H', Same H H' -> Q (.bl b) H' := λ b e => by rw [e]; exact k
  have wl := Q1 ps
  obtain ⟨v3, A3, w3⟩ := hp.get (j := 3) (by omega)
  refine ⟨_, rfl, p, _, rfl, .inr (SqT.of hp.at_), rfl, _, rfl, ?_⟩
  rw [Z2, M7]
  by_cases h : ps.length = 4
  case neg => rw [decide_eq_false (by omega)]; exact Ff (fin _ (by unfold ju; rw [decide_eq_false (by omega), Bool.false_and]) H (Same.refl _))
  rw [decide_eq_true (by omega)]
  exact Ij ⟨_, rfl, p, _, _, _, rfl, rfl, SqT.of hp.at_, A3, v3, _, 2, rfl, w3, fin _ (by unfold ju; rw [decide_eq_true (by omega), Bool.true_and]) H (Same.refl _)⟩
theorem Lk : Ax ["letters", "found"] ["letters"] (Ac Cz) := ⟨rfl, rfl, rfl, by decide +kernel, rfl, by decide +kernel, by decide +kernel⟩
theorem Te (T : Txt K mg a) : FnOk P w K mg base CX0 true 3 a.G1 a.Hs ["letters"] (Qz) := by
 refine T.Mr.ok Lk (λ vs H Q E h => ?_) (λ cdv A outer s H vs Q E hr h => ?_)
 · obtain ⟨L, ms, rfl, _⟩ := h; rfl
 ·
  obtain ⟨L, ms, rfl, hL, k⟩ := h
  refine ⟨_, (Af (Dy (i0 := 1) Lk.nd rfl rfl (N := ["letter"]) (cap := [none]) (by show Ay (Ac Cz) _ ["letters", "found"] _ _; exact ⟨rfl, by decide +kernel, by decide +kernel, by decide +kernel, by decide +kernel, rfl, by decide +kernel⟩) rfl (Bx (K := K) rfl (pv 0)) (λ C s H fp => ⟨(Bh (i := 0) (by show (["letter"] : List Str).Nodup; decide +kernel) rfl (Or.inl rfl) (.inr rfl)), (Es (PW.pt (Js (Am (Jd (Fi hr)) (Ap (Ah (K := K) rfl) (pv 0) Ab (λ _ _ => rfl)) Bm (Ar _)) (Hu (Am (Jd (Fi hr)) (Ap (Ah (K := K) rfl) (pv 0) Ab (λ _ _ => rfl)) Bm (Ar _)))))), (pv 0)⟩))
   (Ai (As (U7 (Vp (pv 1) (λ _ => rfl)) (Xg rfl (Qm T) (hr.mono (by decide)) T.Se rfl T.Tc rfl T.Rw (pv 1)) Fx)))), ?_⟩
  refine ⟨_, rfl, L, rfl, ⟨_, SqL.of hL.at_⟩, ?_⟩
  refine Bl (Bz (K := K) (SqL.of hL.at_)) (boF ms) (λ v => v) (by rw [List.length_map]; have := hL.few; omega) ?_ (λ x _ _ H' _ R hR => ⟨_, rfl, hR H' (Same.refl _)⟩) (λ D H1 s1 hD0 hD => ?_)
  ·
   intro x hx H' sm R hR
   obtain ⟨m, hm, rfl⟩ := List.mem_map.mp hx
   have hq := hR H' (Same.refl _)
   rw [Yf hL.ok hm, Zz] at hq
   obtain ⟨zs, hp, hv⟩ := (hL.ok m hm).up sm
   obtain ⟨r, rfl⟩ := hv.four
   refine ⟨_, rfl, m.2, _, _, _, rfl, rfl, SqT.of hp, Kq, _, rfl, .inl ⟨rfl, _, rfl, ?_⟩⟩
   rw [Gx]
   refine Bt (λ z => ?_) (λ z => ?_)
   ·
    rw [z, Bool.true_or] at hq
    exact hq
   ·
    rw [Bool.eq_false_iff.mpr z, Bool.false_or] at hq
    refine ⟨_, rfl, m.2, _, _, _, rfl, rfl, SqT.of hp, Kq, _, rfl, .inl ⟨rfl, _, rfl, ?_⟩⟩
    rw [Gx]
    exact hq
  have hG : ∀ z ∈ ((ms.map λ x => V.ref x.2).filter (boF ms)).map λ v => v, ∃ x ∈ ms, z = V.ref x.2 /\ x.1.bo = true := λ z hz => by
   obtain ⟨y, hy, rfl⟩ := List.mem_map.mp hz
   obtain ⟨h1, h2⟩ := List.mem_filter.mp hy
   obtain ⟨x, hx, rfl⟩ := List.mem_map.mp h1
   rw [Yf hL.ok hx] at h2
   exact ⟨x, hx, rfl, h2⟩
  have hA : ∀ x ∈ ms, x.1.bo = true -> V.ref x.2 ∈ ((ms.map λ x => V.ref x.2).filter (boF ms)).map λ v => v := λ x hx e => by
   rw [List.map_id'' (λ _ => rfl)]
   exact List.mem_filter.mpr ⟨List.mem_map_of_mem (f := λ x : Lt × Addr => V.ref x.2) hx, by rw [Yf hL.ok hx]; exact e⟩
  generalize (((ms.map λ x => V.ref x.2).filter (boF ms)).map λ v => v) = ys at hD hG hA
  cases ys with
  |
   nil =>
   refine ⟨_, rfl, _, .inl ⟨_, SqL.of hD, rfl⟩, Ff (k _ H1 s1 (.inl ⟨rfl, λ x hx => ?_⟩))⟩
   obtain ⟨y, hy, rfl⟩ := List.mem_map.mp hx
   cases e : y.1.bo with
   | false => rfl
   | true => exact nomatch hA y hy e
  | cons y ys =>
  refine ⟨_, rfl, _, .inl ⟨_, SqL.of hD, rfl⟩, Ij ?_⟩
  have hG' : ∀ H', Same H1 H' -> ∀ z ∈ y :: ys, ∃ x ∈ ms, z = V.ref x.2 /\ LtAt H' x.1 x.2 := λ H' s' z hz => by
   obtain ⟨x, hx, e, _⟩ := hG z hz
   exact ⟨x, hx, e, (hL.ok x hx).up (s1.trans s')⟩
  refine ⟨_, rfl, D, y, ys, λ z H' w => ∃ (p q : Addr) (l : Lt), z = .ref p /\ w = .ref q /\ LtAt H' l p /\ H' q = some (.tup [.int l.turn, .ref p]), λ z z' => Em (codeOf ms z) (codeOf ms z'), rfl, hD, ?_, ?_, ?_, ?_⟩
  ·
   intro z hz H' s'
   obtain ⟨x, hx, rfl, hl⟩ := hG' H' s' z hz
   exact ⟨x.2, x.1, rfl, hl, λ q hq => ⟨Ag hq, x.2, q, x.1, rfl, rfl, hl.up (Ag hq), Ae⟩⟩
  ·
   rintro z H2 H3 w s' ⟨p, q, l, rfl, rfl, h1, h2⟩
   exact ⟨p, q, l, rfl, rfl, h1.up s', s' _ _ h2⟩
  ·
   rintro z hz z' hz' H' w w' s' ⟨p, q, l, rfl, rfl, h1, h2⟩ ⟨p', q', l', rfl, rfl, h1', h2'⟩
   obtain ⟨x, hx, e, hl⟩ := hG' H' s' _ hz
   obtain ⟨x', hx', e', hl'⟩ := hG' H' s' _ hz'
   cases e
   cases e'
   have e1 : x.1 = l := LtAt.inj hl h1
   have e2 : x'.1 = l' := LtAt.inj hl' h1'
   show GtV _ H' _ _ (Em (codeOf ms (.ref x.2)) (codeOf ms (.ref x'.2)))
   rw [K3 hL.ok hx, K3 hL.ok hx', e1, e2]
   exact Z9 (hu3 hr) h2 h2' h1.nk h1'.nk (Lt.ok _ _)
  ·
   intro H' s'
   have top := So (gt := λ z z' => Em (codeOf ms z) (codeOf ms z')) (λ _ => f7 _) (λ _ _ _ => je _ _ _) (λ _ _ => aq _ _) (xs := ys) (b := y)
   have hmx : ∃ x ∈ ms, Ga (λ z z' => Em (codeOf ms z) (codeOf ms z')) y ys = V.ref x.2 /\ x.1.bo = true := by
    rcases M9 (gt := λ z z' => Em (codeOf ms z) (codeOf ms z')) (xs := ys) (b := y) with e | e
    · rw [e]; exact hG y (List.mem_cons_self ..)
    · exact hG _ (List.mem_cons_of_mem _ e)
   obtain ⟨x, hx, ex, bx⟩ := hmx
   refine k _ _ (s1.trans s') (.inr ⟨x, hx, ex, List.mem_map_of_mem hx, bx, λ u hu bu => ?_⟩)
   obtain ⟨v, hv, rfl⟩ := List.mem_map.mp hu
   have := top _ (hA v hv bu)
   rw [ex] at this
   have t := k5 this
   rw [K3 hL.ok hx, K3 hL.ok hv] at t
   exact t
theorem C9 : Ax ["_law_seed", "_law_names", "_law_asker", "_law_number", "_law_turn", "_law_key_here", "_law_begin", "_law_end"] ["_law_seed", "_law_names", "_law_asker", "_law_number", "_law_turn"] (Ac C2) := ⟨rfl, rfl, rfl, by decide +kernel, rfl, by decide +kernel, by decide +kernel⟩
theorem Qa (T : Txt K mg a) : FnOk P w K mg base CX0 true 3 a.Fy a.Fq ["_law_seed", "_law_names", "_law_asker", "_law_number", "_law_turn"] (gj (λ r => r = [])) := by
 refine T.Lh.ok C9 (λ vs H Q E h => ?_) (λ cdv A outer s H vs Q E hr h => ?_)
 · obtain ⟨L, ns, a0, sd, n, t, r, rfl, rfl, _⟩ := h; rfl
 ·
  obtain ⟨L, ns, a0, sd, n, t, r, rfl, rfl, hL, hN, ha, n0, n1, t0, t1, k⟩ := h
  refine ⟨_, (Af (A9 (i := 5) C9.nd rfl (Or.inl rfl) (Ak ((Ld T).mono (by decide)) hr rfl T.Mq T.Kb.kp T.Mm .nil Bd (Aa (pv 0) (Aa (pv 1) (Aa (pv 2) (Aa (pv 3) (Aa (pv 4) Ad)))))))
   (Et (Bv (PW.pt (Il (Am Ts (pv 4) Ab (Ar _)) (Gv (Am Cg (Ak ((Bc T).mono (by decide)) hr rfl T.Bi T.Be.kp T.Bj .nil Bd (Aa (pv 5) (Aa Ab (Aa Ab Ad)))) Ab (Ar _))))) (Ai (As (Bp (Aa Bm (Aa (pv 2) (Aa (pv 3) (Aa (pv 4) Ad))))))) Aw)
   (Af (A9 (i := 6) C9.nd rfl (Or.inl rfl) (Bf Om (Ak ((Bc T).mono (by decide)) hr rfl T.Bi T.Be.kp T.Bj .nil Bd (Aa (pv 5) (Aa Ab (Aa Ab Ad)))) Ab))
   (Et (Bv (Am Cg (Ak ((Bc T).mono (by decide)) hr rfl T.Bi T.Be.kp T.Bj .nil Bd (Aa (pv 5) (Aa Ab (Aa Ab Ad)))) Ab (Ar _)) (Ai (A9 (i := 6) C9.nd rfl (Or.inl rfl) (Bf Gj (pv 6) (Bf Vh Ab Ab)))) Aw)
   (Af (A9 (i := 7) C9.nd rfl (Or.inl rfl) (Bf Cr (Bf Cr (pv 6) Ab) (Ak ((Bc T).mono (by decide)) hr rfl T.Bi T.Be.kp T.Bj .nil Bd (Aa (pv 5) (Aa Ab (Aa (Ap (By (K := K) rfl) (F1 (Ig [.int 1, .int 30, .int 3000] (by decide +kernel))) (Ak ((Bc T).mono (by decide)) hr rfl T.Bi T.Be.kp T.Bj .nil Bd (Aa (pv 5) (Aa Ab (Aa Ab Ad)))) (λ _ _ => rfl)) Ad))))))
   (Ai (As (Bp (Aa Bm (Aa (pv 2) (Aa (pv 3) (Aa (pv 4) (Aa (pv 6) (Aa (pv 7) (Aa (Ak ((Mw T).mono (by decide)) hr rfl T.Ov T.K0.kp T.O3 .nil Bd (Aa (pv 1) (Aa (pv 2) (Aa (pv 5) (Aa Ab (Aa Ab Ad)))))) Ad))))))))))))))), ?_⟩
  have hna := hN.nm a0 ha
  refine ⟨_, rfl, _, rfl, _, rfl, _, rfl, _, rfl, L, ns, a0, sd, n, t, rfl, hL, hN, ha, λ key hkey => ?_⟩
  refine ⟨λ σ H' => H' = H /\ ¬ (1 < t /\ V9 key 1 6 = 1) /\ σ = [some (.int sd), some (.ref L), some (.str a0), some (.int n), some (.int t), some (.int key), none, none], ?_, ?_⟩
  ·
   refine ⟨_, rfl, _, _, rfl, rfl, _, rfl, Bt (λ z1 => ?_) (λ z1 => Ff ⟨rfl, λ z => z1 (decide_eq_true z.1), rfl⟩)⟩
   have z2 : 1 < t := of_decide_eq_true z1
   refine ⟨_, rfl, _, _, _, rfl, by decide, by decide, by decide, λ v _ _ hv => ⟨rfl, _, rfl, Bt (λ z3 => ?_) (λ z3 => ⟨rfl, λ z => z3 (decide_eq_true (by rw [hv, z.2])), rfl⟩)⟩⟩
   exact ⟨_, rfl, _, rfl, _, rfl, (by show 4 <= sizeLine; decide), λ p hp => k p (.off a0 n t) _ (Ag hp) ⟨_, Ae, rfl⟩ (ll hna n0 (by omega)) (by show Lt.off a0 n t = iq (d4 sd ns a0 n t) ns a0 n t; unfold iq; rw [← hkey, if_pos ⟨z2, by rw [← hv]; exact V.int.inj (of_decide_eq_true z3)⟩]) rfl⟩
  rintro _ H1 ⟨e1, hno, rfl⟩
  obtain rfl := e1.symm
  refine ⟨_, rfl, _, _, _, rfl, by decide, by decide, by decide, λ v v0 v1 hv => ⟨_, _, rfl, rfl, ?_⟩⟩
  refine ⟨λ σ H' => H' = H /\ ∃ b : Int, -(10 ^ 16) <= b /\ b <= 10 ^ 16 /\ b = l0 key /\ σ = [some (.int sd), some (.ref L), some (.str a0), some (.int n), some (.int t), some (.int key), some (.int b), none], ?_, ?_⟩
  ·
   refine ⟨_, rfl, _, _, _, rfl, by decide, by decide, by decide, λ u _ _ hu => ⟨rfl, _, rfl, Bt (λ z => ?_) (λ z => ⟨rfl, _, by omega, by omega, by unfold l0; rw [if_neg (λ y => z (decide_eq_true (by rw [hu, y]))), hv], rfl⟩)⟩⟩
   refine ⟨_, rfl, _, _, rfl, rfl, ⟨by decide, by decide, by decide⟩, _, _, rfl, rfl, .inl ⟨by omega, by omega⟩, rfl, _, ?_, ?_, (by unfold l0; rw [if_pos (by rw [← hu]; exact V.int.inj (of_decide_eq_true z)), hv]), rfl⟩
   ·
    have : (10 : Int) ^ (12 : Int).toNat = 1000000000000 := by decide
    rw [this]
    omega
   ·
    have : (10 : Int) ^ (12 : Int).toNat = 1000000000000 := by decide
    rw [this]
    omega
  rintro _ H1 ⟨e1, b, b0, b1, hb, rfl⟩
  obtain rfl := e1.symm
  clear v0 v1 hv v
  refine ⟨_, rfl, _, _, rfl, rfl, _, rfl, (by show 3 <= sizeLine; decide), λ l hl => ⟨_, rfl, _, _, _, rfl, by decide, by decide, by decide, λ v v0 v1 hv => ?_⟩⟩
  obtain ⟨wd, w0, w1, we⟩ := Pe (ts := [1, 30, 3000]) (i := v) 1 3000 v0 v1 (by decide)
  refine ⟨l, _, _, _, rfl, rfl, SqL.of Ae, we, _, _, _, rfl, by decide, by decide, by omega, λ e e0 e1 he => ⟨_, _, rfl, rfl, ?_⟩⟩
  have s1 := Ag (o := .lst [.int 1, .int 30, .int 3000]) hl
  replace hL := s1 _ _ hL
  generalize upd H l (.lst [.int 1, .int 30, .int 3000]) = H1 at *
  refine ⟨_, rfl, _, rfl, _, rfl, _, rfl, _, rfl, _, rfl, _, rfl, _, rfl, L, ns, a0, _, _, _, rfl, hL, hN, by decide, by decide, by decide, by decide, λ r l H2 s2 hr hl hso => ⟨(by show 7 <= sizeLine; decide), λ p hp => ?_⟩⟩
  have s3 := Ag (o := .tup [.str "bid", .str a0, .int n, .int t, .int b, .int (b + 1 + e), .ref r]) hp
  have big : (10 : Int) ^ 16 + 4000 <= 10 ^ 18 := by decide
  exact k p (.bid a0 n t b (b + 1 + e) l) _ ((s1.trans s2).trans s3) ⟨_, Ae, r, rfl, s3 _ _ hr⟩ (nq hna n0 t0 (by omega) hl) (by show Lt.bid a0 n t b (b + 1 + e) l = iq (d4 sd ns a0 n t) ns a0 n t; unfold iq; rw [← hkey, if_neg hno, ← hb, he, bj v0 v1 we, hv, hso]) rfl
theorem Dh : Ax ["_law_seed", "_law_names", "_law_asker", "_law_number", "_law_turn", "_law_key_here", "_law_hands"] ["_law_seed", "_law_names", "_law_asker", "_law_number", "_law_turn"] (Ac Cb) := ⟨rfl, rfl, rfl, by decide +kernel, rfl, by decide +kernel, by decide +kernel⟩
theorem L7 (T : Txt K mg a) : FnOk P w K mg base CX0 true 3 a.Ec a.Ee ["_law_seed", "_law_names", "_law_asker", "_law_number", "_law_turn"] (gj (λ r => r = [])) := by
 refine T.Jk.ok Dh (λ vs H Q E h => ?_) (λ cdv A outer s H vs Q E hr h => ?_)
 · obtain ⟨L, ns, a0, sd, n, t, r, rfl, rfl, _⟩ := h; rfl
 ·
  obtain ⟨L, ns, a0, sd, n, t, r, rfl, rfl, hL, hN, ha, n0, n1, t0, t1, k⟩ := h
  refine ⟨_, (Af (A9 (i := 5) Dh.nd rfl (Or.inl rfl) (Ak ((Ld T).mono (by decide)) hr rfl T.Mq T.Kb.kp T.Mm .nil Bd (Aa (pv 0) (Aa (pv 1) (Aa (pv 2) (Aa (pv 3) (Aa (pv 4) Ad)))))))
   (Af (A9 (i := 6) Dh.nd rfl (Or.inl rfl) (Ak ((Mw T).mono (by decide)) hr rfl T.Ov T.K0.kp T.O3 .nil Bd (Aa (pv 1) (Aa (pv 2) (Aa (pv 5) (Aa Ab (Aa Ab Ad)))))))
   (Et (Bv (Am Cg (Ak ((Bc T).mono (by decide)) hr rfl T.Bi T.Be.kp T.Bj .nil Bd (Aa (pv 5) (Aa Ab (Aa Ab Ad)))) Ab (Ar _)) (Ai (A9 (i := 6) Dh.nd rfl (Or.inl rfl) (Bp Ad))) Aw)
   (Ai (As (Bp (Aa Bm (Aa (pv 2) (Aa (pv 3) (Aa (pv 4) (Aa (pv 6) Ad))))))))))), ?_⟩
  have hna := hN.nm a0 ha
  refine ⟨_, rfl, _, rfl, _, rfl, _, rfl, _, rfl, L, ns, a0, sd, n, t, rfl, hL, hN, ha, λ key hkey => ?_⟩
  refine ⟨_, rfl, _, rfl, _, rfl, L, ns, a0, _, _, _, rfl, hL, hN, by decide, by decide, by decide, by decide, λ r l H1 s1 hr hl hso => ?_⟩
  refine ⟨λ σ H' => Same H H' /\ ∃ (r : Addr) (l : List Str), H' r = some (.tup (l.map V.str)) /\ Ci NM (.ts l) a0 0 = true /\ l = Ry key ns a0 /\ σ = [some (.int sd), some (.ref L), some (.str a0), some (.int n), some (.int t), some (.int key), some (.ref r)], ?_, ?_⟩
  ·
   refine ⟨_, rfl, _, _, _, rfl, by decide, by decide, by decide, λ u _ _ hu => ⟨rfl, _, rfl, Bt (λ z => ?_) (λ z => ⟨s1, r, l, hr, hl, by unfold Ry; rw [if_neg (λ y => z (decide_eq_true (by rw [hu, y])))]; exact hso, rfl⟩)⟩⟩
   exact ⟨(by show 0 <= sizeLine; decide), λ q hq => ⟨s1.trans (Ag hq), q, [], Ae, V1 (by decide) (by decide) (λ _ z => nomatch z) rfl (λ z => nomatch z), (by unfold Ry; rw [if_pos (by rw [← hu]; exact V.int.inj (of_decide_eq_true z))]), rfl⟩⟩
  rintro _ H2 ⟨s2, r, l, hr, hl, hcl, rfl⟩
  refine ⟨_, rfl, _, rfl, _, rfl, _, rfl, (by show 5 <= sizeLine; decide), λ p hp => ?_⟩
  have s3 := Ag (o := .tup [.str "close", .str a0, .int n, .int t, .ref r]) hp
  exact k p (.close a0 n t l) _ (s2.trans s3) ⟨_, Ae, r, rfl, s3 _ _ hr⟩ (av hna n0 t0 hl) (by show l = Ry (d4 sd ns a0 n t) ns a0; rw [← hkey]; exact hcl) rfl
theorem Dg : Ax ["_law_letters", "_law_hand", "_law_found", "_law_one", "_law_held"] ["_law_letters", "_law_hand"] (Ac Ce) := ⟨rfl, rfl, rfl, by decide +kernel, rfl, by decide +kernel, by decide +kernel⟩
theorem Mb (T : Txt K mg a) : FnOk P w K mg base CX0 true 3 a.Ed a.Ej ["_law_letters", "_law_hand"] (Nl) := by
 refine T.Ji.ok Dg (λ vs H Q E h => ?_) (λ cdv A outer s H vs Q E hr h => ?_)
 · obtain ⟨L, ms, h0, rfl, _⟩ := h; rfl
 ·
  obtain ⟨L, ms, h0, rfl, hL, hz, h64, k⟩ := h
  refine ⟨_, (Af (A9 (i := 2) Dg.nd rfl (Or.inl rfl) (F1 Ad))
   (Af (Oy PassesOwn.never rfl (Bx (K := K) rfl (Ak ((Nn T).mono (by decide)) hr rfl T.Qb T.Kh.kp T.Ph .nil Bd (Aa (pv 0) Ad))) (Bh (i := 3) Dg.nd rfl (Or.inl rfl)) (Et (A9 (i := 4) Dg.nd rfl (Or.inl rfl) (Ze (B5 Cg (Ap (Ah (K := K) rfl) (pv 3) Ab (λ _ _ => rfl)) (pv 1) (Ar _)) (El (Ew (B5 (E9 (K := K) rfl) (pv 1) (Ap (Ah (K := K) rfl) (pv 3) Ab (λ _ _ => rfl)) (by with_unfolding_all rfl)) (El (Ze (B5 Cg (Ap (Ah (K := K) rfl) (pv 3) Ab (λ _ _ => rfl)) Bm (Ar _)) (El (B5 (E9 (K := K) rfl) (pv 1) (Ap (Ah (K := K) rfl) (pv 3) Ab (λ _ _ => rfl)) (by with_unfolding_all rfl)))))))))
   (Ai (Bv (PW.pt (Il (Am Pf (Ap (Ah (K := K) rfl) (pv 3) Ab (λ _ _ => rfl)) Bm (Ar _)) (Gv (De (pv 4))))) (Ai (Jm (O8 PySem.F.plainAttrs_list PySem.F.slot_list_append PySem.F.type_list_append Ep (pv 2) (Aa (Bp (Aa (Ap (Ah (K := K) rfl) (pv 3) Ab (λ _ _ => rfl)) (Aa (Ap (Ah (K := K) rfl) (pv 3) Ab (λ _ _ => rfl)) (Aa (Ap (Ah (K := K) rfl) (pv 3) Ab (λ _ _ => rfl)) (Aa (Ap (Ah (K := K) rfl) (pv 3) Ab (λ _ _ => rfl)) Ad))))) Ad)))) Aw))))
   (Ai (As (Aj (Fv (hu2 hr)) rfl T.Ea (by decide +kernel) (Aa (pv 2) Ad)))))), ?_⟩
  refine ⟨(by show 0 <= sizeLine; decide), λ F hF => ?_⟩
  have uF := Ag (o := .lst []) hF
  refine ⟨_, rfl, L, ms, rfl, hL.up uF, hz, h64, λ D rs H1 s1 hD0 hD htd hto hrl => ⟨D, rfl, ⟨_, SqL.of hD⟩, ?_⟩⟩
  have nFD : F ≠ D := λ z => by rw [← z, Ae] at hD0; cases hD0
  refine Lf (Bz (K := K) (SqL.of Uh)) (λ i σ H' => Same H H' /\ H' D = some (.lst (rs.map λ r => V.ref r.2)) /\ (∀ r ∈ rs, TdAt H' r.1 r.2) /\ ∃ (zs : List (Qd × Addr)) (y3 y4 : Option V), H' F = some (.lst (zs.map λ z => V.ref z.2)) /\ (∀ z ∈ zs, ff H' z.1 z.2) /\ zs.map (·.1) = (((rs.take i).map (·.1)).filter (Hx h0)).map Pw /\ zs.length <= i /\ σ = [some (.ref L), some (.str h0), some (.ref F), y3, y4]) ⟨uF.trans s1, hD, htd, [], _, _, s1 _ _ Ae, (λ _ z => nomatch z), rfl, Nat.le_refl _, rfl⟩ (λ _ _ _ _ h => M6 h.2.1) ?_ ?_
  ·
   rintro i v σ H2 hv ⟨s2, hD2, ht2, zs, y3, y4, hF2, hzq, hze, hzl, rfl⟩
   have hi : i < 64 := by have h1 := (List.getElem?_eq_some_iff.mp hv).1; rw [List.length_map] at h1; omega
   rw [List.getElem?_map] at hv
   obtain ⟨r, hri, rfl⟩ := Option.map_eq_some_iff.mp hv
   have hr := List.mem_of_getElem? hri
   obtain ⟨d, p⟩ := r
   obtain ⟨q1, q2, q3, q4, q5, e0, e1, e2, e3, e4, e5⟩ := (ht2 _ hr).at_
   have hT := hto.is_ d (List.mem_map_of_mem hr)
   have etk : ((rs.take (i + 1)).map (·.1)) = (rs.take i).map (·.1) ++ [d] := by rw [List.take_add_one, hri, List.map_append]; rfl
   refine ⟨λ σ H' => H' = H2 /\ σ = [some (.ref L), some (.str h0), some (.ref F), some (.ref p), some (.bl (X8 h0 d))], ?_, ?_⟩
   ·
    have fin : ∀ b, b = X8 h0 d -> (H2 = H2 /\ [some (V.ref L), some (V.str h0), some (V.ref F), some (V.ref p), some (V.bl b)] = [some (.ref L), some (.str h0), some (.ref F), some (.ref p), some (.bl (X8 h0 d))]) := λ b e => ⟨rfl, by rw [e]⟩
    unfold X8 at fin
    refine ⟨_, rfl, p, _, _, _, rfl, rfl, SqT.of e0, Kq, _, rfl, rfl, _, rfl, ?_⟩
    show (if decide (V.str d.a = V.str h0) = true then _ else _)
    rw [Gx]
    refine Bt (λ z => fin true (by rw [z]; rfl)) (λ nz => ?_)
    replace nz := Bool.eq_false_iff.mpr nz
    refine ⟨_, rfl, _, rfl, p, _, _, _, rfl, rfl, SqT.of e0, Bb (j := 6) rfl, q1, _, rfl, .inr (SqT.of e1), rfl, C7 d.yes, _, rfl, ?_⟩
    show (if inV (.str h0) (d.yes.map V.str) = true then _ else _)
    rw [Fm]
    refine Bt (λ z1 => ?_) (λ z1 => fin false (by rw [nz, Bool.eq_false_iff.mpr z1]; rfl))
    refine ⟨_, rfl, p, _, _, _, rfl, rfl, SqT.of e0, Zx, rfl, _, rfl, ?_⟩
    show (if decide (V.str d.st = V.str "open") = true then _ else _)
    rw [Gx]
    refine Bt (λ z2 => fin true (by rw [nz, z1, z2]; rfl)) (λ z2 => ?_)
    exact ⟨_, rfl, _, rfl, p, _, _, _, rfl, rfl, SqT.of e0, Bb (j := 9) rfl, q4, _, rfl, .inr (SqT.of e4), rfl, C7 d.come, fin (inV (.str h0) (d.come.map V.str)) (by rw [nz, z1, Bool.eq_false_iff.mpr z2, Fm]; rfl)⟩
   rintro _ H2' ⟨eH, rfl⟩
   obtain rfl := eH.symm
   have hB : Hx h0 d = (!decide (d.st = "off") && X8 h0 d) := rfl
   have skip : Hx h0 d = false -> zs.map (·.1) = ((((rs.take (i + 1)).map (·.1)).filter (Hx h0)).map Pw) := λ e => by rw [etk, List.filter_append, List.filter_cons, if_neg (by rw [e]; exact Bool.false_ne_true), List.filter_nil, List.append_nil]; exact hze
   refine ⟨_, rfl, p, _, _, _, rfl, rfl, SqT.of e0, Zx, rfl, _, rfl, ?_⟩
   show (if (!decide (V.str d.st = V.str "off")) = true then _ else _)
   rw [Gx]
   refine Bt (λ z1 => ?_) (λ z1 => Ff ⟨s2, hD2, ht2, zs, _, _, hF2, hzq, skip (by rw [hB, Bool.eq_false_iff.mpr z1, Bool.false_and]), by omega, rfl⟩)
   refine ⟨_, rfl, _, rfl, ?_⟩
   refine Bt (λ z2 => ?_) (λ z2 => ⟨s2, hD2, ht2, zs, _, _, hF2, hzq, skip (by rw [hB, Bool.eq_false_iff.mpr z2, Bool.and_false]), by omega, rfl⟩)
   have hb : Hx h0 d = true := by rw [hB, z1, z2]; rfl
   have hbe := Ye hT hb
   rw [hbe] at e0
   refine ⟨_, rfl, .inl ⟨rfl, _, SqL.of hF2⟩, _, rfl, p, _, _, _, rfl, rfl, SqT.of e0, Bb (j := 4) rfl, _, rfl, p, _, _, _, rfl, rfl, SqT.of e0, Bb (j := 5) rfl, _, rfl, p, _, _, _, rfl, rfl, SqT.of e0, Kq, _, rfl, p, _, _, _, rfl, rfl, SqT.of e0, de, (by show 4 <= sizeLine; decide), λ q hq => ?_⟩
   have uq := Ag (o := .tup [.int (Pw d).1, .int (Pw d).2.1, .str d.a, .int d.n]) hq
   have hFq := uq _ _ hF2
   have tp : ∀ b xs, (upd H2 q (.tup [.int (Pw d).1, .int (Pw d).2.1, .str d.a, .int d.n])) b = some (.tup xs) -> (upd (upd H2 q (.tup [.int (Pw d).1, .int (Pw d).2.1, .str d.a, .int d.n])) F (.lst (zs.map (λ z => V.ref z.2) ++ [.ref q]))) b = some (.tup xs) := λ b xs e => by rw [Al (Eo e hFq (λ z => nomatch z))]; exact e
   refine ⟨F, _, _, rfl, rfl, hFq, (by rw [List.length_map, sizeLine_eq]; omega), λ b o e => ?_, ?_, λ r hr => ((ht2 r hr).up uq).upT tp, zs ++ [(Pw d, q)], _, _, by rw [List.map_append]; exact Ae, λ z hzz => ?_, ?_, by rw [List.length_append]; show _ + 1 <= _; omega, rfl⟩
   ·
    rw [Al (Aq e hF)]
    exact uq _ _ (s2 _ _ e)
   ·
    rw [Al nFD.symm]
    exact uq _ _ hD2
   ·
    rcases List.mem_append.mp hzz with hzz | hzz
    · exact tp _ _ (uq _ _ (hzq z hzz))
    ·
     rw [List.mem_singleton] at hzz
     subst hzz
     exact tp _ _ Ae
   ·
    rw [List.map_append, etk, List.filter_append, List.map_append, hze, List.filter_cons, if_pos hb]
    rfl
  rintro σ H2 ⟨s2, hD2, ht2, zs, y3, y4, hF2, hzq, hze, hzl, rfl⟩
  rw [List.length_map] at hzl hze
  rw [List.take_length] at hze
  have SS := s2
  refine ⟨_, rfl, F, zs.map (λ z => (qn z.1, z.2)), rfl, by rw [List.map_map]; exact hF2, λ x hx => ?_, by rw [List.length_map]; omega, .inr λ x hx => ?_, λ x hx y hy => ?_, λ D4 qs hD4 hpm hso => ?_⟩
  ·
   obtain ⟨z, hz, rfl⟩ := List.mem_map.mp hx
   exact m5 (hzq z hz)
  ·
   obtain ⟨z, hz, rfl⟩ := List.mem_map.mp hx
   exact ⟨_, _, rfl⟩
  ·
   obtain ⟨z, hz, rfl⟩ := List.mem_map.mp hx
   obtain ⟨u, hu, rfl⟩ := List.mem_map.mp hy
   exact my _ _
  obtain ⟨zs', pz, rfl, hho⟩ := holds_of hto hze hpm hso
  have hzl' := pz.length_eq
  have u4 := Ag (o := .lst (zs'.map λ z => V.ref z.2)) hD4
  have eL : ((zs'.map λ z => (qn z.1, z.2)).map λ x => V.ref x.2) = zs'.map λ z => V.ref z.2 := by rw [List.map_map]; rfl
  rw [eL]
  exact k D4 zs' _ (SS.trans u4) (P1 SS hD4) Ae (λ z hz => u4 _ _ (hzq z (pz.mem_iff.mp hz))) hho (by omega)
theorem Rr : Ax ["value", "asker", "least"] ["value", "asker", "least"] (Ac Cy) := ⟨rfl, rfl, rfl, by decide +kernel, rfl, by decide +kernel, by decide +kernel⟩
theorem Li (T : Txt K mg a) : FnOk P w K mg base CX0 true 4 a.Hn a.G4 ["value", "asker", "least"] (Rp) := by
 refine T.Jl.ok Rr (λ vs H Q E h => ?_) (λ cdv A outer s H vs Q E hr h => ?_)
 · obtain ⟨v, w, a0, m, rfl, _⟩ := h; rfl
 ·
  obtain ⟨v, w, a0, m, rfl, hw, k⟩ := h
  refine ⟨_, (Af (Bv (PW.pt (Js (F0 (De (Aj (Bk (K := K) rfl) rfl T.A8 (by decide +kernel) (Aa (pv 0) (Aa (Cw (v := .ty "tuple") rfl T.Co (by decide +kernel) rfl) Ad))))) (Js (Am Tq (Aj (Ao (K := K) rfl) rfl T.Di (by decide +kernel) (Aa (pv 0) Ad)) (pv 2) (Ar _)) (Hu (Am Ts (Aj (Ao (K := K) rfl) rfl T.Di (by decide +kernel) (Aa (pv 0) Ad)) (Vr rfl T.Ek) (Ar _)))))) (Ai (As Hw)) Aw)
   (Af (Bv (F0 (De (Aj (Ik (K := K) rfl rfl) rfl T.Pl (by decide +kernel) (Aa (B8 (N := ["hand"]) (cap := [none]) (by show Ay (Ac Cy) _ ["value", "asker", "least"] _ _; exact ⟨rfl, by decide +kernel, by decide +kernel, by decide +kernel, by decide +kernel, rfl, by decide +kernel⟩) rfl (Gq (K := K) rfl (pv 0)) (λ C s H fp => ⟨(Bh (i := 0) (by show (["hand"] : List Str).Nodup; decide +kernel) rfl (Or.inl rfl) (.inr rfl)), F5, (Ak ((Io T).mono (by decide)) hr rfl T.Ju T.Hj.kp T.Jt .nil Bd (Aa (pv 0) Ad))⟩)) Ad)))) (Ai (As Hw)) Aw)
   (Ai (As (Ew (Ak ((R0 T).mono (by decide)) hr rfl T.To T.Mo.kp T.Ud .nil Bd (Aa (pv 0) Ad)) (El (B5 (G2 (K := K) rfl) (pv 1) (pv 0) (by with_unfolding_all rfl)))))))), ?_⟩
  cases w with
  | n => cases hw; exact ⟨_, rfl, _, _, _, _, rfl, Dm.non, rfl, _, rfl, Bt (λ _ => Ij (k H (Same.refl _))) (λ z => absurd rfl z)⟩
  | b x => cases hw; exact ⟨_, rfl, _, _, _, _, rfl, Dm.bl _, rfl, _, rfl, Bt (λ _ => Ij (k H (Same.refl _))) (λ z => absurd rfl z)⟩
  | i z => cases hw; exact ⟨_, rfl, _, _, _, _, rfl, Dm.int _, rfl, _, rfl, Bt (λ _ => Ij (k H (Same.refl _))) (λ z => absurd rfl z)⟩
  | s t => obtain ⟨rfl, ht⟩ := hw; exact ⟨_, rfl, _, _, _, _, rfl, Dm.str _, rfl, _, rfl, Bt (λ _ => Ij (k H (Same.refl _))) (λ z => absurd rfl z)⟩
  |
   ti z =>
   obtain ⟨r, rfl, hr0⟩ := hw
   refine ⟨_, rfl, _, _, _, _, rfl, Dm.tup hr0, rfl, _, rfl, Bt (λ z => absurd z (by decide)) (λ _ => ?_)⟩
   refine ⟨_, rfl, r, _, rfl, .inr (SqT.of hr0), _, rfl, _, _, rfl, rfl, _, rfl, Bt (λ _ => Ij (k H (Same.refl _))) (λ _ => ?_)⟩
   refine ⟨_, rfl, r, _, rfl, .inr (SqT.of hr0), _, _, rfl, rfl, _, rfl, Bt (λ _ => (k H (Same.refl _))) (λ _ => ?_)⟩
   refine ⟨_, rfl, r, rfl, ⟨_, SqT.of hr0⟩, ?_⟩
   refine Bl (Hr (SqT.of hr0)) (λ _ => true) nmF (by show 1 <= 100000; decide) (λ x _ H' _ R hR => hR H' (Same.refl _)) ?_ (λ D H1 s1 hD0 hD => ?_)
   ·
    intro x hx _ H' sm R hR
    rw [List.mem_singleton] at hx
    subst hx
    exact ⟨_, rfl, _, .i z, rfl, rfl, λ H2 s2 => hR H2 s2⟩
   refine ⟨D, [false], rfl, SqL.of hD, _, rfl, Bt (λ _ => k H1 s1) (λ z => absurd rfl z)⟩
  |
   ts l =>
   obtain ⟨r, rfl, hr0, hl0, hl1⟩ := hw
   refine ⟨_, rfl, _, _, _, _, rfl, Dm.tup hr0, rfl, _, rfl, Bt (λ z => absurd z (by decide)) (λ _ => ?_)⟩
   refine ⟨_, rfl, r, _, rfl, .inr (SqT.of hr0), _, rfl, _, _, rfl, rfl, _, rfl, ?_⟩
   rw [List.length_map]
   have fin : ∀ b, b = Ci NM (.ts l) a0 m -> ∀ H', Same H H' -> Q (.bl b) H' := λ b e => by rw [e]; exact k
   refine Bt (λ z => Ij ?_) (λ z => ?_)
   ·
    have z' : (l.length : Int) < (m : Int) := of_decide_eq_true z
    exact fin _ (Y2 (by omega)) H (Same.refl _)
   have z1 : ¬ (l.length : Int) < (m : Int) := λ w => z (decide_eq_true w)
   refine ⟨_, rfl, r, _, rfl, .inr (SqT.of hr0), _, _, rfl, rfl, _, rfl, ?_⟩
   rw [List.length_map]
   refine Bt (λ z => ?_) (λ z => ?_)
   ·
    have z' : (20 : Int) < (l.length : Int) := of_decide_eq_true z
    exact fin _ (W4 (by omega)) H (Same.refl _)
   have z2 : ¬ (20 : Int) < (l.length : Int) := λ w => z (decide_eq_true w)
   refine ⟨_, rfl, r, rfl, ⟨_, SqT.of hr0⟩, ?_⟩
   refine Bl (Hr (SqT.of hr0)) (λ _ => true) nmF (by rw [List.length_map]; omega) (λ x _ H' _ R hR => hR H' (Same.refl _)) ?_ (λ D H1 s1 hD0 hD => ?_)
   ·
    intro x hx _ H' sm R hR
    obtain ⟨t, ht, rfl⟩ := List.mem_map.mp hx
    exact ⟨_, rfl, _, .s t, rfl, ⟨rfl, hl1 t ht⟩, λ H2 s2 => hR H2 s2⟩
   have hD' : H1 D = some (.lst ((l.map NM).map V.bl)) := by rw [hD, List.filter_eq_self.mpr (λ _ _ => rfl), List.map_map, List.map_map]; rfl
   refine ⟨D, _, rfl, SqL.of hD', ?_⟩
   rw [List.all_map]
   by_cases hn : l.all NM = true
   case neg => exact ⟨_, rfl, Bt (λ _ => fin _ (b5 (Bool.eq_false_iff.mpr hn)) H1 s1) (λ z => absurd (by rw [show l.all (id ∘ NM) = false from Bool.eq_false_iff.mpr hn]; rfl) z)⟩
   rw [show l.all (id ∘ NM) = true from hn]
   refine ⟨_, rfl, Ff ?_⟩
   refine ⟨_, rfl, r, l, rfl, s1 _ _ hr0, hl0, λ H2 s2 => ⟨_, rfl, ?_⟩⟩
   cases hr1 : F7 l with
   | false => exact Ff (fin false (Wa hr1) H2 (s1.trans s2))
   | true =>
   refine Ij ?_
   refine ⟨_, rfl, _, rfl, r, _, rfl, .inr (SqT.of (s2 _ _ (s1 _ _ hr0))), rfl, C7 l, ?_⟩
   rw [Fm]
   exact fin _ (c7 (by omega) (by omega) hn hr1).symm H2 (s1.trans s2)
theorem R6 : Ax ["letter"] ["letter"] (Ac Dn) := ⟨rfl, rfl, rfl, by decide +kernel, rfl, by decide +kernel, by decide +kernel⟩
theorem Rv (T : Txt K mg a) : FnOk P w K mg base CX0 true 4 a.G9 a.Hi ["letter"] (n9 (Z1 NM)) := by
 refine T.Ma.ok R6 (λ vs H Q E h => ?_) (λ cdv A outer s H vs Q E hr h => ?_)
 · obtain ⟨p, ps, a0, rfl, _⟩ := h; rfl
 ·
  obtain ⟨p, ps, a0, rfl, hp, h4, h1, k⟩ := h
  refine ⟨_, (Af (Bv (PW.pt (Js (Am Pf (Aj (Ao (K := K) rfl) rfl T.Di (by decide +kernel) (Aa (pv 0) Ad)) Ab (Ar _)) (Hu (F0 (De (Ak ((Fb T).mono (by decide)) hr rfl T.F9 T.Fe.kp T.Ge .nil Bd (Aa (Ap (Ah (K := K) rfl) (pv 0) Ab (λ _ _ => rfl)) (Aa Ab Ad)))))))) (Ai (As Hw)) Aw)
   (Af (Bv (PW.pt (Js (F0 (De (Ak ((Io T).mono (by decide)) hr rfl T.Ju T.Hj.kp T.Jt .nil Bd (Aa (Ap (Ah (K := K) rfl) (pv 0) Ab (λ _ _ => rfl)) Ad)))) (Js (Am Cg (Ap (Ah (K := K) rfl) (pv 0) Ab (λ _ _ => rfl)) (Ap (Ah (K := K) rfl) (pv 0) Ab (λ _ _ => rfl)) (Ar _)) (Hu (F0 (De (Ak ((Fb T).mono (by decide)) hr rfl T.F9 T.Fe.kp T.Ge .nil Bd (Aa (Ap (Ah (K := K) rfl) (pv 0) Ab (λ _ _ => rfl)) (Aa Ab Ad))))))))) (Ai (As Hw)) Aw)
   (Ai (As (Ze (B5 (Jd (Fi hr)) (Ap (Ah (K := K) rfl) (pv 0) Ab (λ _ _ => rfl)) Bm (Ar _)) (El (B5 (Jd (Fi hr)) (Ap (Ah (K := K) rfl) (pv 0) Ab (λ _ _ => rfl)) Bm (Ar _)))))))), ?_⟩
  have fin : ∀ b, b = Z1 NM (ws ps) -> ∀ H', Same H H' -> Q (.bl b) H' := λ b e => by rw [e]; exact k
  have wl := Q1 ps
  obtain ⟨v1, A1, w1⟩ := hp.get (j := 1) (by omega)
  obtain ⟨v3, A3, w3⟩ := hp.get (j := 3) (by omega)
  rw [h1] at w1
  obtain ⟨rfl, _⟩ := w1
  refine ⟨_, rfl, p, _, rfl, .inr (SqT.of hp.at_), rfl, _, rfl, ?_⟩
  rw [Z2, M7]
  by_cases hl : ps.length = 7
  case neg => exact Bt (λ _ => Ij (fin _ (by unfold Z1; rw [decide_eq_false (by omega), Bool.false_and]) H (Same.refl _))) (λ z => absurd (by rw [decide_eq_false (by omega)]; rfl) z)
  rw [decide_eq_true (by omega)]
  refine Ff ?_
  obtain ⟨v4, A4, w4⟩ := hp.get (j := 4) (by omega)
  obtain ⟨v5, A5, w5⟩ := hp.get (j := 5) (by omega)
  obtain ⟨v6, A6, w6⟩ := hp.get (j := 6) (by omega)
  have e1 : Z1 NM (ws ps) = (Hb (at_ (ws ps) 3) 1 && (Oa NM (at_ (ws ps) 4) && (!eqS (at_ (ws ps) 4) a0 && (Hb (at_ (ws ps) 5) 0 && (eqS (at_ (ws ps) 6) "yes" || eqS (at_ (ws ps) 6) "no"))))) := by unfold Z1; rw [decide_eq_true (by omega), Bool.true_and, Xn h1]
  refine ⟨_, rfl, p, _, _, _, rfl, rfl, SqT.of hp.at_, A3, v3, _, 1, rfl, w3, _, rfl, ?_⟩
  cases hf : Hb (at_ (ws ps) 3) 1 with
  | false => exact Bt (λ _ => fin _ (by rw [e1, hf, Bool.false_and]) H (Same.refl _)) (λ z => absurd rfl z)
  | true =>
  refine Ff ?_
  refine ⟨_, rfl, p, _, _, _, rfl, rfl, SqT.of hp.at_, A4, v4, _, rfl, w4, λ H1 s1 => ⟨_, rfl, ?_⟩⟩
  replace hp := hp.up s1
  replace w6 := w6.up s1
  replace w5 := w5.up s1
  cases hc : Oa NM (at_ (ws ps) 4) with
  | false => exact Bt (λ _ => Ij (fin _ (by rw [e1, hf, hc, Bool.false_and, Bool.and_false]) H1 s1)) (λ z => absurd rfl z)
  | true =>
  refine Ff ?_
  obtain ⟨t, et, _⟩ := fb hc
  rw [et] at w4
  obtain ⟨rfl, _⟩ := w4
  have e2 : Z1 NM (ws ps) = (!decide (t = a0) && (Hb (at_ (ws ps) 5) 0 && (eqS (at_ (ws ps) 6) "yes" || eqS (at_ (ws ps) 6) "no"))) := by rw [e1, hf, hc, et]; rfl
  refine ⟨_, rfl, p, _, _, _, rfl, rfl, SqT.of hp.at_, A4, _, rfl, p, _, _, _, rfl, rfl, SqT.of hp.at_, A1, rfl, _, rfl, ?_⟩
  rw [show decide (V.str t = V.str a0) = decide (t = a0) from decide_eq_decide.mpr (by rw [V.str.injEq])]
  by_cases ha : t = a0
  case pos => rw [decide_eq_true ha]; exact Ij (Ij (fin _ (by rw [e2, decide_eq_true ha]; rfl) H1 s1))
  rw [decide_eq_false ha]
  refine Ff ?_
  refine ⟨_, rfl, p, _, _, _, rfl, rfl, SqT.of hp.at_, A5, v5, _, 0, rfl, w5, _, rfl, ?_⟩
  cases h5 : Hb (at_ (ws ps) 5) 0 with
  | false => exact Bt (λ _ => fin _ (by rw [e2, h5, decide_eq_false ha]; rfl) H1 s1) (λ z => absurd rfl z)
  | true =>
  refine Ff ?_
  have e3 : Z1 NM (ws ps) = (eqS (at_ (ws ps) 6) "yes" || eqS (at_ (ws ps) 6) "no") := by rw [e2, h5, decide_eq_false ha]; rfl
  refine ⟨_, rfl, p, _, _, _, rfl, rfl, SqT.of hp.at_, A6, Ob w6 ⟨_, rfl, ?_⟩⟩
  cases h6 : eqS (at_ (ws ps) 6) "yes" with
  | true => exact Ij (fin _ (by rw [e3, h6, Bool.true_or]) H1 s1)
  | false => exact Ff ⟨_, rfl, p, _, _, _, rfl, rfl, SqT.of hp.at_, A6, Ob w6 (fin _ (by rw [e3, h6, Bool.false_or]) H1 s1)⟩
theorem Oc : Ax ["letters", "latest"] ["letters"] (Ac Gd) := ⟨rfl, rfl, rfl, by decide +kernel, rfl, by decide +kernel, by decide +kernel⟩
theorem Ws (T : Txt K mg a) : FnOk P w K mg base CX0 true 4 a.Kc a.J2 ["letters"] (V8) := by
 refine T.Sl.ok Oc (λ vs H Q E h => ?_) (λ cdv A outer s H vs Q E hr h => ?_)
 · obtain ⟨L, ms, rfl, _⟩ := h; rfl
 ·
  obtain ⟨L, ms, rfl, hL, hz, hG, k⟩ := h
  refine ⟨_, (Af (A9 (i := 1) Oc.nd rfl (Or.inl rfl) (Ak ((Te T).mono (by decide)) hr rfl T.Ue T.Mr.kp T.Ug .nil Bd (Aa (pv 0) Ad)))
   (Af (Bv (Am Rh (pv 1) Fx (Ar _)) (Ai (As Fx)) Aw)
   (Af (Bv (Am Cg (Ap (Ah (K := K) rfl) (pv 1) Ab (λ _ _ => rfl)) Bm (Ar _)) (Ai (As (Ak ((Nz T).mono (by decide)) hr rfl T.Pj T.J3.kp T.Pq .nil Bd (Aa (pv 0) (Aa (pv 1) Ad))))) Aw)
   (Ai (As (Bp (Aa (Ap (Ah (K := K) rfl) (pv 1) Ab (λ _ _ => rfl)) (Aa (Ap (Ah (K := K) rfl) (pv 1) Ab (λ _ _ => rfl)) (Aa (Ap (Ah (K := K) rfl) (pv 1) Ab (λ _ _ => rfl)) (Aa Bm (Aa Fx (Aa Fx (Aa (Bp Ad) (Aa (Bp Ad) (Aa (Bp Ad) (Aa (Bp Ad) (Aa (Bp Ad) Ad))))))))))))))))), ?_⟩
  refine ⟨_, rfl, L, ms, rfl, hL, λ v H1 s1 hv => ?_⟩
  rcases hv with ⟨rfl, hno⟩ | ⟨⟨lt, p⟩, hx, rfl, hlast⟩
  · exact ⟨_, rfl, rfl, _, rfl, Bt (λ _ => k _ H1 s1 (.inl ⟨rfl, hno⟩)) (λ z => absurd rfl z)⟩
  refine ⟨_, rfl, rfl, _, rfl, Bt (λ z => absurd z (by simp)) (λ _ => ?_)⟩
  have hl1 := (hL.ok _ hx).up s1
  obtain ⟨ys, hp, hv⟩ := id hl1
  obtain ⟨r, er⟩ := hv.four
  subst er
  refine ⟨_, rfl, p, _, _, _, rfl, rfl, SqT.of hp, Kq, rfl, _, rfl, ?_⟩
  refine Bt (λ z => ?_) (λ zk => ?_)
  ·
   have hk : lt.kind = "bid" := V.str.inj (of_decide_eq_true z)
   cases lt with
   | off => exact absurd (show Str.ofString "off" = Str.ofString "bid" from hk) (by decide)
   | close => exact absurd (show Str.ofString "close" = Str.ofString "bid" from hk) (by decide)
   | ans => exact absurd (show Str.ofString "answer" = Str.ofString "bid" from hk) (by decide)
   | bid a0 n t b e hs =>
   exact ⟨_, rfl, _, rfl, L, p, ms, a0, n, t, b, e, hs, rfl, hL.up s1, hz, hG, hl1, (hz _ hx).2.1, λ r d H2 s2 h2 h3 => k _ H2 (s1.trans s2) (.inr ⟨r, d, rfl, h2, _, hlast, h3⟩)⟩
  have z0 : (0 : Nat) <= sizeLine := Nat.zero_le _
  obtain ⟨a0, n, t, rfl⟩ : ∃ a0 n t, lt = .off a0 n t := by
   have hb := hlast.2.1
   cases lt with
   | off a0 n t => exact ⟨a0, n, t, rfl⟩
   | bid => exact absurd (decide_eq_true rfl) zk
   | close => cases hb
   | ans => cases hb
  refine ⟨_, rfl, p, _, _, _, rfl, rfl, SqT.of hp, de, _, rfl, p, _, _, _, rfl, rfl, SqT.of hp, j5, _, rfl, p, _, _, _, rfl, rfl, SqT.of hp, Zx, z0, λ e1 h1 => ⟨z0, λ e2 h2 => ⟨z0, λ e3 h3 => ⟨z0, λ e4 h4 => ⟨z0, λ e5 h5 => ⟨(by show 11 <= sizeLine; decide), λ q hq => ?_⟩⟩⟩⟩⟩⟩
  have u1 := Ag (o := .tup []) h1
  have u2 := Ag (o := .tup []) h2
  have u3 := Ag (o := .tup []) h3
  have u4 := Ag (o := .tup []) h4
  have u5 := Ag (o := .tup []) h5
  have u6 := Ag (o := .tup [.str a0, .int n, .int t, .str "off", .non, .non, .ref e1, .ref e2, .ref e3, .ref e4, .ref e5]) hq
  exact k _ _ (((((s1.trans u1).trans u2).trans u3).trans u4).trans (u5.trans u6)) (.inr ⟨q, ⟨a0, n, t, "off", none, [], [], [], [], []⟩, rfl, ⟨⟨e1, e2, e3, e4, e5, Ae, u6 _ _ (u5 _ _ (u4 _ _ (u3 _ _ (u2 _ _ Ae)))), u6 _ _ (u5 _ _ (u4 _ _ (u3 _ _ Ae))), u6 _ _ (u5 _ _ (u4 _ _ Ae)), u6 _ _ (u5 _ _ Ae), u6 _ _ Ae⟩, Nat.zero_le _, Nat.zero_le _, Nat.zero_le _, Nat.zero_le _, Nat.zero_le _⟩, _, hlast, rfl⟩)
theorem B1 : Ax ["_law_cell", "_law_seed", "_law_names", "_law_asker", "_law_number", "_law_turn", "_law_way"] ["_law_cell", "_law_seed", "_law_names"] (Ac B7) := ⟨rfl, rfl, rfl, by decide +kernel, rfl, by decide +kernel, by decide +kernel⟩
theorem Lv (T : Txt K mg a) : FnOk P w K mg base CX0 true 4 a.Dd a.C8 ["_law_cell", "_law_seed", "_law_names"] (Ls) := by
 refine T.Ip.ok B1 (λ vs H Q E h => ?_) (λ cdv A outer s H vs Q E hr h => ?_)
 · obtain ⟨L, ns, c, s, rfl, _⟩ := h; rfl
 ·
  obtain ⟨L, ns, c, sd, rfl, hL, hN, k⟩ := h
  refine ⟨_, (Af (A9 (i := 3) B1.nd rfl (Or.inl rfl) (Ap (By (K := K) rfl) (pv 2) (Ak ((Bc T).mono (by decide)) hr rfl T.Bi T.Be.kp T.Bj .nil Bd (Aa (pv 0) (Aa Ab (Aa (Aj (Mp rfl) rfl T.W7 (by decide +kernel) (Aa Ab (Aa (Aj (Ao (K := K) rfl) rfl T.Di (by decide +kernel) (Aa (pv 2) Ad)) Ad))) Ad)))) (λ _ _ => rfl)))
   (Af (A9 (i := 4) B1.nd rfl (Or.inl rfl) (Ap (By (K := K) rfl) (F1 (Aa Ab (Aa Ab (Aa Ab (Aa Ab (Aa (Bf Vh Ab Ab) Ad)))))) (Ak ((Bc T).mono (by decide)) hr rfl T.Bi T.Be.kp T.Bj .nil Bd (Aa (pv 0) (Aa Ab (Aa Ab Ad)))) (λ _ _ => rfl)))
   (Af (A9 (i := 5) B1.nd rfl (Or.inl rfl) (Bf Cr Ab (Ak ((Bc T).mono (by decide)) hr rfl T.Bi T.Be.kp T.Bj .nil Bd (Aa (pv 0) (Aa Ab (Aa (Ap (By (K := K) rfl) (F1 (Ig [.int 1, .int 2, .int 3] (by decide +kernel))) (Ak ((Bc T).mono (by decide)) hr rfl T.Bi T.Be.kp T.Bj .nil Bd (Aa (pv 0) (Aa Ab (Aa Ab Ad)))) (λ _ _ => rfl)) Ad))))))
   (Et (Bv (Am Cg (Ak ((Bc T).mono (by decide)) hr rfl T.Bi T.Be.kp T.Bj .nil Bd (Aa (pv 0) (Aa Ab (Aa Ab Ad)))) Ab (Ar _)) (Ai (A9 (i := 5) B1.nd rfl (Or.inl rfl) (Bf Cr (Bf Vh Ab Ab) (pv 5)))) Aw)
   (Af (A9 (i := 6) B1.nd rfl (Or.inl rfl) (Ak ((Bc T).mono (by decide)) hr rfl T.Bi T.Be.kp T.Bj .nil Bd (Aa (pv 0) (Aa Ab (Aa Ab Ad)))))
   (Af (Bv (Am Tq (pv 6) Ab (Ar _)) (Ai (As (Ak ((Qa T).mono (by decide)) hr rfl T.Tb T.Lh.kp T.Sj .nil Bd (Aa (pv 1) (Aa (pv 2) (Aa (pv 3) (Aa (pv 4) (Aa (pv 5) Ad)))))))) Aw)
   (Af (Bv (Am Cg (pv 6) Ab (Ar _)) (Ai (As (Ak ((L7 T).mono (by decide)) hr rfl T.N6 T.Jk.kp T.Nq .nil Bd (Aa (pv 1) (Aa (pv 2) (Aa (pv 3) (Aa (pv 4) (Aa (pv 5) Ad)))))))) Aw)
   (Ai (As (Ak ((Lw T).mono (by decide)) hr rfl T.Mg T.Ia.kp T.M8 .nil Bd (Aa (pv 1) (Aa (pv 2) (Aa (pv 3) (Aa (pv 4) (Aa (pv 5) (Aa (pv 0) Ad)))))))))))))))), ?_⟩
  have hlo := hN.lo
  refine ⟨_, rfl, _, rfl, _, rfl, L, _, rfl, .inl (SqL.of hL), _, _, rfl, _, _, _, rfl, by decide, by decide, (by rw [List.length_map]; split <;> omega), λ v v0 v1 _ => ?_⟩
  rw [List.length_map] at v1
  obtain ⟨a0, ha, ea⟩ := Kl (ts := ns) (i := v) v0 (by split at v1 <;> omega)
  refine ⟨L, _, _, _, rfl, rfl, SqL.of hL, ea, ?_⟩
  refine ⟨_, _, rfl, rfl, ⟨by decide, by decide, by decide⟩, (by show 5 <= sizeLine; decide), λ l hl => ⟨_, rfl, _, _, _, rfl, by decide, by decide, by decide, λ v2 x0 x1 _ => ?_⟩⟩
  obtain ⟨n, n0, n1, en⟩ := Pe (ts := [0, 0, 1, 2, 10 ^ (9 : Int).toNat]) (i := v2) 0 (10 ^ 9) x0 x1 (by decide)
  refine ⟨l, _, _, _, rfl, rfl, SqL.of Ae, en, ?_⟩
  have s1 := Ag (o := .lst [.int 0, .int 0, .int 1, .int 2, .int (10 ^ (9 : Int).toNat)]) hl
  replace hL := s1 _ _ hL
  generalize upd H l (.lst [.int 0, .int 0, .int 1, .int 2, .int (10 ^ (9 : Int).toNat)]) = H1 at *
  refine ⟨_, rfl, (by show 3 <= sizeLine; decide), λ l2 hl2 => ⟨_, rfl, _, _, _, rfl, by decide, by decide, by decide, λ v3 y0 y1 _ => ?_⟩⟩
  obtain ⟨wd, w0, w1, we⟩ := Pe (ts := [1, 2, 3]) (i := v3) 1 3 y0 y1 (by decide)
  refine ⟨l2, _, _, _, rfl, rfl, SqL.of Ae, we, _, _, _, rfl, by decide, by decide, by omega, λ v4 z0 z1 _ => ⟨_, _, rfl, rfl, ?_⟩⟩
  have s2 := s1.trans (Ag (o := .lst [.int 1, .int 2, .int 3]) hl2)
  replace hL := Ag (o := .lst [.int 1, .int 2, .int 3]) hl2 _ _ hL
  generalize upd H1 l2 (.lst [.int 1, .int 2, .int 3]) = H2 at *
  refine ⟨λ σ H' => H' = H2 /\ ∃ t : Int, 1 <= t /\ t <= 10 ^ 10 /\ σ = [some (.int c), some (.int sd), some (.ref L), some (.str a0), some (.int n), some (.int t), none], ?_, ?_⟩
  ·
   refine ⟨_, rfl, _, _, _, rfl, by decide, by decide, by decide, λ u _ _ _ => ⟨rfl, _, rfl, Bt (λ _ => ?_) (λ _ => ⟨rfl, _, by omega, by omega, rfl⟩)⟩⟩
   refine ⟨_, _, rfl, rfl, ⟨by decide, by decide, by decide⟩, _, rfl, _, _, rfl, rfl, rfl, _, ?_, ?_, rfl⟩
   ·
    have : (10 : Int) ^ (9 : Int).toNat = 1000000000 := by decide
    rw [this]
    omega
   ·
    have : (10 : Int) ^ (9 : Int).toNat = 1000000000 := by decide
    rw [this]
    omega
  rintro _ H3 ⟨e3, t, t0, t1, rfl⟩
  obtain rfl := e3.symm
  refine ⟨_, rfl, _, _, _, rfl, by decide, by decide, by decide, λ wy _ _ _ => ?_⟩
  have go : ∀ (p : Addr) (l : Lt) H', Same H2 H' -> LtAt H' l p -> Rx l -> Det sd ns l -> l.mk = (a0, n) -> Q (.ref p) H' := λ p l H' s' h h' h'' _ => k p l H' (s2.trans s') h h' h''
  refine ⟨_, rfl, _, _, rfl, rfl, _, rfl, Bt (λ _ => ⟨_, rfl, _, rfl, _, rfl, _, rfl, _, rfl, L, ns, a0, sd, n, t, [], rfl, rfl, hL, hN, ha, n0, n1, t0, t1, go⟩) (λ _ => ?_)⟩
  refine ⟨_, rfl, rfl, _, rfl, Bt (λ _ => ⟨_, rfl, _, rfl, _, rfl, _, rfl, _, rfl, L, ns, a0, sd, n, t, [], rfl, rfl, hL, hN, ha, n0, n1, t0, t1, go⟩) (λ _ => ?_)⟩
  exact ⟨_, rfl, _, rfl, _, rfl, _, rfl, _, rfl, _, rfl, L, ns, a0, sd, n, t, [.int c], rfl, ⟨c, rfl⟩, hL, hN, ha, n0, n1, t0, t1, go⟩
theorem Xc : Ax ["letter"] ["letter"] (Ac Iv) := ⟨rfl, rfl, rfl, by decide +kernel, rfl, by decide +kernel, by decide +kernel⟩
theorem X3 (T : Txt K mg a) : FnOk P w K mg base CX0 true 5 a.L0 a.Ly ["letter"] (n9 (b9 NM)) := by
 refine T.U8.ok Xc (λ vs H Q E h => ?_) (λ cdv A outer s H vs Q E hr h => ?_)
 · obtain ⟨p, ps, a0, rfl, _⟩ := h; rfl
 ·
  obtain ⟨p, ps, a0, rfl, hp, h4, h1, k⟩ := h
  refine ⟨_, (Af (Bv (PW.pt (Js (Am Pf (Aj (Ao (K := K) rfl) rfl T.Di (by decide +kernel) (Aa (pv 0) Ad)) Ab (Ar _)) (Hu (F0 (De (Ak ((Fb T).mono (by decide)) hr rfl T.F9 T.Fe.kp T.Ge .nil Bd (Aa (Ap (Ah (K := K) rfl) (pv 0) Ab (λ _ _ => rfl)) (Aa Ab Ad)))))))) (Ai (As Hw)) Aw)
   (Af (Bv (PW.pt (Js (F0 (De (Ak ((Ii T).mono (by decide)) hr rfl T.Jo T.Hc.kp T.Jq .nil Bd (Aa (Ap (Ah (K := K) rfl) (pv 0) Ab (λ _ _ => rfl)) Ad)))) (Hu (F0 (De (Ak ((Ii T).mono (by decide)) hr rfl T.Jo T.Hc.kp T.Jq .nil Bd (Aa (Ap (Ah (K := K) rfl) (pv 0) Ab (λ _ _ => rfl)) Ad))))))) (Ai (As Hw)) Aw)
   (Ai (As (Ew (Ak ((Wk T).mono (by decide)) hr rfl T.Xv T.Sh.kp T.X9 .nil Bd (Aa (Ap (Ah (K := K) rfl) (pv 0) Ab (λ _ _ => rfl)) (Aa (Ap (Ah (K := K) rfl) (pv 0) Ab (λ _ _ => rfl)) Ad))) (El (Ak ((Li T).mono (by decide)) hr rfl T.L6 T.Jl.kp T.M5 .nil Bd (Aa (Ap (Ah (K := K) rfl) (pv 0) Ab (λ _ _ => rfl)) (Aa (Ap (Ah (K := K) rfl) (pv 0) Ab (λ _ _ => rfl)) (Aa Ab Ad)))))))))), ?_⟩
  have fin : ∀ b, b = b9 NM (ws ps) -> ∀ H', Same H H' -> Q (.bl b) H' := λ b e => by rw [e]; exact k
  have wl := Q1 ps
  obtain ⟨v1, A1, w1⟩ := hp.get (j := 1) (by omega)
  obtain ⟨v3, A3, w3⟩ := hp.get (j := 3) (by omega)
  rw [h1] at w1
  obtain ⟨rfl, _⟩ := w1
  refine ⟨_, rfl, p, _, rfl, .inr (SqT.of hp.at_), rfl, _, rfl, ?_⟩
  rw [Z2, M7]
  by_cases hl : ps.length = 7
  case neg => exact Bt (λ _ => Ij (fin _ (by unfold b9; rw [decide_eq_false (by omega), Bool.false_and]) H (Same.refl _))) (λ z => absurd (by rw [decide_eq_false (by omega)]; rfl) z)
  rw [decide_eq_true (by omega)]
  refine Ff ?_
  obtain ⟨v4, A4, w4⟩ := hp.get (j := 4) (by omega)
  obtain ⟨v5, A5, w5⟩ := hp.get (j := 5) (by omega)
  obtain ⟨v6, A6, w6⟩ := hp.get (j := 6) (by omega)
  have e1 : b9 NM (ws ps) = (Hb (at_ (ws ps) 3) 1 && (df (at_ (ws ps) 4) && (df (at_ (ws ps) 5) && (ny (at_ (ws ps) 4) (at_ (ws ps) 5) && Ci NM (at_ (ws ps) 6) a0 1)))) := by unfold b9; rw [decide_eq_true (by omega), Bool.true_and, Xn h1]
  refine ⟨_, rfl, p, _, _, _, rfl, rfl, SqT.of hp.at_, A3, v3, _, 1, rfl, w3, _, rfl, ?_⟩
  cases hf : Hb (at_ (ws ps) 3) 1 with
  | false => exact Bt (λ _ => fin _ (by rw [e1, hf, Bool.false_and]) H (Same.refl _)) (λ z => absurd rfl z)
  | true =>
  refine Ff ?_
  refine ⟨_, rfl, p, _, _, _, rfl, rfl, SqT.of hp.at_, A4, v4, _, rfl, w4, _, rfl, ?_⟩
  cases h4n : df (at_ (ws ps) 4) with
  | false => exact Bt (λ _ => Ij (fin _ (by rw [e1, hf, h4n, Bool.false_and, Bool.and_false]) H (Same.refl _))) (λ z => absurd rfl z)
  | true =>
  refine Ff ?_
  refine ⟨_, rfl, p, _, _, _, rfl, rfl, SqT.of hp.at_, A5, v5, _, rfl, w5, _, rfl, ?_⟩
  cases h5n : df (at_ (ws ps) 5) with
  | false => exact Bt (λ _ => fin _ (by rw [e1, hf, h4n, h5n, Bool.false_and, Bool.and_false, Bool.and_false]) H (Same.refl _)) (λ z => absurd rfl z)
  | true =>
  refine Ff ?_
  obtain ⟨b, eb⟩ := md h4n
  obtain ⟨e, ee⟩ := md h5n
  rw [eb] at w4
  rw [ee] at w5
  cases w4
  cases w5
  have e2 : b9 NM (ws ps) = (decide (b < e) && Ci NM (at_ (ws ps) 6) a0 1) := by rw [e1, hf, h4n, h5n, eb, ee]; rfl
  refine ⟨_, rfl, p, _, _, _, rfl, rfl, SqT.of hp.at_, A4, _, rfl, p, _, _, _, rfl, rfl, SqT.of hp.at_, A5, b, e, rfl, _, rfl, ?_⟩
  by_cases hbe : b < e
  ·
   rw [decide_eq_true hbe]
   exact Ij ⟨_, rfl, p, _, _, _, rfl, rfl, SqT.of hp.at_, A6, _, rfl, p, _, _, _, rfl, rfl, SqT.of hp.at_, A1, v6, _, a0, 1, rfl, w6, fin _ (by rw [e2, decide_eq_true hbe, Bool.true_and])⟩
  ·
   rw [decide_eq_false hbe]
   exact Ff (fin _ (by rw [e2, decide_eq_false hbe, Bool.false_and]) H (Same.refl _))
theorem Ux : Ax ["letter"] ["letter"] (Ac Fc) := ⟨rfl, rfl, rfl, by decide +kernel, rfl, by decide +kernel, by decide +kernel⟩
theorem Tz (T : Txt K mg a) : FnOk P w K mg base CX0 true 5 a.Iz a.Iu ["letter"] (n9 (Lg NM)) := by
 refine T.Od.ok Ux (λ vs H Q E h => ?_) (λ cdv A outer s H vs Q E hr h => ?_)
 · obtain ⟨p, ps, a0, rfl, _⟩ := h; rfl
 ·
  obtain ⟨p, ps, a0, rfl, hp, h4, h1, k⟩ := h
  refine ⟨_, (Ai (As (Ew (B5 Cg (Aj (Ao (K := K) rfl) rfl T.Di (by decide +kernel) (Aa (pv 0) Ad)) Ab (Ar _)) (Ew (Ak ((Fb T).mono (by decide)) hr rfl T.F9 T.Fe.kp T.Ge .nil Bd (Aa (Ap (Ah (K := K) rfl) (pv 0) Ab (λ _ _ => rfl)) (Aa Ab Ad))) (El (Ak ((Li T).mono (by decide)) hr rfl T.L6 T.Jl.kp T.M5 .nil Bd (Aa (Ap (Ah (K := K) rfl) (pv 0) Ab (λ _ _ => rfl)) (Aa (Ap (Ah (K := K) rfl) (pv 0) Ab (λ _ _ => rfl)) (Aa Ab Ad))))))))), ?_⟩
  have fin : ∀ b, b = Lg NM (ws ps) -> ∀ H', Same H H' -> Q (.bl b) H' := λ b e => by rw [e]; exact k
  have wl := Q1 ps
  obtain ⟨v1, A1, w1⟩ := hp.get (j := 1) (by omega)
  obtain ⟨v3, A3, w3⟩ := hp.get (j := 3) (by omega)
  rw [h1] at w1
  obtain ⟨rfl, _⟩ := w1
  refine ⟨_, rfl, p, _, rfl, .inr (SqT.of hp.at_), rfl, _, rfl, ?_⟩
  rw [Z2, M7]
  by_cases h : ps.length = 5
  case neg => rw [decide_eq_false (by omega)]; exact Ff (fin _ (by unfold Lg; rw [decide_eq_false (by omega), Bool.false_and]) H (Same.refl _))
  obtain ⟨v4, A4, w4⟩ := hp.get (j := 4) (by omega)
  rw [decide_eq_true (by omega)]
  refine Ij ⟨_, rfl, p, _, _, _, rfl, rfl, SqT.of hp.at_, A3, v3, _, 1, rfl, w3, _, rfl, ?_⟩
  have e1 : Lg NM (ws ps) = (Hb (at_ (ws ps) 3) 1 && Ci NM (at_ (ws ps) 4) a0 0) := by unfold Lg; rw [decide_eq_true (by omega), Bool.true_and, Xn h1]
  cases hf : Hb (at_ (ws ps) 3) 1 with
  | false => exact Ff (fin _ (by rw [e1, hf, Bool.false_and]) H (Same.refl _))
  | true => exact Ij ⟨_, rfl, p, _, _, _, rfl, rfl, SqT.of hp.at_, A4, _, rfl, p, _, _, _, rfl, rfl, SqT.of hp.at_, A1, v4, _, a0, 0, rfl, w4, fin _ (by rw [e1, hf, Bool.true_and])⟩
theorem Qt : Ax ["letter"] ["letter"] (Ac Dr) := ⟨rfl, rfl, rfl, by decide +kernel, rfl, by decide +kernel, by decide +kernel⟩
theorem R9 (T : Txt K mg a) : FnOk P w K mg base CX0 true 6 a.Hl a.G8 ["letter"] (Sk) := by
 refine T.M3.ok Qt (λ vs H Q E h => ?_) (λ cdv A outer s H vs Q E hr h => ?_)
 · obtain ⟨p, ps, rfl, _⟩ := h; rfl
 ·
  obtain ⟨p, ps, rfl, hp, k⟩ := h
  refine ⟨_, (Af (Bv (PW.pt (Js (F0 (De (Aj (Bk (K := K) rfl) rfl T.A8 (by decide +kernel) (Aa (pv 0) (Aa (Cw (v := .ty "tuple") rfl T.Co (by decide +kernel) rfl) Ad))))) (Hu (Am Tq (Aj (Ao (K := K) rfl) rfl T.Di (by decide +kernel) (Aa (pv 0) Ad)) Ab (Ar _))))) (Ai (As Hw)) Aw)
   (Af (Bv (PW.pt (Js (F0 (De (Ak ((Io T).mono (by decide)) hr rfl T.Ju T.Hj.kp T.Jt .nil Bd (Aa (Ap (Ah (K := K) rfl) (pv 0) Ab (λ _ _ => rfl)) Ad)))) (Hu (F0 (De (Ak ((Fb T).mono (by decide)) hr rfl T.F9 T.Fe.kp T.Ge .nil Bd (Aa (Ap (Ah (K := K) rfl) (pv 0) Ab (λ _ _ => rfl)) (Aa Ab Ad)))))))) (Ai (As Hw)) Aw)
   (Af (Bv (Am (Jd (Fi hr)) (Ap (Ah (K := K) rfl) (pv 0) Ab (λ _ _ => rfl)) Bm (Ar _)) (Ai (As (Ak ((X3 T).mono (by decide)) hr rfl T.Z7 T.U8.kp T.cc .nil Bd (Aa (pv 0) Ad)))) Aw)
   (Af (Bv (Am (Jd (Fi hr)) (Ap (Ah (K := K) rfl) (pv 0) Ab (λ _ _ => rfl)) Bm (Ar _)) (Ai (As (Ak ((Zg T).mono (by decide)) hr rfl T.dn T.Vw.kp T.cv .nil Bd (Aa (pv 0) Ad)))) Aw)
   (Af (Bv (Am (Jd (Fi hr)) (Ap (Ah (K := K) rfl) (pv 0) Ab (λ _ _ => rfl)) Bm (Ar _)) (Ai (As (Ak ((Tz T).mono (by decide)) hr rfl T.Wc T.Od.kp T.Wi .nil Bd (Aa (pv 0) Ad)))) Aw)
   (Ai (As (Ew (B5 (Jd (Fi hr)) (Ap (Ah (K := K) rfl) (pv 0) Ab (λ _ _ => rfl)) Bm (Ar _)) (El (Ak ((Rv T).mono (by decide)) hr rfl T.T9 T.Ma.kp T.Tx .nil Bd (Aa (pv 0) Ad))))))))))), ?_⟩
  have fin : ∀ b, b = isL NM (ws ps) -> ∀ H', Same H H' -> Q (.bl b) H' := λ b e => by rw [e]; exact k
  have wl := Q1 ps
  refine ⟨_, rfl, _, _, _, _, rfl, Dm.tup hp.at_, rfl, _, rfl, Bt (λ z => absurd z (by decide)) (λ _ => ?_)⟩
  refine ⟨_, rfl, p, _, rfl, .inr (SqT.of hp.at_), _, _, rfl, rfl, _, rfl, ?_⟩
  rw [M7]
  refine Bt (λ z => ?_) (λ z => ?_)
  ·
   have z' : (ps.length : Int) < 4 := of_decide_eq_true z
   exact fin _ (ir (by omega)).symm H (Same.refl _)
  have z' : ¬ (ps.length : Int) < 4 := λ w => z (decide_eq_true w)
  obtain ⟨v0, A0, w0⟩ := hp.get (j := 0) (by omega)
  obtain ⟨v1, A1, w1⟩ := hp.get (j := 1) (by omega)
  obtain ⟨v2, A2, w2⟩ := hp.get (j := 2) (by omega)
  refine ⟨_, rfl, p, _, _, _, rfl, rfl, SqT.of hp.at_, A1, v1, _, rfl, w1, λ H1 s1 => ⟨_, rfl, ?_⟩⟩
  replace hp := hp.up s1
  replace w2 := w2.up s1
  replace w0 := w0.up s1
  cases hc : Oa NM (at_ (ws ps) 1) with
  | false => exact Bt (λ _ => Ij (fin _ (aj hc).symm H1 s1)) (λ z => absurd rfl z)
  | true =>
  refine Ff ?_
  obtain ⟨a0, h1, _⟩ := fb hc
  refine ⟨_, rfl, p, _, _, _, rfl, rfl, SqT.of hp.at_, A2, v2, _, 0, rfl, w2, _, rfl, ?_⟩
  cases h2 : Hb (at_ (ws ps) 2) 0 with
  | false => exact Bt (λ _ => fin _ (f9 h2).symm H1 s1) (λ z => absurd rfl z)
  | true =>
  refine Ff ?_
  have e1 := m8 (nm := NM) (ws := ws ps) (by omega) hc h2
  have go : ∀ b, b = Lc NM (ws ps) -> ∀ H', Same H1 H' -> Q (.bl b) H' := λ b e H' s' => fin b (by rw [e1, e]) H' (s1.trans s')
  refine ⟨_, rfl, p, _, _, _, rfl, rfl, SqT.of hp.at_, A0, Ob w0 ⟨_, rfl, ?_⟩⟩
  refine Bt (λ z => ⟨_, rfl, p, ps, a0, rfl, hp, by omega, h1, go _ (af z).symm⟩) (λ z1 => ?_)
  refine ⟨_, rfl, p, _, _, _, rfl, rfl, SqT.of hp.at_, A0, Ob w0 ⟨_, rfl, ?_⟩⟩
  refine Bt (λ z => ⟨_, rfl, p, ps, a0, rfl, hp, by omega, h1, go _ (c3 z).symm⟩) (λ z2 => ?_)
  refine ⟨_, rfl, p, _, _, _, rfl, rfl, SqT.of hp.at_, A0, Ob w0 ⟨_, rfl, ?_⟩⟩
  refine Bt (λ z => ⟨_, rfl, p, ps, a0, rfl, hp, by omega, h1, go _ (Wu z).symm⟩) (λ z3 => ?_)
  refine ⟨_, rfl, p, _, _, _, rfl, rfl, SqT.of hp.at_, A0, Ob w0 ⟨_, rfl, ?_⟩⟩
  cases z4 : eqS (at_ (ws ps) 0) "answer" with
  | true => exact Ij ⟨_, rfl, p, ps, a0, rfl, hp, by omega, h1, go _ (cn z4).symm⟩
  | false => exact Ff (go _ (Y3 (.inl (Bool.eq_false_iff.mpr z1)) (Bool.eq_false_iff.mpr z2) (.inl (Bool.eq_false_iff.mpr z3)) (.inl z4)).symm H1 (Same.refl _))
theorem Hh : Ax ["self", "letter", "meeting", "told"] ["self", "letter"] (Ac C5) := ⟨rfl, rfl, rfl, by decide +kernel, rfl, by decide +kernel, by decide +kernel⟩
theorem Pt (T : Txt K mg a) : FnOk P w K mg base CX0 true 7 a.Fj a.Fn ["self", "letter"] (J4 P w a.An) := by
 refine T.Ri.ok Hh (λ vs H Q E h => ?_) (λ cdv A outer s H vs Q E hr h => ?_)
 · obtain ⟨x, k0, m0, t0, p, ms, bs, ts, l, rfl, _⟩ := h; rfl
 ·
  obtain ⟨x, k0, m0, t0, p, ms, bs, ts, l, rfl, hT, hTl, hG, hl, hok, hsz, hGl, h900, kF, kT⟩ := h
  refine ⟨_, (Af (Bv (F0 (De (Ak ((R9 T).mono (by decide)) hr rfl T.Uv T.M3.kp T.Uq .nil Bd (Aa (pv 1) Ad)))) (Ai az) Aw)
   (Af (Bv (Am (X0 (hu2 hr)) (pv 1) (Ie (K := K) rfl (pv 0)) (by with_unfolding_all rfl)) (Ai (As Hw)) Aw)
   (Et (W5 (hu2 hr) (Ie (K := K) rfl (pv 0)) (pv 1) Hw rfl)
   (Af (A9 (i := 2) Hh.nd rfl (Or.inl rfl) (Bp (Aa (Ap (Ah (K := K) rfl) (pv 1) Ab (λ _ _ => rfl)) (Aa (Ap (Ah (K := K) rfl) (pv 1) Ab (λ _ _ => rfl)) Ad))))
   (Et (Jm (O8 PySem.F.plainAttrs_list PySem.F.slot_list_append PySem.F.type_list_append Ep (O8 PySem.F.plainAttrs_dict PySem.F.slot_dict_setdefault PySem.F.type_dict_setdefault (Xq (Fi hr)) (Ie (K := K) rfl (pv 0)) (Aa (pv 2) (Aa (F1 Ad) Ad))) (Aa (pv 1) Ad)))
   (Af (A9 (i := 3) Hh.nd rfl (Or.inl rfl) (Ak ((Ws T).mono (by decide)) hr rfl T.X2 T.Sl.kp T.Y8 .nil Bd (Aa (Us (Fi hr) (Ie (K := K) rfl (pv 0)) (pv 2) (λ _ _ => rfl)) Ad)))
   (Af (Bv (Am Yx (pv 3) Fx (Ar _)) (Ai (T4 (Fi hr) (Ie (K := K) rfl (pv 0)) (pv 2) (pv 3) rfl)) Aw)
   (Ai (As Hw))))))))), ?_⟩
  obtain ⟨dx, hx⟩ := hT.ins
  obtain ⟨ps, hps, ews⟩ := hl.letAt hsz
  refine ⟨_, rfl, p, ps, rfl, hps, λ H1 s1 => ⟨_, rfl, ?_⟩⟩
  rw [ews, show isL NM l.ws = true from hok]
  refine Ff ?_
  refine ⟨_, rfl, _, rfl, x, _, dx, _, _, rfl, s1 _ _ hx, T.Cf, T.Iq, rfl, p, k0, l.nk, nks ms, rfl, rfl, (hl.up s1).nk, hT.kept.up s1, _, rfl, ?_⟩
  cases hh : O6 (nks ms) l.nk with
  | true => exact Ij (kF hh H1 s1)
  | false =>
  refine Ff ?_
  refine ⟨λ σ H2 => H2 = upd H1 k0 (Jv P w k0 (nks ms ++ [(l.nk, p)])) /\ σ = [some (.ref x), some (.ref p), none, none], ⟨_, rfl, x, _, dx, _, _, rfl, s1 _ _ hx, T.Cf, T.Iq, rfl, _, rfl, k0, p, l.nk, nks ms, rfl, rfl, rfl, (hl.up s1).nk, hT.kept.up s1, hh, (by unfold nks; rw [List.length_map]; omega), rfl, rfl⟩, ?_⟩
  rintro _ _ ⟨rfl, rfl⟩
  have nK : ∀ {b : Addr} {o : HO}, H1 b = some o -> (∀ φ, o ≠ .ext φ) -> o ≠ .dK [] -> b ≠ k0 := λ {b o} e n1 n2 => by
   rcases (hT.kept.up s1).at_ with e' | ⟨_, e'⟩
   · exact Eo e e' (n1 _)
   · exact Eo e e' n2
  have keep : ∀ {b : Addr} {o : HO}, H1 b = some o -> (∀ φ, o ≠ .ext φ) -> o ≠ .dK [] -> (upd H1 k0 (Jv P w k0 (nks ms ++ [(l.nk, p)]))) b = some o := λ {b o} e n1 n2 => by rw [Al (nK e n1 n2)]; exact e
  have tups : ∀ b xs, H1 b = some (.tup xs) -> (upd H1 k0 (Jv P w k0 (nks ms ++ [(l.nk, p)]))) b = some (.tup xs) := λ b xs e => keep e (λ _ z => nomatch z) (λ z => nomatch z)
  have hx2 := keep (s1 _ _ hx) (λ _ z => nomatch z) (λ z => nomatch z)
  have hm2 := keep (s1 _ _ hT.byM) (λ _ z => nomatch z) (λ z => nomatch z)
  have ht2 := keep (s1 _ _ hT.told) (λ _ z => nomatch z) (λ z => nomatch z)
  have hk2 : KeptAt P w (upd H1 k0 (Jv P w k0 (nks ms ++ [(l.nk, p)]))) k0 (nks (ms ++ [(l, p)])) := by
   have := (hT.kept.up s1).put (hl.up s1).nk (by unfold nks; rw [List.length_map]; omega)
   unfold nks at this ⊢
   rw [List.map_append]
   exact this
  have hb2 : BsOk (upd H1 k0 (Jv P w k0 (nks ms ++ [(l.nk, p)]))) ms bs := hT.by_.up λ b hb o e => by
   rw [hT.by_.at_ b hb] at e
   cases e
   exact keep (s1 _ _ (hT.by_.at_ b hb)) (λ _ z => nomatch z) (λ z => nomatch z)
  have hy2 : ∀ y ∈ ms, LtAt (upd H1 k0 (Jv P w k0 (nks ms ++ [(l.nk, p)]))) y.1 y.2 := λ y hy => ((hT.ok y hy).up s1).upT tups
  have hl2 : LtAt (upd H1 k0 (Jv P w k0 (nks ms ++ [(l.nk, p)]))) l p := (hl.up s1).upT tups
  have keepO : ∀ b o, H b = some o -> b ≠ k0 -> (upd H1 k0 (Jv P w k0 (nks ms ++ [(l.nk, p)]))) b = some o := λ b o e nb => by rw [Al nb]; exact s1 _ _ e
  clear keep tups
  obtain ⟨vs, hp, hv⟩ := id hl2
  obtain ⟨r, er⟩ := hv.four
  subst er
  refine ⟨_, rfl, p, _, _, _, rfl, rfl, SqT.of hp, de, _, rfl, p, _, _, _, rfl, rfl, SqT.of hp, j5, (by show 2 <= sizeLine; decide), λ q hq => ?_⟩
  have u3 := Ag (o := .tup [.str l.asker, .int l.number]) hq
  have hq3 : (upd (upd H1 k0 (Jv P w k0 (nks ms ++ [(l.nk, p)]))) q (.tup [.str l.asker, .int l.number])) q = some (.tup [.str l.asker, .int l.number]) := Ae
  replace hx2 := u3 _ _ hx2
  replace hm2 := u3 _ _ hm2
  replace ht2 := u3 _ _ ht2
  replace hk2 := hk2.up u3
  replace hb2 := hb2.up λ b _ o e => u3 _ o e
  replace hl2 := hl2.up u3
  replace hy2 := λ y hy => (hy2 y hy).up u3
  replace hp := u3 _ _ hp
  replace keepO := λ b o (e : H b = some o) (nb : b ≠ k0) => u3 _ _ (keepO b o e nb)
  clear hq u3 hps ews
  generalize upd (upd H1 k0 (Jv P w k0 (nks ms ++ [(l.nk, p)]))) q (.tup [.str l.asker, .int l.number]) = H3 at *
  have hok3 : ∀ y ∈ ms ++ [(l, p)], LtAt H3 y.1 y.2 := λ y hy => (List.mem_append.mp hy).elim (hy2 y) λ z => by rw [List.mem_singleton] at z; subst z; exact hl2
  refine ⟨λ σ H4 => ∃ (L : Addr) (bs' : MBs), σ = [some (.ref x), some (.ref p), some (.ref q), none] /\ MidT P w a.An H H4 x dx k0 m0 t0 q L l p ms bs bs' ts, ?_, ?_⟩
  ·
   refine ⟨_, rfl, x, _, dx, _, _, rfl, hx2, T.Cf, T.Dl, rfl, .inr (.inr (.inl ⟨rfl, .inr ⟨_, hm2⟩⟩)), _, rfl, (by show 0 <= sizeLine; decide), λ N hN => ?_⟩
   have uN := Ag (o := .lst []) hN
   refine ⟨m0, q, bsK bs, [.inr l.asker, .inl l.number], .ref N, rfl, rfl, uN _ _ hm2, uN _ _ hq3, (by unfold bsK; rw [List.length_map, sizeLine_eq]; have := hT.few; omega), ?_⟩
   cases hv : Eu (bsK bs) [.inr l.asker, .inl l.number] with
   |
    some w0 =>
    obtain ⟨b, hb, hbk, rfl⟩ := gf (k := l.mk) hv
    refine .inl ⟨_, rfl, .inl ⟨rfl, _, SqL.of (uN _ _ (hb2.at_ b hb))⟩, _, rfl, b.2.1, _, _, rfl, rfl, uN _ _ (hb2.at_ b hb), ?_, b.2.1, _, rfl, bf keepO hq3 hx2 hk2 hok3 hm2 ht2 hb2 hN hv hb hbk⟩
    rw [List.length_map, hb2.is_ b hb, sizeLine_eq]
    exact Nat.lt_of_le_of_lt (List.length_filter_le _ _) (by omega)
   |
    none =>
    have nmN : N ≠ m0 := λ z => by rw [z, hm2] at hN; cases hN
    refine .inr ⟨rfl, .inl ⟨rfl, [], SqL.of (by rw [Al nmN]; exact Ae)⟩, _, rfl, N, [], _, rfl, rfl, (by rw [Al nmN]; exact Ae), (by show 0 < sizeLine; decide), N, _, rfl, bb keepO hq3 hx2 hk2 (hT.own (.inl rfl)) hok3 hm2 ht2 hT.ne hb2 hN hv⟩
  rintro _ H4 ⟨L, bs', rfl, M⟩
  obtain ⟨b, hbm, hbk, hbL⟩ := M.at_
  have hLts := ku M.by_ M.ok (by rw [List.length_append]; show _ + 1 <= _; omega) hbm
  have hin : ∀ y ∈ b.2.2, y ∈ ms ++ [(l, p)] := λ y hy => by rw [M.by_.is_ b hbm] at hy; exact (List.mem_filter.mp hy).1
  have hall : ∀ {F : Lt -> Prop}, (∀ y ∈ ms, F y.1) -> F l -> ∀ y ∈ b.2.2, F y.1 := λ {F} h1 h2 y hy => (List.mem_append.mp (hin y hy)).elim (h1 y) λ z => by rw [List.mem_singleton] at z; subst z; exact h2
  have hS : inM b.2.2 = inK (ms ++ [(l, p)]) l.mk := by rw [M.by_.is_ b hbm, n5, hbk]
  have tups4 : ∀ c xs, H c = some (.tup xs) -> H4 c = some (.tup xs) := λ c xs e => M.fr c _ e (hT.notup e)
  refine ⟨_, rfl, x, _, dx, _, _, rfl, M.ins, T.Cf, T.Dl, rfl, _, rfl, m0, .ref L, rfl, M.val ▸ DGet.t M.byM M.q_, L, b.2.2, rfl, (by rw [← hbL]; exact hLts), hall hT.sz hsz, hall hG hGl, λ v H5 s5 hv => ?_⟩
  rw [hS] at hv
  have T5 := M.tab hT.sz hsz h900 hT.few.2.1 hT.few.2.2 hT.ne s5
  have fr5 : ∀ c o, H c = some o -> ¬ bq k0 m0 t0 bs c -> H5 c = some o := λ c o e n => s5 _ _ (M.fr c o e n)
  have tl5 : TlOk H5 ms ts := hTl.upT λ c xs e => s5 _ _ (tups4 c xs e)
  rcases hv with ⟨rfl, hno⟩ | ⟨r, d, rfl, hd, hto⟩
  ·
   refine ⟨_, rfl, rfl, _, rfl, Bt (λ z => absurd z (by decide)) (λ _ => ?_)⟩
   exact kT hh bs' ts H5 fr5 M.new T5 (tl5.non hno)
  refine ⟨_, rfl, rfl, _, rfl, Bt (λ _ => ?_) (λ z => absurd (by simp) z)⟩
  refine ⟨_, rfl, _, rfl, x, _, dx, _, _, rfl, s5 _ _ M.ins, T.Cf, T.Cs, rfl, _, rfl, t0, _, rfl, DPut.t (k := mkK l.mk) (s5 _ _ M.told) (s5 _ _ M.q_) (by rw [sizeLine_eq]; have := hT.few; omega), ?_⟩
  have tp : ∀ c xs, H5 c = some (.tup xs) -> (upd H5 t0 (.dT (putK ts (mkK l.mk) (.ref r)))) c = some (.tup xs) := λ c xs e => by rw [Al (Eo e (s5 _ _ M.told) (λ z => nomatch z))]; exact e
  refine kT hh bs' _ _ (λ c o e n => ?_) M.new (T5.tell (by rw [List.length_append]; exact Nat.le_trans (Dv _ _ _) (Nat.succ_le_succ hT.few.2.2))) ((tl5.upT tp).put (hd.upT tp) hto)
  rw [Al (λ z => n (.inr (.inr (.inl z))))]
  exact fr5 c o e n
theorem Tt : Ax ["_law_found", "_law_due"] ["_law_found", "_law_due"] (Ac Dq) := ⟨rfl, rfl, rfl, by decide +kernel, rfl, by decide +kernel, by decide +kernel⟩
theorem Pm (T : Txt K mg a) (n : Nat) (IH : FnOk P w K mg base CX0 true (20 + n) a.Dw a.Dt ["_law_found", "_law_due"] (Gz n)) : FnOk P w K mg base CX0 true (20 + n + 1) a.Dw a.Dt ["_law_found", "_law_due"] (Gz (n + 1)) := by
 refine T.I0.ok Tt (λ vs H Q E h => ?_) (λ cdv A outer s H vs Q E hr h => ?_)
 · obtain ⟨v, u, rfl, _⟩ := h; rfl
 ·
  obtain ⟨v, u, rfl, hA, k⟩ := h
  refine ⟨_, (Af (Bv (PW.pt (Js (De (Aj (Bk (K := K) rfl) rfl T.A8 (by decide +kernel) (Aa (pv 1) (Aa (Cw (v := .ty "tuple") rfl T.Co (by decide +kernel) rfl) Ad)))) (Hu (De (Aj (Bk (K := K) rfl) rfl T.A8 (by decide +kernel) (Aa (pv 1) (Aa (Cw (v := .ty "list") rfl T.Mc (by decide +kernel) rfl) Ad))))))) (Af (Bv (PW.pt (Js (Am Pf (Aj (Bk (K := K) rfl) rfl T.A8 (by decide +kernel) (Aa (pv 0) (Aa (Cw (v := .ty "tuple") rfl T.Co (by decide +kernel) rfl) Ad))) (Aj (Bk (K := K) rfl) rfl T.A8 (by decide +kernel) (Aa (pv 1) (Aa (Cw (v := .ty "tuple") rfl T.Co (by decide +kernel) rfl) Ad))) (Ar _)) (Hu (Am Pf (Aj (Bk (K := K) rfl) rfl T.A8 (by decide +kernel) (Aa (pv 0) (Aa (Cw (v := .ty "list") rfl T.Mc (by decide +kernel) rfl) Ad))) (Aj (Bk (K := K) rfl) rfl T.A8 (by decide +kernel) (Aa (pv 1) (Aa (Cw (v := .ty "list") rfl T.Mc (by decide +kernel) rfl) Ad))) (Ar _))))) (Ai (As Hw)) Aw)
   (Af (Bv (Am Pf (Aj (Ao (K := K) rfl) rfl T.Di (by decide +kernel) (Aa (pv 0) Ad)) (Aj (Ao (K := K) rfl) rfl T.Di (by decide +kernel) (Aa (pv 1) Ad)) (Ar _)) (Ai (As Hw)) Aw)
   (Ai (As (Aj (Ik (K := K) rfl rfl) rfl T.Pl (by decide +kernel) (Aa (B8 (N := ["_law_k", "_law_found", "_law_due"]) (cap := [none, some 0, some 1]) (by show Ay (Ac Dq) _ ["_law_found", "_law_due"] _ _; exact ⟨rfl, by decide +kernel, by decide +kernel, by decide +kernel, by decide +kernel, rfl, by decide +kernel⟩) rfl (Kd rfl T.Hm (Aa (Aj (Ao (K := K) rfl) rfl T.Di (by decide +kernel) (Aa (pv 1) Ad)) Ad)) (λ C s H fp => ⟨(Bh (i := 0) (by show (["_law_k", "_law_found", "_law_due"] : List Str).Nodup; decide +kernel) rfl (Or.inl rfl) (.inr rfl)), F5, (Ak ((IH).mono (by omega)) hr rfl T.Kz T.I0.kp T.Le .nil Bd (Aa (Ap (Zn (K := K) rfl) (pv 1) (pv 0) (λ _ _ => rfl)) (Aa (Ap (Zn (K := K) rfl) (pv 2) (pv 0) (λ _ _ => rfl)) Ad)))⟩)) Ad)))))) Aw)
   (Af (Bv (Am Rh (pv 1) Fx (Ar _)) (Ai (As (B5 Rh (pv 0) Fx (Ar _)))) Aw)
   (Af (Bv (De (Aj (Bk (K := K) rfl) rfl T.A8 (by decide +kernel) (Aa (pv 1) (Aa (Cw (v := .ty "str") rfl T.T8 (by decide +kernel) rfl) Ad)))) (Ai (As (Ew (Aj (Bk (K := K) rfl) rfl T.A8 (by decide +kernel) (Aa (pv 0) (Aa (Cw (v := .ty "str") rfl T.T8 (by decide +kernel) rfl) Ad))) (El (B5 Cg (pv 0) (pv 1) (Ar _)))))) Aw)
   (Ai (As (Ew (Aj (Bk (K := K) rfl) rfl T.A8 (by decide +kernel) (Aa (pv 0) (Aa (Cw (v := .ty "int") rfl T.Wr (by decide +kernel) rfl) Ad))) (Ew (Yq (Aj (Bk (K := K) rfl) rfl T.A8 (by decide +kernel) (Aa (pv 0) (Aa (Cw (v := .ty "bool") rfl T.Ol (by decide +kernel) rfl) Ad)))) (El (B5 Cg (pv 0) (pv 1) (Ar _)))))))))), ?_⟩
  rcases hA with ⟨rfl, ha⟩ | ⟨p, q, xs, ys, rfl, rfl, hpq, hl, hz, hs⟩
  ·
   cases v with
   |
    non =>
    refine ⟨_, rfl, _, _, _, _, rfl, Dm.non, rfl, _, rfl, Bt (λ z => absurd z (by decide)) (λ _ => ⟨_, rfl, _, _, _, _, rfl, Dm.non, rfl, _, rfl, Bt (λ z => absurd z (by decide)) (λ _ => ?_)⟩)⟩
    refine ⟨_, rfl, rfl, _, rfl, Bt (λ _ => ?_) (λ z => absurd rfl z)⟩
    exact ⟨_, rfl, rfl, k H (Same.refl _)⟩
   |
    int i =>
    refine ⟨_, rfl, _, _, _, _, rfl, Dm.int _, rfl, _, rfl, Bt (λ z => absurd z (by decide)) (λ _ => ⟨_, rfl, _, _, _, _, rfl, Dm.int _, rfl, _, rfl, Bt (λ z => absurd z (by decide)) (λ _ => ?_)⟩)⟩
    refine ⟨_, rfl, rfl, _, rfl, Bt (λ z => absurd z (by simp)) (λ _ => ?_)⟩
    refine ⟨_, rfl, _, _, _, _, rfl, Dm.int _, rfl, _, rfl, Bt (λ z => absurd z (by decide)) (λ _ => ?_)⟩
    refine ⟨_, rfl, _, _, _, _, rfl, Dm.int _, rfl, _, rfl, Bt (λ _ => ?_) (λ z => absurd rfl z)⟩
    refine ⟨_, rfl, _, _, _, _, rfl, Dm.int _, rfl, _, rfl, _, rfl, Bt (λ _ => ?_) (λ z => absurd rfl z)⟩
    refine ⟨_, rfl, _, rfl, rfl, ?_⟩
    rw [decide_eq_true rfl]
    exact k H (Same.refl _)
   |
    str x =>
    refine ⟨_, rfl, _, _, _, _, rfl, Dm.str _, rfl, _, rfl, Bt (λ z => absurd z (by decide)) (λ _ => ⟨_, rfl, _, _, _, _, rfl, Dm.str _, rfl, _, rfl, Bt (λ z => absurd z (by decide)) (λ _ => ?_)⟩)⟩
    refine ⟨_, rfl, rfl, _, rfl, Bt (λ z => absurd z (by simp)) (λ _ => ?_)⟩
    refine ⟨_, rfl, _, _, _, _, rfl, Dm.str _, rfl, _, rfl, Bt (λ _ => ?_) (λ z => absurd rfl z)⟩
    refine ⟨_, rfl, _, _, _, _, rfl, Dm.str _, rfl, _, rfl, Bt (λ _ => ?_) (λ z => absurd rfl z)⟩
    refine ⟨_, rfl, _, rfl, rfl, ?_⟩
    rw [decide_eq_true rfl]
    exact k H (Same.refl _)
   | bl => exact ha.elim
   | byt => exact ha.elim
   | flt => exact ha.elim
   | ref => exact ha.elim
   | ty => exact ha.elim
  rcases hpq with ⟨hp, hq⟩ | ⟨hp, hq⟩
  ·
   refine ⟨_, rfl, _, _, _, _, rfl, Dm.tup hq, rfl, _, rfl, Bt (λ _ => ?_) (λ z => absurd rfl z)⟩
   refine ⟨_, rfl, _, _, _, _, rfl, Dm.tup hp, rfl, _, rfl, _, _, _, _, rfl, Dm.tup hq, rfl, rfl, _, rfl, Bt (λ z => absurd z (by decide)) (λ _ => ?_)⟩
   refine ⟨_, rfl, _, _, _, _, rfl, Dm.tup hp, rfl, _, rfl, _, _, _, _, rfl, Dm.tup hq, rfl, rfl, _, rfl, Bt (λ z => absurd z (by decide)) (λ _ => ?_)⟩
   refine ⟨_, rfl, p, _, rfl, .inr (SqT.of hp), _, rfl, q, _, rfl, .inr (SqT.of hq), rfl, _, rfl, ?_⟩
   rw [hl]
   refine jy rfl ?_
   refine ⟨_, rfl, q, _, rfl, .inr (SqT.of hq), (ys.length : Int), rfl, by omega, by omega, ?_⟩
   refine Bl (Gh 0 _ H) (λ _ => true) (λ _ => .bl true) (by rw [List.length_map, List.length_range]; omega) (λ x _ H' _ R hR => hR H' (Same.refl _)) ?_ (λ D H1 s1 hD0 hD => ?_)
   ·
    intro x hx _ H' sm R hR
    obtain ⟨j, hj, rfl⟩ := List.mem_map.mp hx
    have hj2 := List.mem_range.mp hj
    have j1 : j < ys.length := by omega
    have j2 : j < xs.length := by omega
    have e1 : xs[j]? = some xs[j] := List.getElem?_eq_getElem j2
    have e2 : ys[j]? = some ys[j] := List.getElem?_eq_getElem j1
    have a1 : atI xs (0 + (j : Int)) = some xs[j] := by rw [show (0 + (j : Int)) = ((j : Nat) : Int) by omega]; exact Bb e1
    have a2 : atI ys (0 + (j : Int)) = some ys[j] := by rw [show (0 + (j : Int)) = ((j : Nat) : Int) by omega]; exact Bb e2
    exact ⟨_, rfl, _, rfl, .inr <| .inl ⟨p, _, _, _, rfl, rfl, SqT.of (sm _ _ hp), a1, _, rfl, _, rfl, .inr <| .inl ⟨q, _, _, _, rfl, rfl, SqT.of (sm _ _ hq), a2, _, _, rfl, AlH.up (n := n) sm (hs j _ _ e1 e2), λ H3 s3 => hR H3 s3⟩⟩⟩
   rw [List.filter_eq_self.mpr (λ _ _ => rfl), Zo] at hD
   refine ⟨D, _, rfl, SqL.of hD, ?_⟩
   rw [Ut]
   exact k H1 s1
  ·
   refine ⟨_, rfl, _, _, _, _, rfl, Dm.lst hq, rfl, _, rfl, Bt (λ z => absurd z (by decide)) (λ _ => ⟨_, rfl, _, _, _, _, rfl, Dm.lst hq, rfl, _, rfl, Bt (λ _ => ?_) (λ z => absurd rfl z)⟩)⟩
   refine ⟨_, rfl, _, _, _, _, rfl, Dm.lst hp, rfl, _, rfl, _, _, _, _, rfl, Dm.lst hq, rfl, rfl, _, rfl, Bt (λ z => absurd z (by decide)) (λ _ => ?_)⟩
   refine ⟨_, rfl, _, _, _, _, rfl, Dm.lst hp, rfl, _, rfl, _, _, _, _, rfl, Dm.lst hq, rfl, rfl, _, rfl, Bt (λ z => absurd z (by decide)) (λ _ => ?_)⟩
   refine ⟨_, rfl, p, _, rfl, .inl (SqL.of hp), _, rfl, q, _, rfl, .inl (SqL.of hq), rfl, _, rfl, ?_⟩
   rw [hl]
   refine jy rfl ?_
   refine ⟨_, rfl, q, _, rfl, .inl (SqL.of hq), (ys.length : Int), rfl, by omega, by omega, ?_⟩
   refine Bl (Gh 0 _ H) (λ _ => true) (λ _ => .bl true) (by rw [List.length_map, List.length_range]; omega) (λ x _ H' _ R hR => hR H' (Same.refl _)) ?_ (λ D H1 s1 hD0 hD => ?_)
   ·
    intro x hx _ H' sm R hR
    obtain ⟨j, hj, rfl⟩ := List.mem_map.mp hx
    have hj2 := List.mem_range.mp hj
    have j1 : j < ys.length := by omega
    have j2 : j < xs.length := by omega
    have e1 : xs[j]? = some xs[j] := List.getElem?_eq_getElem j2
    have e2 : ys[j]? = some ys[j] := List.getElem?_eq_getElem j1
    have a1 : atI xs (0 + (j : Int)) = some xs[j] := by rw [show (0 + (j : Int)) = ((j : Nat) : Int) by omega]; exact Bb e1
    have a2 : atI ys (0 + (j : Int)) = some ys[j] := by rw [show (0 + (j : Int)) = ((j : Nat) : Int) by omega]; exact Bb e2
    exact ⟨_, rfl, _, rfl, .inl ⟨p, _, _, _, rfl, rfl, SqL.of (sm _ _ hp), a1, _, rfl, _, rfl, .inl ⟨q, _, _, _, rfl, rfl, SqL.of (sm _ _ hq), a2, _, _, rfl, AlH.up (n := n) sm (hs j _ _ e1 e2), λ H3 s3 => hR H3 s3⟩⟩⟩
   rw [List.filter_eq_self.mpr (λ _ _ => rfl), Zo] at hD
   refine ⟨D, _, rfl, SqL.of hD, ?_⟩
   rw [Ut]
   exact k H1 s1
theorem Ll (T : Txt K mg a) : ∀ n, FnOk P w K mg base CX0 true (20 + n) a.Dw a.Dt ["_law_found", "_law_due"] (Gz n)
 | 0 => ⟨λ vs H Q E h => by obtain ⟨v, u, rfl, h1, _⟩ := h; exact h1.elim, λ A outer s H args us vs Q E _ _ _ _ h => by obtain ⟨v, u, rfl, h1, _⟩ := h; exact h1.elim⟩
 | n + 1 => Pm T n (Ll T n)
theorem L8 (T : Txt K mg a) : FnOk P w K mg base CX0 true 30 a.Dw a.Dt ["_law_found", "_law_due"] (Gz 6) := (Ll T 6).mono (by decide)
theorem Hy : Ax ["_law_script", "_law_names", "_law_table", "_law_letters", "_law_held", "_law_k", "_law_cell", "_law_letter", "_law_hand", "_law_due", "_law_found"] ["_law_script"] (Ac Uj) := ⟨rfl, rfl, rfl, by decide +kernel, rfl, by decide +kernel, by decide +kernel⟩
theorem n8 (T : Txt K mg a) : FnOk P w K mg base CX0 true 32 a.W0 a.Uo ["_law_script"] (Vl K) := by
 refine T.qu.ok Hy (λ vs H Q E h => ?_) (λ cdv A outer s H vs Q E hr h => ?_)
 · obtain ⟨sa, ns, rfl, _⟩ := h; rfl
 ·
  obtain ⟨sa, ns, rfl, hS, hlen, k⟩ := h
  refine ⟨_, (Af (A9 (i := 1) Hy.nd rfl (Or.inl rfl) (Ak ((Mf T).mono (by decide)) hr rfl T.Nr T.Jg.kp T.Nw .nil Bd (Aa (Ak ((Jf T).mono (by decide)) hr rfl T.Jz T.G5.kp T.Ks .nil Bd (Aa (pv 0) (Aa Ab Ad))) Ad)))
   (Af (A9 (i := 2) Hy.nd rfl (Or.inl rfl) (ah T.Kw ((Ml T).mono (by decide)) hr rfl T.jo T.Np .nil Bd))
   (Af (A9 (i := 3) Hy.nd rfl (Or.inl rfl) (F1 Ad))
   (Af (A9 (i := 4) Hy.nd rfl (Or.inl rfl) (F1 Ad))
   (Af (Oy PassesOwn.never rfl (Kd rfl T.Hm (Aa (Aj (Mp rfl) rfl T.W7 (by decide +kernel) (Aa Ab (Aa (Bf Om (Aj (Ao (K := K) rfl) rfl T.Di (by decide +kernel) (Aa (pv 0) Ad)) Ab) Ad))) Ad)) (Bh (i := 5) Hy.nd rfl (Or.inl rfl)) (Af (A9 (i := 6) Hy.nd rfl (Or.inl rfl) (Ap (By (K := K) rfl) (pv 0) (Bf Cr Ab (pv 5)) (λ _ _ => rfl)))
   (Af (A9 (i := 7) Hy.nd rfl (Or.inl rfl) (Ak ((Lv T).mono (by decide)) hr rfl T.Me T.Ip.kp T.Mt .nil Bd (Aa (pv 6) (Aa (Ak ((Jf T).mono (by decide)) hr rfl T.Jz T.G5.kp T.Ks .nil Bd (Aa (pv 0) (Aa Ab Ad))) (Aa (pv 1) Ad)))))
   (Et (Jm (L3 (n := 1) (D := λ C R => (C = a.An /\ R = λ x vs H Q => (J4 P w a.An) (x :: (vs ++ ([] : List V))) H Q E0)) (pv 2) (by rintro C R ⟨rfl, rfl⟩ <;> first | exact ⟨T.Cf, _, _, _, _, _, _, _, _, _, _, T.Qo, (Pt T).mono (by decide), hr, T.Ru, .nil, Bd, λ _ _ _ _ _ h => h⟩) (Aa (pv 7) Ad)))
   (Et (Bv (Am (Ra (hu2 hr)) (pv 7) (pv 3) (by with_unfolding_all rfl)) (Ai (Jm (O8 PySem.F.plainAttrs_list PySem.F.slot_list_append PySem.F.type_list_append Ep (pv 3) (Aa (pv 7) Ad)))) Aw)
   (Ai (Bv (PW.pt (Js (Am Cg (Bf En (pv 5) Ab) Ab (Ar _)) (Hu (Am Cg (pv 5) (Bf Om (Aj (Ao (K := K) rfl) rfl T.Di (by decide +kernel) (Aa (pv 0) Ad)) Ab) (Ar _))))) (Af (Oy PassesOwn.never rfl (Bx (K := K) rfl (F1 (Aa (Ap (By (K := K) rfl) (pv 1) (Bf En (pv 6) (Aj (Ao (K := K) rfl) rfl T.Di (by decide +kernel) (Aa (pv 1) Ad))) (λ _ _ => rfl)) (Aa (Ap (By (K := K) rfl) (pv 1) (Bf En (Bf Hz (pv 6) Ab) (Aj (Ao (K := K) rfl) rfl T.Di (by decide +kernel) (Aa (pv 1) Ad))) (λ _ _ => rfl)) (Aa Bm Ad))))) (Bh (i := 8) Hy.nd rfl (Or.inl rfl)) (Af (A9 (i := 9) Hy.nd rfl (Or.inl rfl) (Ak ((Mb T).mono (by decide)) hr rfl T.N1 T.Ji.kp T.Nu .nil Bd (Aa (pv 3) (Aa (pv 8) Ad))))
   (Af (A9 (i := 10) Hy.nd rfl (Or.inl rfl) (L3 (n := 1) (D := λ C R => (C = a.An /\ R = λ x vs H Q => (F6 P w a.An) (x :: (vs ++ ([] : List V))) H Q E0)) (pv 2) (by rintro C R ⟨rfl, rfl⟩ <;> first | exact ⟨T.Cf, _, _, _, _, _, _, _, _, _, _, T.Jj, (Je T).mono (by decide), hr, T.Ki, .nil, Bd, λ _ _ _ _ _ h => h⟩) (Aa (pv 8) Ad)))
   (Af (Bv (F0 (De (Ak ((L8 T).mono (by decide)) hr rfl T.Kz T.I0.kp T.Le .nil Bd (Aa (pv 10) (Aa (pv 9) Ad))))) (Ai (As Hw)) Aw)
   (Ai (Jm (O8 PySem.F.plainAttrs_list PySem.F.slot_list_append PySem.F.type_list_append Ep (pv 4) (Aa (Bp (Aa (pv 10) (Aa (pv 9) Ad))) Ad))))))))
   (Ai (Jm (O8 PySem.F.plainAttrs_list PySem.F.slot_list_append PySem.F.type_list_append Ep (L3 (n := 1) (D := λ C R => (C = a.An /\ R = λ x vs H Q => (F6 P w a.An) (x :: (vs ++ ([] : List V))) H Q E0)) (pv 2) (by rintro C R ⟨rfl, rfl⟩ <;> first | exact ⟨T.Cf, _, _, _, _, _, _, _, _, _, _, T.Jj, (Je T).mono (by decide), hr, T.Ki, .nil, Bd, λ _ _ _ _ _ h => h⟩) (Aa (Ap (By (K := K) rfl) (pv 1) Ab (λ _ _ => rfl)) Ad)) (Aa (Bp (Ig [.int 1, .int 2, .str "a", .int 0] (by decide +kernel))) Ad))))) Aw)))))))
   (Ai (As (Aj (Ik (K := K) rfl rfl) rfl T.Pl (by decide +kernel) (Aa (B8 (N := ["_law_found", "_law_due"]) (cap := [none, none]) (by show Ay (Ac Uj) _ ["_law_script", "_law_names", "_law_table", "_law_letters", "_law_held", "_law_k", "_law_cell", "_law_letter", "_law_hand", "_law_due", "_law_found"] _ _; exact ⟨rfl, by decide +kernel, by decide +kernel, by decide +kernel, by decide +kernel, rfl, by decide +kernel⟩) rfl (Bx (K := K) rfl (pv 4)) (λ C s H fp => ⟨(js (K := K) (n := 2) rfl rfl (Vy (Bh (i := 0) (by show (["_law_found", "_law_due"] : List Str).Nodup; decide +kernel) rfl (Or.inl rfl) (.inr rfl)) (Vy (Bh (i := 1) (by show (["_law_found", "_law_due"] : List Str).Nodup; decide +kernel) rfl (Or.inl rfl) (.inr rfl)) gg))), F5, (Ak ((L8 T).mono (by decide)) hr rfl T.Kz T.I0.kp T.Le .nil Bd (Aa (pv 0) (Aa (pv 1) Ad)))⟩)) Ad))))))))), ?_⟩
  have s0 := Same.refl H
  refine ⟨_, rfl, sa, ns, _, rfl, s0.seq hS, by decide, ⟨_, rfl, λ L nl H1 s1 hL hN => ?_⟩⟩
  obtain ⟨sd, hsd⟩ : ∃ sd, sd = Wn ns 1 := ⟨_, rfl⟩
  refine λ x dx nx ndx nex => ?_
  have up1 : ∀ b u, H1 b = some u -> (upd (upd H1 dx (.own x)) x (.ins a.An dx [])) b = some u := λ b u e => by rw [Al (Aq e nx), Al (Aq e ndx)]; exact e
  refine ⟨x, dx, rfl, Ae, λ k0 m0 t0 H2 fr hk0 hm0 ht0 hT => ⟨rfl, ?_⟩⟩
  have f1 : ∀ b, (upd (upd H1 dx (.own x)) x (.ins a.An dx [])) b = none -> H1 b = none := λ b e => by
   cases e2 : H1 b with
   | none => rfl
   | some o => rw [up1 b o e2] at e; cases e
  replace hk0 := f1 _ hk0
  replace hm0 := f1 _ hm0
  replace ht0 := f1 _ ht0
  have s2 : Same H1 H2 := λ b u e => fr b u (up1 b u e) (Aq e nx)
  clear fr f1 up1
  have f2 : ∀ b, H2 b = none -> H1 b = none := λ b e => by
   cases e2 : H1 b with
   | none => rfl
   | some o => rw [s2 b o e2] at e; cases e
  refine ⟨(by show 0 <= sizeLine; decide), λ Kp hKp => ?_⟩
  have u1 := Ag (o := .lst []) hKp
  have hKp1 := f2 _ hKp
  refine ⟨(by show 0 <= sizeLine; decide), λ Hd hHd => ?_⟩
  have u2 := Ag (o := .lst []) hHd
  have hHd1 : H1 Hd = none := by
   cases e2 : H1 Hd with
   | none => rfl
   | some o => rw [u1 _ _ (s2 _ o e2)] at hHd; cases hHd
  have eK : (upd (upd H2 Kp (.lst [])) Hd (.lst [])) Kp = some (.lst []) := u2 _ _ Ae
  have eH : (upd (upd H2 Kp (.lst [])) Hd (.lst [])) Hd = some (.lst []) := Ae
  have neK : Kp ≠ Hd := Aq (Ae (H := H2) (a := Kp) (o := .lst [])) hHd
  have s3 : Same H1 (upd (upd H2 Kp (.lst [])) Hd (.lst [])) := (s2.trans u1).trans u2
  replace hT := (hT.up u1).up u2
  clear u1 u2 f2 hKp hHd
  generalize upd (upd H2 Kp (.lst [])) Hd (.lst []) = H3 at *
  have hM : ∀ b, MK k0 m0 t0 [] Kp Hd b -> H1 b = none := by
   rintro b ((z | z | z | ⟨y, hy, z⟩) | z | z)
   · rw [z]; exact hk0
   · rw [z]; exact hm0
   · rw [z]; exact ht0
   · cases hy
   · rw [z]; exact hKp1
   · rw [z]; exact hHd1
  have I3 : LI (λ l => Rx l /\ Det sd nl l) P w a.An (Frm (MK k0 m0 t0 [] Kp Hd) H3) H3 x k0 m0 t0 Kp Hd [] [] [] [] := ⟨Same.refl _, hT, (λ _ z => nomatch z), List.nodup_nil, eK, eH, (λ _ z => nomatch z), (λ _ z => nomatch z), neK⟩
  have s1F : Same H1 (Frm (MK k0 m0 t0 [] Kp Hd) H3) := λ b o e => Frm.iff.mpr ⟨(λ z => by rw [hM b z] at e; cases e), s3 b o e⟩
  clear hM
  have tl0 : TlOk H3 [] [] := ⟨λ k => .inl ⟨rfl, λ x h => nomatch h.1⟩, (λ _ h => nomatch h), List.nodup_nil⟩
  generalize Frm (MK k0 m0 t0 [] Kp Hd) H3 = H0 at *
  replace hL := s1F _ _ hL
  have sH := s1.trans s1F
  obtain ⟨N, hN1⟩ : ∃ N : Int, N = (if ((ns.map V.int).length : Int) - 2 < 30 then ((ns.map V.int).length : Int) - 2 else 30) := ⟨_, rfl⟩
  have hN2 : N <= 30 /\ N <= (ns.length : Int) - 2 := by rw [List.length_map] at hN1; split at hN1 <;> omega
  have hN3 : -(2 ^ 62) <= N := by rw [List.length_map] at hN1; split at hN1 <;> omega
  refine ⟨_, rfl, sa, _, rfl, .inl ((s1.trans s3).seq hS), _, _, rfl, rfl, _, _, rfl, N, by rw [hN1], hN3, by omega, ?_⟩
  refine Lf (H0 := H0) (Gh 0 N.toNat H0) (λ i σ H' => ∃ ms bs ts hs y5 y6 y7 y8 y9 y10, LI (λ l => Rx l /\ Det sd nl l) P w a.An H0 H' x k0 m0 t0 Kp Hd ms bs ts hs /\ TlOk H' ms ts /\ ms.length <= i /\ hs.length <= 3 * i /\ σ = [some (.ref sa), some (.ref L), some (.ref x), some (.ref Kp), some (.ref Hd), y5, y6, y7, y8, y9, y10]) ⟨[], [], [], [], _, _, _, _, _, _, I3, tl0, Nat.le_refl _, Nat.le_refl _, rfl⟩ (λ i σ H' _ h => by obtain ⟨ms, bs, ts, hs, y5, y6, y7, y8, y9, y10, I, _⟩ := h; exact I.base.trans Frm.same) ?_ ?_
  ·
   rintro i v σ H4 hv ⟨ms, bs, ts, hs, y5, y6, y7, y8, y9, y10, I, tl, hm1, hh1, rfl⟩
   have hi : i < N.toNat := by have h1 := (List.getElem?_eq_some_iff.mp hv).1; rw [List.length_map, List.length_range] at h1; exact h1
   obtain ⟨kk, rfl, hkk⟩ : ∃ kk : Int, v = .int kk /\ kk = i := by
    rw [List.getElem?_map, List.getElem?_range hi] at hv
    exact ⟨0 + (i : Int), (Option.some.inj hv).symm, by omega⟩
   have S4 := I.base.trans Frm.same
   obtain ⟨c, _, ec⟩ := Vm (ts := ns) (i := 2 + kk) (by omega) (by omega)
   refine ⟨_, rfl, _, rfl, _, _, rfl, rfl, sa, _, _, _, rfl, rfl, (sH.trans S4).seq hS, ec, ?_⟩
   refine ⟨_, rfl, _, rfl, sa, ns, _, rfl, (sH.trans S4).seq hS, by decide, _, rfl, L, nl, c, sd, by rw [hsd]; rfl, S4 _ _ hL, hN, λ p l H5 s5 hp hok hdt => ?_⟩
   have hsz := ri hok
   replace I := I.up s5
   replace tl := tl.up s5
   clear S4 s5
   obtain ⟨dx, hx⟩ := I.tab.ins
   have nw : (ms.map λ y => V.ref y.2) ++ [V.ref p] = (ms ++ [(l, p)]).map λ y => V.ref y.2 := by rw [List.map_append]; rfl
   refine ⟨λ σ H' => σ = [some (.ref sa), some (.ref L), some (.ref x), some (.ref Kp), some (.ref Hd), some (.int kk), some (.int c), some (.ref p), y8, y9, y10] /\ LtAt H' l p /\ ((O6 (nks ms) l.nk = true /\ LI (λ l => Rx l /\ Det sd nl l) P w a.An H0 H' x k0 m0 t0 Kp Hd ms bs ts hs /\ TlOk H' ms ts) ∨ ∃ bs' ts', O6 (nks ms) l.nk = false /\ H' Kp = some (.lst (ms.map λ y => V.ref y.2)) /\ TabAt P w a.An H' x k0 m0 t0 (ms ++ [(l, p)]) bs' ts' /\ LI (λ l => Rx l /\ Det sd nl l) P w a.An H0 (upd H' Kp (.lst ((ms.map λ y => V.ref y.2) ++ [.ref p]))) x k0 m0 t0 Kp Hd (ms ++ [(l, p)]) bs' ts' hs /\ TlOk H' (ms ++ [(l, p)]) ts'), ?_, ?_⟩
   ·
    refine ⟨_, rfl, x, _, dx, _, _, rfl, hx, rfl, ⟨rfl, rfl⟩, _, rfl, rfl, x, k0, m0, t0, p, ms, bs, ts, l, rfl, I.tab, tl, λ y hy => t4 (I.lok y hy).1, hp, hok, hsz, t4 hok, by omega, λ hh H6 s6 => ⟨rfl, hp.up s6, .inl ⟨hh, I.up s6, tl.up s6⟩⟩, λ hh bs' ts' H6 fr new T6 tl6 => ?_⟩
    obtain ⟨kp6, I6⟩ := I.took fr new T6 ⟨hok, hdt⟩ hh
    exact ⟨rfl, T6.ok (l, p) (List.mem_append_right _ (List.mem_singleton.mpr rfl)), .inr ⟨bs', ts', hh, kp6, T6, I6, tl6⟩⟩
   rintro _ H6 ⟨rfl, hp6, hc⟩
   refine ⟨λ σ H' => ∃ ms bs ts, LI (λ l => Rx l /\ Det sd nl l) P w a.An H0 H' x k0 m0 t0 Kp Hd ms bs ts hs /\ TlOk H' ms ts /\ ms.length <= i + 1 /\ σ = [some (.ref sa), some (.ref L), some (.ref x), some (.ref Kp), some (.ref Hd), some (.int kk), some (.int c), some (.ref p), y8, y9, y10], ?_, ?_⟩
   ·
    rcases hc with ⟨hh, I6, tl6⟩ | ⟨bs', ts', hh, kp6, T6, I6, tl6⟩
    ·
     refine ⟨_, rfl, _, rfl, p, Kp, l.nk, nks ms, rfl, rfl, hp6.nk, (by rw [Vo]; exact I6.kp), Zc I6.tab.ok, _, rfl, ?_⟩
     rw [hh]
     exact Ff ⟨ms, bs, ts, I6, tl6, by omega, rfl⟩
    ·
     refine ⟨_, rfl, _, rfl, p, Kp, l.nk, nks ms, rfl, rfl, hp6.nk, (by rw [Vo]; exact kp6), Zc (λ y hy => T6.ok y (List.mem_append_left _ hy)), _, rfl, ?_⟩
     rw [hh]
     exact Ij ⟨_, rfl, .inl ⟨rfl, _, SqL.of kp6⟩, _, rfl, Kp, _, _, rfl, rfl, kp6, (by rw [List.length_map, sizeLine_eq]; omega), _, bs', ts', I6, tl6.upT (λ b xs e => by rw [Al (Eo e kp6 (λ z => nomatch z))]; exact e), by rw [List.length_append]; show _ + 1 <= _; omega, rfl⟩
   rintro _ H7 ⟨ms, bs, ts, I, tl, hm1, rfl⟩
   clear hc hp6 hp dx hx nw hok hdt hsz
   have S7 := sH.trans (I.base.trans Frm.same)
   have hL7 := (I.base.trans Frm.same) _ _ hL
   have hlo := hN.lo
   refine mz (λ b => ?_) (λ hK => ⟨_, rfl, _, _, rfl, rfl, (by show (0 : Int) < 4; decide), rfl, _, rfl, Bt (λ _ => hK true) (λ _ => ⟨_, rfl, _, rfl, sa, _, rfl, .inl (S7.seq hS), _, _, rfl, rfl, rfl, _, rfl, hK _⟩)⟩)
   refine Bt (λ _ => ?_) (λ _ => ⟨ms, bs, ts, hs, _, _, _, _, _, _, I, tl, by omega, by omega, rfl⟩)
   have nl0 : (0 : Int) < ((nl.map V.str).length : Int) := by rw [List.length_map]; omega
   obtain ⟨h1, _, e1⟩ := Kl (ts := nl) (i := c % ((nl.map V.str).length : Int)) (Int.emod_nonneg _ (by omega)) (by have := Int.emod_lt_of_pos c nl0; rw [List.length_map] at this ⊢; exact this)
   obtain ⟨h2, _, e2⟩ := Kl (ts := nl) (i := c / 7 % ((nl.map V.str).length : Int)) (Int.emod_nonneg _ (by omega)) (by have := Int.emod_lt_of_pos (c / 7) nl0; rw [List.length_map] at this ⊢; exact this)
   refine ⟨_, rfl, _, rfl, _, rfl, L, _, rfl, .inl (SqL.of hL7), _, _, rfl, rfl, nl0, L, _, _, _, rfl, rfl, SqL.of hL7, e1, _, rfl, _, rfl, _, _, rfl, rfl, ⟨by decide, by decide⟩, _, rfl, L, _, rfl, .inl (SqL.of hL7), _, _, rfl, rfl, nl0, L, _, _, _, rfl, rfl, SqL.of hL7, e2, (by show 3 <= sizeLine; decide), λ N3 hN0 => ⟨N3, rfl, ⟨_, SqL.of Ae⟩, ?_⟩⟩
   have uN := Ag (o := .lst [.str h1, .str h2, .str "nobody"]) hN0
   have hNF : Frm (MK k0 m0 t0 bs Kp Hd) (upd H7 N3 (.lst [.str h1, .str h2, .str "nobody"])) N3 = some (.lst [.str h1, .str h2, .str "nobody"]) := Frm.laid (M := MK k0 m0 t0 bs Kp Hd) (λ b h => I.mk_ h) hN0
   have hb0 := I.base.trans (Frm.grow uN)
   have IN := (I.up uN).self
   have tlN := tl.up uN
   generalize upd H7 N3 (.lst [.str h1, .str h2, .str "nobody"]) = HN at *
   have hU : ∀ k, gz (inK ms k) := λ k => c8 (s := sd) (ns := nl) λ z hz => ⟨by obtain ⟨y, hy, rfl⟩ := List.mem_map.mp hz.1; exact (IN.lok y hy).2, hz.2⟩
   have hvs : ∀ v ∈ [V.str h1, V.str h2, V.str "nobody"], ∃ h : Str, v = .str h := by
    intro v hv
    simp only [List.mem_cons, List.not_mem_nil, or_false] at hv
    rcases hv with rfl | rfl | rfl <;> exact ⟨_, rfl⟩
   clear e1 e2 nl0 hL7 S7
   refine Lf (Bz (K := K) (SqL.of hNF)) (λ j σ H' => ∃ hs' y8 y9 y10, LI (λ l => Rx l /\ Det sd nl l) P w a.An (Frm (MK k0 m0 t0 bs Kp Hd) HN) H' x k0 m0 t0 Kp Hd ms bs ts hs' /\ TlOk H' ms ts /\ hs'.length <= 3 * i + j /\ σ = [some (.ref sa), some (.ref L), some (.ref x), some (.ref Kp), some (.ref Hd), some (.int kk), some (.int c), some (.ref p), y8, y9, y10]) ⟨hs, _, _, _, IN, tlN, hh1, rfl⟩ (λ _ _ _ _ h => by obtain ⟨_, _, _, _, J, _⟩ := h; exact J.base.trans Frm.same) ?_ ?_
   ·
    rintro j v σ H8 hv ⟨hs', z8, z9, z10, J, tj, hj, rfl⟩
    have hj3 : j < 3 := (List.getElem?_eq_some_iff.mp hv).1
    obtain ⟨h, rfl⟩ := hvs v (List.mem_of_getElem? hv)
    refine ⟨_, rfl, _, rfl, Kp, ms, h, rfl, ⟨J.kp, J.tab.ok, by omega⟩, J.tab.sz, by omega, λ D1 z1 H9 s9 n1 e1 q1 ho1 l1 => ?_⟩
    have J9 := J.up s9
    have t9 := tj.up s9
    obtain ⟨dx, hx⟩ := J9.tab.ins
    refine ⟨_, rfl, x, _, dx, _, _, rfl, hx, rfl, ⟨rfl, rfl⟩, _, rfl, rfl, x, k0, m0, t0, ms, bs, ts, h, rfl, J9.tab, t9, by omega, λ D2 z2 HA sA n2 e2 q2 ho2 l2 => ?_⟩
    have heq := ho2.uniq hU ho1
    replace e1 := sA _ _ e1
    replace q1 := λ z hz => sA _ _ (q1 z hz)
    refine ⟨_, rfl, _, rfl, _, _, rfl, du (n := 3) e2 e1 heq q2 q1 (by omega), λ HB sB => ⟨_, rfl, Ff ?_⟩⟩
    have sZ := sA.trans sB
    have JD := J9.up sZ
    refine ⟨_, rfl, .inl ⟨rfl, _, SqL.of JD.hd⟩, _, rfl, _, rfl, (by show 2 <= sizeLine; decide), λ pa hpa => ?_⟩
    have u4 := Ag (o := .tup [.ref D2, .ref D1]) hpa
    have JE := JD.up u4
    have hpF : Frm (MK k0 m0 t0 bs Kp Hd) (upd HB pa (.tup [.ref D2, .ref D1])) pa = some (.tup [.ref D2, .ref D1]) := Frm.laid (M := MK k0 m0 t0 bs Kp Hd) (λ b h => JD.mk_ h) hpa
    have tE := (t9.up sZ).up u4
    have sE := sB.trans u4
    generalize upd HB pa (.tup [.ref D2, .ref D1]) = HE at *
    have halF : AlH (Frm (MK k0 m0 t0 bs Kp Hd) HE) 6 (.ref D2) (.ref D1) := du (n := 3) (Frm.iff.mpr ⟨(λ z => J9.mk_ z n2), sE _ _ e2⟩) (Frm.iff.mpr ⟨(λ z => J.mk_ z n1), sE _ _ e1⟩) heq (λ z hz => JE.tupF _ _ (sE _ _ (q2 z hz))) (λ z hz => JE.tupF _ _ (sE _ _ (q1 z hz))) (by omega)
    refine ⟨Hd, _, _, rfl, rfl, JE.hd, (by rw [List.length_map, sizeLine_eq]; omega), hs' ++ [pa], _, _, _, JE.keep ⟨_, _, hpF, halF⟩, tE.upT (λ b xs e => by rw [Al (Eo e JE.hd (λ z => nomatch z))]; exact e), by rw [List.length_append]; show _ + 1 <= _; omega, rfl⟩
   rintro σ H8 ⟨hs', z8, z9, z10, J, tj, hj, rfl⟩
   have hj' : hs'.length <= 3 * (i + 1) := Nat.le_trans hj (by show 3 * i + 3 <= _; omega)
   have hL8 := ((hb0.trans J.base).trans Frm.same) _ _ hL
   obtain ⟨a1, r1, en⟩ : ∃ a1 r1, nl = a1 :: r1 := by
    cases hnl : nl with
    | nil => rw [hnl] at hlo; exact absurd hlo (by decide)
    | cons a1 r1 => exact ⟨a1, r1, rfl⟩
   obtain ⟨dx, hx⟩ := J.tab.ins
   refine ⟨_, rfl, x, _, dx, _, _, rfl, hx, rfl, ⟨rfl, rfl⟩, _, rfl, L, _, _, .str a1, rfl, rfl, SqL.of hL8, by rw [en]; exact Kq, rfl, x, k0, m0, t0, ms, bs, ts, a1, rfl, J.tab, tj, by omega, λ D3 z3 H9 s9 n3 e3 q3 _ l3 => ⟨.inl ⟨rfl, _, SqL.of e3⟩, (by show 4 <= sizeLine; decide), λ pt hpt => ⟨D3, _, _, rfl, rfl, (Ag hpt) _ _ e3, (by rw [List.length_map, sizeLine_eq]; omega), ?_⟩⟩⟩
   have sY : Same H8 (upd (upd H9 pt (.tup [.int 1, .int 2, .str "a", .int 0])) D3 (.lst ((z3.map λ z => V.ref z.2) ++ [.ref pt]))) := λ b o e => by
    rw [Al (Aq e n3)]
    exact (s9.trans (Ag hpt)) _ _ e
   exact ⟨ms, bs, ts, hs', _, _, _, _, _, _, (J.rebase hb0).up sY, tj.up sY, by omega, hj', rfl⟩
  rintro σ H4 ⟨ms, bs, ts, hs, y5, y6, y7, y8, y9, y10, I, tl, hm1, hh1, rfl⟩
  obtain ⟨rs, hrs, hq⟩ := Q4 λ h hh => (I.held h hh).up Frm.same
  have hHd := I.hd
  rw [hrs, List.map_map] at hHd
  have hrl : rs.length <= 1000 := by have e := congrArg List.length hrs; rw [List.length_map] at e; rw [List.length_map, List.length_range] at hh1; omega
  refine ⟨_, rfl, Hd, rfl, ⟨_, SqL.of hHd⟩, ?_⟩
  refine c4 (Bz (K := K) (SqL.of hHd)) (λ r hr => (hq r hr).1) (λ _ => .bl true) (by omega) (λ _ _ _ h => h) ?_ (λ D H5 s5 hD0 hD => ?_)
  ·
   intro r hr H' sm R hR
   exact ⟨_, rfl, _, rfl, _, _, rfl, (hq r hr).2.up sm, λ H'' s'' => hR H'' s''⟩
  rw [c5] at hD
  refine ⟨D, _, rfl, SqL.of hD, ?_⟩
  rw [Ut]
  exact k _
end
theorem txt_mk {K : W.Frag} {h : Heap} {mg : Str -> Option Value} (X : K.In h) (G : h.Ns mainGlobals mg)
  {An : Addr}
  {fqd : Addr} {ocqd kVqd dcqd pmqd cdqd ctqd : Value} {odqd anqd : Option Addr} {slqd : Array (Option Value)}
  {fqw : Addr} {ocqw kVqw dcqw pmqw cdqw ctqw : Value} {odqw anqw : Option Addr} {slqw : Array (Option Value)}
  {fqi : Addr} {ocqi kVqi dcqi pmqi cdqi ctqi : Value} {odqi anqi : Option Addr} {slqi : Array (Option Value)}
  {fqk : Addr} {ocqk kVqk dcqk pmqk cdqk ctqk : Value} {odqk anqk : Option Addr} {slqk : Array (Option Value)}
  {fqh : Addr} {ocqh kVqh dcqh pmqh cdqh ctqh : Value} {odqh anqh : Option Addr} {slqh : Array (Option Value)}
  {fqc : Addr} {ocqc kVqc dcqc pmqc cdqc ctqc : Value} {odqc anqc : Option Addr} {slqc : Array (Option Value)}
  {fql : Addr} {ocql kVql dcql pmql cdql ctql : Value} {odql anql : Option Addr} {slql : Array (Option Value)}
  {fqz : Addr} {ocqz kVqz dcqz pmqz cdqz ctqz : Value} {odqz anqz : Option Addr} {slqz : Array (Option Value)}
  {fq3 : Addr} {ocq3 kVq3 dcq3 pmq3 cdq3 ctq3 : Value} {odq3 anq3 : Option Addr} {slq3 : Array (Option Value)}
  {fqf : Addr} {ocqf kVqf dcqf pmqf cdqf ctqf : Value} {odqf anqf : Option Addr} {slqf : Array (Option Value)}
  {fq7 : Addr} {ocq7 kVq7 dcq7 pmq7 cdq7 ctq7 : Value} {odq7 anq7 : Option Addr} {slq7 : Array (Option Value)}
  {fqq : Addr} {ocqq kVqq dcqq pmqq cdqq ctqq : Value} {odqq anqq : Option Addr} {slqq : Array (Option Value)}
  {fqa : Addr} {ocqa kVqa dcqa pmqa cdqa ctqa : Value} {odqa anqa : Option Addr} {slqa : Array (Option Value)}
  {fqu : Addr} {ocqu kVqu dcqu pmqu cdqu ctqu : Value} {odqu anqu : Option Addr} {slqu : Array (Option Value)}
  {fq0 : Addr} {ocq0 kVq0 dcq0 pmq0 cdq0 ctq0 : Value} {odq0 anq0 : Option Addr} {slq0 : Array (Option Value)}
  {fqx : Addr} {ocqx kVqx dcqx pmqx cdqx ctqx : Value} {odqx anqx : Option Addr} {slqx : Array (Option Value)}
  {fqy : Addr} {ocqy kVqy dcqy pmqy cdqy ctqy : Value} {odqy anqy : Option Addr} {slqy : Array (Option Value)}
  {fq8 : Addr} {ocq8 kVq8 dcq8 pmq8 cdq8 ctq8 : Value} {odq8 anq8 : Option Addr} {slq8 : Array (Option Value)}
  {fq9 : Addr} {ocq9 kVq9 dcq9 pmq9 cdq9 ctq9 : Value} {odq9 anq9 : Option Addr} {slq9 : Array (Option Value)}
  {fq5 : Addr} {ocq5 kVq5 dcq5 pmq5 cdq5 ctq5 : Value} {odq5 anq5 : Option Addr} {slq5 : Array (Option Value)}
  {fqr : Addr} {ocqr kVqr dcqr pmqr cdqr ctqr : Value} {odqr anqr : Option Addr} {slqr : Array (Option Value)}
  {fq2 : Addr} {ocq2 kVq2 dcq2 pmq2 cdq2 ctq2 : Value} {odq2 anq2 : Option Addr} {slq2 : Array (Option Value)}
  {fqb : Addr} {ocqb kVqb dcqb pmqb cdqb ctqb : Value} {odqb anqb : Option Addr} {slqb : Array (Option Value)}
  {fqj : Addr} {ocqj kVqj dcqj pmqj cdqj ctqj : Value} {odqj anqj : Option Addr} {slqj : Array (Option Value)}
  {fq10 : Addr} {ocq10 kVq10 dcq10 pmq10 cdq10 ctq10 : Value} {odq10 anq10 : Option Addr} {slq10 : Array (Option Value)}
  {fqp : Addr} {ocqp kVqp dcqp pmqp cdqp ctqp : Value} {odqp anqp : Option Addr} {slqp : Array (Option Value)}
  {fqg : Addr} {ocqg kVqg dcqg pmqg cdqg ctqg : Value} {odqg anqg : Option Addr} {slqg : Array (Option Value)}
  {fq4 : Addr} {ocq4 kVq4 dcq4 pmq4 cdq4 ctq4 : Value} {odq4 anq4 : Option Addr} {slq4 : Array (Option Value)}
  {fq6 : Addr} {ocq6 kVq6 dcq6 pmq6 cdq6 ctq6 : Value} {odq6 anq6 : Option Addr} {slq6 : Array (Option Value)}
  {fqo : Addr} {ocqo kVqo dcqo pmqo cdqo ctqo : Value} {odqo anqo : Option Addr} {slqo : Array (Option Value)}
  {fqn : Addr} {ocqn kVqn dcqn pmqn cdqn ctqn : Value} {odqn anqn : Option Addr} {slqn : Array (Option Value)}
  {fqv : Addr} {ocqv kVqv dcqv pmqv cdqv ctqv : Value} {odqv anqv : Option Addr} {slqv : Array (Option Value)}
  {fq1 : Addr} {ocq1 kVq1 dcq1 pmq1 cdq1 ctq1 : Value} {odq1 anq1 : Option Addr} {slq1 : Array (Option Value)}
  {fq11 : Addr} {ocq11 kVq11 dcq11 pmq11 cdq11 ctq11 : Value} {odq11 anq11 : Option Addr} {slq11 : Array (Option Value)}
  {fqt : Addr} {ocqt kVqt dcqt pmqt cdqt ctqt : Value} {odqt anqt : Option Addr} {slqt : Array (Option Value)}
  {fqm : Addr} {ocqm kVqm dcqm pmqm cdqm ctqm : Value} {odqm anqm : Option Addr} {slqm : Array (Option Value)}
  {fqe : Addr} {ocqe kVqe dcqe pmqe cdqe ctqe : Value} {odqe anqe : Option Addr} {slqe : Array (Option Value)}
  {fqs : Addr} {ocqs kVqs dcqs pmqs cdqs ctqs : Value} {odqs anqs : Option Addr} {slqs : Array (Option Value)}
  {fq12 : Addr} {ocq12 kVq12 dcq12 pmq12 cdq12 ctq12 : Value} {odq12 anq12 : Option Addr} {slq12 : Array (Option Value)}
  {t_FIGURES : Tok}
  {t_LETTERS : Tok}
  {t_MOST_HANDS : Tok}
  {t_NAME_SIGNS : Tok}
  (aC_Table : W.nsIn K mainGlobals "Table" = some (some (.ref An)))
  (pg_Table : W.plainGet K An Str.empty = true)
  (hd_Table : W.hasDictIn K An = true)
  (po_Table : W.plainOver K An = true)
  (sa_Table : W.findIn K (.ref An) "__setattr__" = some (some (.builtin "object.__setattr__")))
  (Kw : W.makesIn K An = true)
  (kc_Table : W.keepIn K (.ref An) = true)
  (nf_kept_Table : W.findIn K (.ref An) "kept" = some none)
  (nf_by_meeting_Table : W.findIn K (.ref An) "by_meeting" = some none)
  (nf_tellings_Table : W.findIn K (.ref An) "tellings" = some none)
  (aqd : W.nsIn K mainGlobals "is_made_of" = some (some (.ref fqd))) (lqd : K.lookup fqd = some ⟨ocqd, odqd, .func (W.fnOf "is_made_of" "is_made_of" (A7 Cj) (Av Cj) (Ac Cj) .none kVqd dcqd pmqd anqd cdqd ctqd), slqd⟩) (eqd : W.codeIn K cdqd "is_made_of" = true) (kqd : W.keepIn K (.ref fqd) = true)
  (aqw : W.nsIn K mainGlobals "is_span" = some (some (.ref fqw))) (lqw : K.lookup fqw = some ⟨ocqw, odqw, .func (W.fnOf "is_span" "is_span" (A7 Gn) (Av Gn) (Ac Gn) .none kVqw dcqw pmqw anqw cdqw ctqw), slqw⟩) (eqw : W.codeIn K cdqw "is_span" = true) (kqw : W.keepIn K (.ref fqw) = true)
  (aqi : W.nsIn K mainGlobals "is_number" = some (some (.ref fqi))) (lqi : K.lookup fqi = some ⟨ocqi, odqi, .func (W.fnOf "is_number" "is_number" (A7 Ds) (Av Ds) (Ac Ds) .none kVqi dcqi pmqi anqi cdqi ctqi), slqi⟩) (eqi : W.codeIn K cdqi "is_number" = true) (kqi : W.keepIn K (.ref fqi) = true)
  (aqk : W.nsIn K mainGlobals "is_rising" = some (some (.ref fqk))) (lqk : K.lookup fqk = some ⟨ocqk, odqk, .func (W.fnOf "is_rising" "is_rising" (A7 Cv) (Av Cv) (Ac Cv) .none kVqk dcqk pmqk anqk cdqk ctqk), slqk⟩) (eqk : W.codeIn K cdqk "is_rising" = true) (kqk : W.keepIn K (.ref fqk) = true)
  (aqh : W.nsIn K mainGlobals "turn_first" = some (some (.ref fqh))) (lqh : K.lookup fqh = some ⟨ocqh, odqh, .func (W.fnOf "turn_first" "turn_first" (A7 C3) (Av C3) (Ac C3) .none kVqh dcqh pmqh anqh cdqh ctqh), slqh⟩) (eqh : W.codeIn K cdqh "turn_first" = true) (kqh : W.keepIn K (.ref fqh) = true)
  (aqc : W.nsIn K mainGlobals "answers_of" = some (some (.ref fqc))) (lqc : K.lookup fqc = some ⟨ocqc, odqc, .func (W.fnOf "answers_of" "answers_of" (A7 C1) (Av C1) (Ac C1) .none kVqc dcqc pmqc anqc cdqc ctqc), slqc⟩) (eqc : W.codeIn K cdqc "answers_of" = true) (kqc : W.keepIn K (.ref fqc) = true)
  (aql : W.nsIn K mainGlobals "with_word" = some (some (.ref fql))) (lql : K.lookup fql = some ⟨ocql, odql, .func (W.fnOf "with_word" "with_word" (A7 Cm) (Av Cm) (Ac Cm) .none kVql dcql pmql anql cdql ctql), slql⟩) (eql : W.codeIn K cdql "with_word" = true) (kql : W.keepIn K (.ref fql) = true)
  (aqz : W.nsIn K mainGlobals "is_held" = some (some (.ref fqz))) (lqz : K.lookup fqz = some ⟨ocqz, odqz, .func (W.fnOf "is_held" "is_held" (A7 Gi) (Av Gi) (Ac Gi) .none kVqz dcqz pmqz anqz cdqz ctqz), slqz⟩) (eqz : W.codeIn K cdqz "is_held" = true) (kqz : W.keepIn K (.ref fqz) = true)
  (aq3 : W.findIn K (.ref An) "__init__" = some (some (.ref fq3))) (lq3 : K.lookup fq3 = some ⟨ocq3, odq3, .func (W.fnOf "__init__" "Table.__init__" (A7 Cd) (Av Cd) (Ac Cd) .none kVq3 dcq3 pmq3 anq3 cdq3 ctq3), slq3⟩) (eq3 : W.codeIn K cdq3 "Table.__init__" = true) (kq3 : W.keepIn K (.ref fq3) = true)
  (iq3 : W.isFn K (.ref fq3) = true)
  (aqf : W.findIn K (.ref An) "told" = some (some (.ref fqf))) (lqf : K.lookup fqf = some ⟨ocqf, odqf, .func (W.fnOf "told" "Table.told" (A7 Ck) (Av Ck) (Ac Ck) .none kVqf dcqf pmqf anqf cdqf ctqf), slqf⟩) (eqf : W.codeIn K cdqf "Table.told" = true) (kqf : W.keepIn K (.ref fqf) = true)
  (iqf : W.isFn K (.ref fqf) = true)
  (aq7 : W.nsIn K mainGlobals "_law_cell_at" = some (some (.ref fq7))) (lq7 : K.lookup fq7 = some ⟨ocq7, odq7, .func (W.fnOf "_law_cell_at" "_law_cell_at" (A7 Cq) (Av Cq) (Ac Cq) .none kVq7 dcq7 pmq7 anq7 cdq7 ctq7), slq7⟩) (eq7 : W.codeIn K cdq7 "_law_cell_at" = true) (kq7 : W.keepIn K (.ref fq7) = true)
  (aqq : W.nsIn K mainGlobals "_law_mixed" = some (some (.ref fqq))) (lqq : K.lookup fqq = some ⟨ocqq, odqq, .func (W.fnOf "_law_mixed" "_law_mixed" (A7 Dp) (Av Dp) (Ac Dp) .none kVqq dcqq pmqq anqq cdqq ctqq), slqq⟩) (eqq : W.codeIn K cdqq "_law_mixed" = true) (kqq : W.keepIn K (.ref fqq) = true)
  (aqa : W.nsIn K mainGlobals "_law_name_by" = some (some (.ref fqa))) (lqa : K.lookup fqa = some ⟨ocqa, odqa, .func (W.fnOf "_law_name_by" "_law_name_by" (A7 Cp) (Av Cp) (Ac Cp) .none kVqa dcqa pmqa anqa cdqa ctqa), slqa⟩) (eqa : W.codeIn K cdqa "_law_name_by" = true) (kqa : W.keepIn K (.ref fqa) = true)
  (aqu : W.nsIn K mainGlobals "_law_key" = some (some (.ref fqu))) (lqu : K.lookup fqu = some ⟨ocqu, odqu, .func (W.fnOf "_law_key" "_law_key" (A7 Gm) (Av Gm) (Ac Gm) .none kVqu dcqu pmqu anqu cdqu ctqu), slqu⟩) (equ : W.codeIn K cdqu "_law_key" = true) (kqu : W.keepIn K (.ref fqu) = true)
  (aq0 : W.nsIn K mainGlobals "_law_meeting_by" = some (some (.ref fq0))) (lq0 : K.lookup fq0 = some ⟨ocq0, odq0, .func (W.fnOf "_law_meeting_by" "_law_meeting_by" (A7 Au) (Av Au) (Ac Au) .none kVq0 dcq0 pmq0 anq0 cdq0 ctq0), slq0⟩) (eq0 : W.codeIn K cdq0 "_law_meeting_by" = true) (kq0 : W.keepIn K (.ref fq0) = true)
  (aqx : W.nsIn K mainGlobals "is_name" = some (some (.ref fqx))) (lqx : K.lookup fqx = some ⟨ocqx, odqx, .func (W.fnOf "is_name" "is_name" (A7 Gg) (Av Gg) (Ac Gg) .none kVqx dcqx pmqx anqx cdqx ctqx), slqx⟩) (eqx : W.codeIn K cdqx "is_name" = true) (kqx : W.keepIn K (.ref fqx) = true)
  (aqy : W.nsIn K mainGlobals "is_from" = some (some (.ref fqy))) (lqy : K.lookup fqy = some ⟨ocqy, odqy, .func (W.fnOf "is_from" "is_from" (A7 Gb) (Av Gb) (Ac Gb) .none kVqy dcqy pmqy anqy cdqy ctqy), slqy⟩) (eqy : W.codeIn K cdqy "is_from" = true) (kqy : W.keepIn K (.ref fqy) = true)
  (aq8 : W.nsIn K mainGlobals "told_of_bid" = some (some (.ref fq8))) (lq8 : K.lookup fq8 = some ⟨ocq8, odq8, .func (W.fnOf "told_of_bid" "told_of_bid" (A7 B3) (Av B3) (Ac B3) .none kVq8 dcq8 pmq8 anq8 cdq8 ctq8), slq8⟩) (eq8 : W.codeIn K cdq8 "told_of_bid" = true) (kq8 : W.keepIn K (.ref fq8) = true)
  (aq9 : W.findIn K (.ref An) "holds" = some (some (.ref fq9))) (lq9 : K.lookup fq9 = some ⟨ocq9, odq9, .func (W.fnOf "holds" "Table.holds" (A7 B2) (Av B2) (Ac B2) .none kVq9 dcq9 pmq9 anq9 cdq9 ctq9), slq9⟩) (eq9 : W.codeIn K cdq9 "Table.holds" = true) (kq9 : W.keepIn K (.ref fq9) = true)
  (iq9 : W.isFn K (.ref fq9) = true)
  (aq5 : W.nsIn K mainGlobals "_law_names_by" = some (some (.ref fq5))) (lq5 : K.lookup fq5 = some ⟨ocq5, odq5, .func (W.fnOf "_law_names_by" "_law_names_by" (A7 B4) (Av B4) (Ac B4) .none kVq5 dcq5 pmq5 anq5 cdq5 ctq5), slq5⟩) (eq5 : W.codeIn K cdq5 "_law_names_by" = true) (kq5 : W.keepIn K (.ref fq5) = true)
  (aqr : W.nsIn K mainGlobals "_law_some" = some (some (.ref fqr))) (lqr : K.lookup fqr = some ⟨ocqr, odqr, .func (W.fnOf "_law_some" "_law_some" (A7 C4) (Av C4) (Ac C4) .none kVqr dcqr pmqr anqr cdqr ctqr), slqr⟩) (eqr : W.codeIn K cdqr "_law_some" = true) (kqr : W.keepIn K (.ref fqr) = true)
  (aq2 : W.nsIn K mainGlobals "_law_answer_of" = some (some (.ref fq2))) (lq2 : K.lookup fq2 = some ⟨ocq2, odq2, .func (W.fnOf "_law_answer_of" "_law_answer_of" (A7 Bw) (Av Bw) (Ac Bw) .none kVq2 dcq2 pmq2 anq2 cdq2 ctq2), slq2⟩) (eq2 : W.codeIn K cdq2 "_law_answer_of" = true) (kq2 : W.keepIn K (.ref fq2) = true)
  (aqb : W.nsIn K mainGlobals "_law_told_by" = some (some (.ref fqb))) (lqb : K.lookup fqb = some ⟨ocqb, odqb, .func (W.fnOf "_law_told_by" "_law_told_by" (A7 B9) (Av B9) (Ac B9) .none kVqb dcqb pmqb anqb cdqb ctqb), slqb⟩) (eqb : W.codeIn K cdqb "_law_told_by" = true) (kqb : W.keepIn K (.ref fqb) = true)
  (aqj : W.nsIn K mainGlobals "is_called" = some (some (.ref fqj))) (lqj : K.lookup fqj = some ⟨ocqj, odqj, .func (W.fnOf "is_called" "is_called" (A7 Dx) (Av Dx) (Ac Dx) .none kVqj dcqj pmqj anqj cdqj ctqj), slqj⟩) (eqj : W.codeIn K cdqj "is_called" = true) (kqj : W.keepIn K (.ref fqj) = true)
  (aq10 : W.nsIn K mainGlobals "is_off" = some (some (.ref fq10))) (lq10 : K.lookup fq10 = some ⟨ocq10, odq10, .func (W.fnOf "is_off" "is_off" (A7 Ja) (Av Ja) (Ac Ja) .none kVq10 dcq10 pmq10 anq10 cdq10 ctq10), slq10⟩) (eq10 : W.codeIn K cdq10 "is_off" = true) (kq10 : W.keepIn K (.ref fq10) = true)
  (aqp : W.nsIn K mainGlobals "latest_of" = some (some (.ref fqp))) (lqp : K.lookup fqp = some ⟨ocqp, odqp, .func (W.fnOf "latest_of" "latest_of" (A7 Cz) (Av Cz) (Ac Cz) .none kVqp dcqp pmqp anqp cdqp ctqp), slqp⟩) (eqp : W.codeIn K cdqp "latest_of" = true) (kqp : W.keepIn K (.ref fqp) = true)
  (aqg : W.nsIn K mainGlobals "_law_bid_of" = some (some (.ref fqg))) (lqg : K.lookup fqg = some ⟨ocqg, odqg, .func (W.fnOf "_law_bid_of" "_law_bid_of" (A7 C2) (Av C2) (Ac C2) .none kVqg dcqg pmqg anqg cdqg ctqg), slqg⟩) (eqg : W.codeIn K cdqg "_law_bid_of" = true) (kqg : W.keepIn K (.ref fqg) = true)
  (aq4 : W.nsIn K mainGlobals "_law_close_of" = some (some (.ref fq4))) (lq4 : K.lookup fq4 = some ⟨ocq4, odq4, .func (W.fnOf "_law_close_of" "_law_close_of" (A7 Cb) (Av Cb) (Ac Cb) .none kVq4 dcq4 pmq4 anq4 cdq4 ctq4), slq4⟩) (eq4 : W.codeIn K cdq4 "_law_close_of" = true) (kq4 : W.keepIn K (.ref fq4) = true)
  (aq6 : W.nsIn K mainGlobals "_law_holds_by" = some (some (.ref fq6))) (lq6 : K.lookup fq6 = some ⟨ocq6, odq6, .func (W.fnOf "_law_holds_by" "_law_holds_by" (A7 Ce) (Av Ce) (Ac Ce) .none kVq6 dcq6 pmq6 anq6 cdq6 ctq6), slq6⟩) (eq6 : W.codeIn K cdq6 "_law_holds_by" = true) (kq6 : W.keepIn K (.ref fq6) = true)
  (aqo : W.nsIn K mainGlobals "are_hands" = some (some (.ref fqo))) (lqo : K.lookup fqo = some ⟨ocqo, odqo, .func (W.fnOf "are_hands" "are_hands" (A7 Cy) (Av Cy) (Ac Cy) .none kVqo dcqo pmqo anqo cdqo ctqo), slqo⟩) (eqo : W.codeIn K cdqo "are_hands" = true) (kqo : W.keepIn K (.ref fqo) = true)
  (aqn : W.nsIn K mainGlobals "is_answer" = some (some (.ref fqn))) (lqn : K.lookup fqn = some ⟨ocqn, odqn, .func (W.fnOf "is_answer" "is_answer" (A7 Dn) (Av Dn) (Ac Dn) .none kVqn dcqn pmqn anqn cdqn ctqn), slqn⟩) (eqn : W.codeIn K cdqn "is_answer" = true) (kqn : W.keepIn K (.ref fqn) = true)
  (aqv : W.nsIn K mainGlobals "told_of" = some (some (.ref fqv))) (lqv : K.lookup fqv = some ⟨ocqv, odqv, .func (W.fnOf "told_of" "told_of" (A7 Gd) (Av Gd) (Ac Gd) .none kVqv dcqv pmqv anqv cdqv ctqv), slqv⟩) (eqv : W.codeIn K cdqv "told_of" = true) (kqv : W.keepIn K (.ref fqv) = true)
  (aq1 : W.nsIn K mainGlobals "_law_letter_by" = some (some (.ref fq1))) (lq1 : K.lookup fq1 = some ⟨ocq1, odq1, .func (W.fnOf "_law_letter_by" "_law_letter_by" (A7 B7) (Av B7) (Ac B7) .none kVq1 dcq1 pmq1 anq1 cdq1 ctq1), slq1⟩) (eq1 : W.codeIn K cdq1 "_law_letter_by" = true) (kq1 : W.keepIn K (.ref fq1) = true)
  (aq11 : W.nsIn K mainGlobals "is_bid" = some (some (.ref fq11))) (lq11 : K.lookup fq11 = some ⟨ocq11, odq11, .func (W.fnOf "is_bid" "is_bid" (A7 Iv) (Av Iv) (Ac Iv) .none kVq11 dcq11 pmq11 anq11 cdq11 ctq11), slq11⟩) (eq11 : W.codeIn K cdq11 "is_bid" = true) (kq11 : W.keepIn K (.ref fq11) = true)
  (aqt : W.nsIn K mainGlobals "is_close" = some (some (.ref fqt))) (lqt : K.lookup fqt = some ⟨ocqt, odqt, .func (W.fnOf "is_close" "is_close" (A7 Fc) (Av Fc) (Ac Fc) .none kVqt dcqt pmqt anqt cdqt ctqt), slqt⟩) (eqt : W.codeIn K cdqt "is_close" = true) (kqt : W.keepIn K (.ref fqt) = true)
  (aqm : W.nsIn K mainGlobals "is_letter" = some (some (.ref fqm))) (lqm : K.lookup fqm = some ⟨ocqm, odqm, .func (W.fnOf "is_letter" "is_letter" (A7 Dr) (Av Dr) (Ac Dr) .none kVqm dcqm pmqm anqm cdqm ctqm), slqm⟩) (eqm : W.codeIn K cdqm "is_letter" = true) (kqm : W.keepIn K (.ref fqm) = true)
  (aqe : W.findIn K (.ref An) "take" = some (some (.ref fqe))) (lqe : K.lookup fqe = some ⟨ocqe, odqe, .func (W.fnOf "take" "Table.take" (A7 C5) (Av C5) (Ac C5) .none kVqe dcqe pmqe anqe cdqe ctqe), slqe⟩) (eqe : W.codeIn K cdqe "Table.take" = true) (kqe : W.keepIn K (.ref fqe) = true)
  (iqe : W.isFn K (.ref fqe) = true)
  (aqs : W.nsIn K mainGlobals "_law_like" = some (some (.ref fqs))) (lqs : K.lookup fqs = some ⟨ocqs, odqs, .func (W.fnOf "_law_like" "_law_like" (A7 Dq) (Av Dq) (Ac Dq) .none kVqs dcqs pmqs anqs cdqs ctqs), slqs⟩) (eqs : W.codeIn K cdqs "_law_like" = true) (kqs : W.keepIn K (.ref fqs) = true)
  (aq12 : W.nsIn K mainGlobals "law" = some (some (.ref fq12))) (lq12 : K.lookup fq12 = some ⟨ocq12, odq12, .func (W.fnOf "law" "law" (A7 Uj) (Av Uj) (Ac Uj) .none kVq12 dcq12 pmq12 anq12 cdq12 ctq12), slq12⟩) (eq12 : W.codeIn K cdq12 "law" = true) (kq12 : W.keepIn K (.ref fq12) = true)
  (Im : W.nsIn K mainGlobals "FIGURES" = some (some (.str "0123456789" t_FIGURES)))
  (F8 : W.nsIn K mainGlobals "LETTERS" = some (some (.str "abcdefghijklmnopqrstuvwxyz" t_LETTERS)))
  (Ek : W.nsIn K mainGlobals "MOST_HANDS" = some (some (.int 20 t_MOST_HANDS)))
  (Er : W.nsIn K mainGlobals "NAME_SIGNS" = some (some (.int 8 t_NAME_SIGNS)))
  (Pl : W.nsIn K mainGlobals "all" = some none)
  (Ol : W.nsIn K mainGlobals "bool" = some none)
  (Wr : W.nsIn K mainGlobals "int" = some none)
  (A8 : W.nsIn K mainGlobals "isinstance" = some none)
  (Di : W.nsIn K mainGlobals "len" = some none)
  (Mc : W.nsIn K mainGlobals "list" = some none)
  (Tc : W.nsIn K mainGlobals "max" = some none)
  (W7 : W.nsIn K mainGlobals "min" = some none)
  (Hm : W.nsIn K mainGlobals "range" = some none)
  (Ea : W.nsIn K mainGlobals "sorted" = some none)
  (T8 : W.nsIn K mainGlobals "str" = some none)
  (Co : W.nsIn K mainGlobals "tuple" = some none) :
  ∃ a : Adr, Txt K mg a /\ a.W0 = fq12 /\ ∀ (s : Shared) (v : Value), BindsTo s a.Uo ⟨[v], []⟩ [("_law_script", v)] := by
 have Fqd := Bo (st := Cj) lqd eqd kqd
 have bqd := Fqd.binds (ps := ["text", "signs"]) λ _ _ _ _ _ _ us hl => by obtain ⟨_, _, rfl⟩ := L2.ex2 hl; exact rfl
 have Fqw := Bo (st := Gn) lqw eqw kqw
 have bqw := Fqw.binds (ps := ["begin", "end"]) λ _ _ _ _ _ _ us hl => by obtain ⟨_, _, rfl⟩ := L2.ex2 hl; exact rfl
 have Fqi := Bo (st := Ds) lqi eqi kqi
 have bqi := Fqi.binds (ps := ["value"]) λ _ _ _ _ _ _ us hl => by obtain ⟨_, rfl⟩ := L2.ex1 hl; exact rfl
 have Fqk := Bo (st := Cv) lqk eqk kqk
 have bqk := Fqk.binds (ps := ["hands"]) λ _ _ _ _ _ _ us hl => by obtain ⟨_, rfl⟩ := L2.ex1 hl; exact rfl
 have Fqh := Bo (st := C3) lqh eqh kqh
 have bqh := Fqh.binds (ps := ["letter"]) λ _ _ _ _ _ _ us hl => by obtain ⟨_, rfl⟩ := L2.ex1 hl; exact rfl
 have Fqc := Bo (st := C1) lqc eqc kqc
 have bqc := Fqc.binds (ps := ["letters", "turn"]) λ _ _ _ _ _ _ us hl => by obtain ⟨_, _, rfl⟩ := L2.ex2 hl; exact rfl
 have Fql := Bo (st := Cm) lql eql kql
 have bql := Fql.binds (ps := ["asked", "answers", "word"]) λ _ _ _ _ _ _ us hl => by obtain ⟨_, _, _, rfl⟩ := L2.ex3 hl; exact rfl
 have Fqz := Bo (st := Gi) lqz eqz kqz
 have bqz := Fqz.binds (ps := ["told", "hand"]) λ _ _ _ _ _ _ us hl => by obtain ⟨_, _, rfl⟩ := L2.ex2 hl; exact rfl
 have Fq3 := Bo (st := Cd) lq3 eq3 kq3
 have bq3 := Fq3.binds (ps := ["self"]) λ _ _ _ _ _ _ us hl => by obtain ⟨_, rfl⟩ := L2.ex1 hl; exact rfl
 have Fqf := Bo (st := Ck) lqf eqf kqf
 have bqf := Fqf.binds (ps := ["self"]) λ _ _ _ _ _ _ us hl => by obtain ⟨_, rfl⟩ := L2.ex1 hl; exact rfl
 have Fq7 := Bo (st := Cq) lq7 eq7 kq7
 have bq7 := Fq7.binds (ps := ["_law_script", "_law_k"]) λ _ _ _ _ _ _ us hl => by obtain ⟨_, _, rfl⟩ := L2.ex2 hl; exact rfl
 have Fqq := Bo (st := Dp) lqq eqq kqq
 have bqq := Fqq.binds (ps := ["_law_cell", "_law_k", "_law_many"]) λ _ _ _ _ _ _ us hl => by obtain ⟨_, _, _, rfl⟩ := L2.ex3 hl; exact rfl
 have Fqa := Bo (st := Cp) lqa eqa kqa
 have bqa := Fqa.binds (ps := ["_law_k", "_law_cell"]) λ _ _ _ _ _ _ us hl => by obtain ⟨_, _, rfl⟩ := L2.ex2 hl; exact rfl
 have Fqu := Bo (st := Gm) lqu equ kqu
 have bqu := Fqu.binds (ps := ["_law_seed", "_law_names", "_law_asker", "_law_number", "_law_turn"]) λ _ _ _ _ _ _ us hl => by obtain ⟨_, _, _, _, _, rfl⟩ := L2.ex5 hl; exact rfl
 have Fq0 := Bo (st := Au) lq0 eq0 kq0
 have bq0 := Fq0.binds (ps := ["_law_letters", "_law_asker", "_law_number"]) λ _ _ _ _ _ _ us hl => by obtain ⟨_, _, _, rfl⟩ := L2.ex3 hl; exact rfl
 have Fqx := Bo (st := Gg) lqx eqx kqx
 have bqx := Fqx.binds (ps := ["text"]) λ _ _ _ _ _ _ us hl => by obtain ⟨_, rfl⟩ := L2.ex1 hl; exact rfl
 have Fqy := Bo (st := Gb) lqy eqy kqy
 have bqy := Fqy.binds (ps := ["value", "least"]) λ _ _ _ _ _ _ us hl => by obtain ⟨_, _, rfl⟩ := L2.ex2 hl; exact rfl
 have Fq8 := Bo (st := B3) lq8 eq8 kq8
 have bq8 := Fq8.binds (ps := ["letters", "bid"]) λ _ _ _ _ _ _ us hl => by obtain ⟨_, _, rfl⟩ := L2.ex2 hl; exact rfl
 have Fq9 := Bo (st := B2) lq9 eq9 kq9
 have bq9 := Fq9.binds (ps := ["self", "hand"]) λ _ _ _ _ _ _ us hl => by obtain ⟨_, _, rfl⟩ := L2.ex2 hl; exact rfl
 have Fq5 := Bo (st := B4) lq5 eq5 kq5
 have bq5 := Fq5.binds (ps := ["_law_cell"]) λ _ _ _ _ _ _ us hl => by obtain ⟨_, rfl⟩ := L2.ex1 hl; exact rfl
 have Fqr := Bo (st := C4) lqr eqr kqr
 have bqr := Fqr.binds (ps := ["_law_names", "_law_asker", "_law_seed", "_law_k", "_law_least"]) λ _ _ _ _ _ _ us hl => by obtain ⟨_, _, _, _, _, rfl⟩ := L2.ex5 hl; exact rfl
 have Fq2 := Bo (st := Bw) lq2 eq2 kq2
 have bq2 := Fq2.binds (ps := ["_law_seed", "_law_names", "_law_asker", "_law_number", "_law_turn", "_law_cell"]) λ _ _ _ _ _ _ us hl => by obtain ⟨_, _, _, _, _, _, rfl⟩ := L2.ex6 hl; exact rfl
 have Fqb := Bo (st := B9) lqb eqb kqb
 have bqb := Fqb.binds (ps := ["_law_letters"]) λ _ _ _ _ _ _ us hl => by obtain ⟨_, rfl⟩ := L2.ex1 hl; exact rfl
 have Fqj := Bo (st := Dx) lqj eqj kqj
 have bqj := Fqj.binds (ps := ["value"]) λ _ _ _ _ _ _ us hl => by obtain ⟨_, rfl⟩ := L2.ex1 hl; exact rfl
 have Fq10 := Bo (st := Ja) lq10 eq10 kq10
 have bq10 := Fq10.binds (ps := ["letter"]) λ _ _ _ _ _ _ us hl => by obtain ⟨_, rfl⟩ := L2.ex1 hl; exact rfl
 have Fqp := Bo (st := Cz) lqp eqp kqp
 have bqp := Fqp.binds (ps := ["letters"]) λ _ _ _ _ _ _ us hl => by obtain ⟨_, rfl⟩ := L2.ex1 hl; exact rfl
 have Fqg := Bo (st := C2) lqg eqg kqg
 have bqg := Fqg.binds (ps := ["_law_seed", "_law_names", "_law_asker", "_law_number", "_law_turn"]) λ _ _ _ _ _ _ us hl => by obtain ⟨_, _, _, _, _, rfl⟩ := L2.ex5 hl; exact rfl
 have Fq4 := Bo (st := Cb) lq4 eq4 kq4
 have bq4 := Fq4.binds (ps := ["_law_seed", "_law_names", "_law_asker", "_law_number", "_law_turn"]) λ _ _ _ _ _ _ us hl => by obtain ⟨_, _, _, _, _, rfl⟩ := L2.ex5 hl; exact rfl
 have Fq6 := Bo (st := Ce) lq6 eq6 kq6
 have bq6 := Fq6.binds (ps := ["_law_letters", "_law_hand"]) λ _ _ _ _ _ _ us hl => by obtain ⟨_, _, rfl⟩ := L2.ex2 hl; exact rfl
 have Fqo := Bo (st := Cy) lqo eqo kqo
 have bqo := Fqo.binds (ps := ["value", "asker", "least"]) λ _ _ _ _ _ _ us hl => by obtain ⟨_, _, _, rfl⟩ := L2.ex3 hl; exact rfl
 have Fqn := Bo (st := Dn) lqn eqn kqn
 have bqn := Fqn.binds (ps := ["letter"]) λ _ _ _ _ _ _ us hl => by obtain ⟨_, rfl⟩ := L2.ex1 hl; exact rfl
 have Fqv := Bo (st := Gd) lqv eqv kqv
 have bqv := Fqv.binds (ps := ["letters"]) λ _ _ _ _ _ _ us hl => by obtain ⟨_, rfl⟩ := L2.ex1 hl; exact rfl
 have Fq1 := Bo (st := B7) lq1 eq1 kq1
 have bq1 := Fq1.binds (ps := ["_law_cell", "_law_seed", "_law_names"]) λ _ _ _ _ _ _ us hl => by obtain ⟨_, _, _, rfl⟩ := L2.ex3 hl; exact rfl
 have Fq11 := Bo (st := Iv) lq11 eq11 kq11
 have bq11 := Fq11.binds (ps := ["letter"]) λ _ _ _ _ _ _ us hl => by obtain ⟨_, rfl⟩ := L2.ex1 hl; exact rfl
 have Fqt := Bo (st := Fc) lqt eqt kqt
 have bqt := Fqt.binds (ps := ["letter"]) λ _ _ _ _ _ _ us hl => by obtain ⟨_, rfl⟩ := L2.ex1 hl; exact rfl
 have Fqm := Bo (st := Dr) lqm eqm kqm
 have bqm := Fqm.binds (ps := ["letter"]) λ _ _ _ _ _ _ us hl => by obtain ⟨_, rfl⟩ := L2.ex1 hl; exact rfl
 have Fqe := Bo (st := C5) lqe eqe kqe
 have bqe := Fqe.binds (ps := ["self", "letter"]) λ _ _ _ _ _ _ us hl => by obtain ⟨_, _, rfl⟩ := L2.ex2 hl; exact rfl
 have Fqs := Bo (st := Dq) lqs eqs kqs
 have bqs := Fqs.binds (ps := ["_law_found", "_law_due"]) λ _ _ _ _ _ _ us hl => by obtain ⟨_, _, rfl⟩ := L2.ex2 hl; exact rfl
 have Fq12 := Bo (st := Uj) lq12 eq12 kq12
 have bq12 := Fq12.binds (ps := ["_law_script"]) λ _ _ _ _ _ _ us hl => by obtain ⟨_, rfl⟩ := L2.ex1 hl; exact rfl
 exact ⟨{ Fp := fqd, Fs := _, Kv := fqw, Jy := _, Ha := fqi, Gu := _, Gr := fqk, Hk := _, Fz := fqh, Fl := _, Fo := fqc, Ft := _, Gy := fql, G7 := _, Ko := fqz, Kt := _, Ef := fq3, Dz := _, Fw := fqf, Fu := _, E5 := fq7, E7 := _, He := fqq, Hf := _, E1 := fqa, E2 := _, Ke := fqu, Ku := _, Cu := fq0, Ct := _, Kf := fqx, J7 := _, J5 := fqy, Kr := _, E6 := fq8, Ex := _, Ez := fq9, E4 := _, Eh := fq5, Eg := _, Iw := fqr, Jb := _, C6 := fq2, Dj := _, E8 := fqb, Ey := _, Gp := fqj, Hq := _, L5 := fq10, Lx := _, G1 := fqp, Hs := _, Fy := fqg, Fq := _, Ec := fq4, Ee := _, Ed := fq6, Ej := _, Hn := fqo, G4 := _, G9 := fqn, Hi := _, Kc := fqv, J2 := _, Dd := fq1, C8 := _, L0 := fq11, Ly := _, Iz := fqt, Iu := _, Hl := fqm, G8 := _, Fj := fqe, Fn := _, Dw := fqs, Dt := _, W0 := fq12, Uo := _, An := An }, ⟨Fqd, W.mg_of X G aqd, bqd, Fqw, W.mg_of X G aqw, bqw, Fqi, W.mg_of X G aqi, bqi, Fqk, W.mg_of X G aqk, bqk, Fqh, W.mg_of X G aqh, bqh, Fqc, W.mg_of X G aqc, bqc, Fql, W.mg_of X G aql, bql, Fqz, W.mg_of X G aqz, bqz, Fq3, bq3, Fqf, bqf, Fq7, W.mg_of X G aq7, bq7, Fqq, W.mg_of X G aqq, bqq, Fqa, W.mg_of X G aqa, bqa, Fqu, W.mg_of X G aqu, bqu, Fq0, W.mg_of X G aq0, bq0, Fqx, W.mg_of X G aqx, bqx, Fqy, W.mg_of X G aqy, bqy, Fq8, W.mg_of X G aq8, bq8, Fq9, bq9, Fq5, W.mg_of X G aq5, bq5, Fqr, W.mg_of X G aqr, bqr, Fq2, W.mg_of X G aq2, bq2, Fqb, W.mg_of X G aqb, bqb, Fqj, W.mg_of X G aqj, bqj, Fq10, W.mg_of X G aq10, bq10, Fqp, W.mg_of X G aqp, bqp, Fqg, W.mg_of X G aqg, bqg, Fq4, W.mg_of X G aq4, bq4, Fq6, W.mg_of X G aq6, bq6, Fqo, W.mg_of X G aqo, bqo, Fqn, W.mg_of X G aqn, bqn, Fqv, W.mg_of X G aqv, bqv, Fq1, W.mg_of X G aq1, bq1, Fq11, W.mg_of X G aq11, bq11, Fqt, W.mg_of X G aqt, bqt, Fqm, W.mg_of X G aqm, bqm, Fqe, bqe, Fqs, W.mg_of X G aqs, bqs, Fq12, W.mg_of X G aq12, bq12, ⟨_, W.mg_of X G Im⟩, ⟨_, W.mg_of X G F8⟩, ⟨_, W.mg_of X G Ek⟩, ⟨_, W.mg_of X G Er⟩, W.mg_of X G aC_Table, ⟨pg_Table, hd_Table, po_Table, sa_Table⟩, ⟨Kw, aq3, iq3, kc_Table⟩, nf_kept_Table, nf_by_meeting_Table, nf_tellings_Table, ⟨aq9, iq9, kq9⟩, ⟨aqe, iqe, kqe⟩, ⟨aqf, iqf, kqf⟩, W.mg_none_of X G Pl, W.mg_none_of X G Ol, W.mg_none_of X G Wr, W.mg_none_of X G A8, W.mg_none_of X G Di, W.mg_none_of X G Mc, W.mg_none_of X G Tc, W.mg_none_of X G W7, W.mg_none_of X G Hm, W.mg_none_of X G Ea, W.mg_none_of X G T8, W.mg_none_of X G Co⟩, rfl, λ s v => .of_eq rfl⟩
end K64
namespace K64
open PySem L2
theorem walk {l : W.OpenLaw} {q : Program} {loose : List Str} {XP : (Str -> Option Value) -> Heap -> Prop} {YP : World -> Heap -> Prop} {d : DefRec} {K : Params -> W.Frag} (hn : l.most = some 63) (hdf : d.params.defaults = [])
  (hY : ∀ (w : World) (h : Heap), YP w h -> (K w.params).In h)
  (F : ∀ (w : World) (mg : Str -> Option Value) (fa : Addr) (h : Heap), (K w.params).In h -> h.Ns mainGlobals mg -> mg d.name = some (.ref fa) ->
   ∃ fd : FuncData, (∀ (s : Shared) (u : Value), BindsTo s fd ⟨[u], []⟩ [("_law_script", u)]) /\ ∀ base : Heap, (K w.params).In base -> base.Ns mainGlobals mg -> FnOk l.prog w (K w.params) mg base CX0 true 32 fa fd ["_law_script"] (Vl (K w.params))) :
  W.WalkO q loose XP YP l.row.toRowW d [] (λ f vs => PySem.call f vs) :=
 L2.i7 (cm := true) (n := 63) (k := 32) (x := "_law_script") (CX := λ _ => CX0) (sp := λ w => Vl (K w.params)) hn (by decide) hdf ⟨λ _ => rfl, by decide, by decide⟩ hY F (λ _ _ a ns hl _ hS => ⟨a, ns, rfl, hS, hl, λ _ => rfl⟩) λ _ _ _ _ _ z => z
theorem all_ok {l : W.OpenLaw} {w : World} {K : W.Frag} {mg : Str -> Option Value} {fa f : Addr} (hfa : mg "law" = some (.ref fa))
  (h : ∃ a : Adr, Txt K mg a /\ a.W0 = f /\ ∀ (s : Shared) (v : Value), BindsTo s a.Uo ⟨[v], []⟩ [("_law_script", v)]) :
  ∃ fd : FuncData, (∀ (s : Shared) (u : Value), BindsTo s fd ⟨[u], []⟩ [("_law_script", u)]) /\ ∀ base : Heap, K.In base -> base.Ns mainGlobals mg -> FnOk l.prog w K mg base CX0 true 32 fa fd ["_law_script"] (Vl K) := by
 obtain ⟨a, T, _, hb⟩ := h
 have e := T.rg
 rw [hfa] at e
 cases e
 exact ⟨a.Uo, hb, λ base _ _ => n8 T⟩
end K64
open PySem PySem.W PyProof.Rows
set_option maxRecDepth 100000 in
set_option maxHeartbeats 0 in
theorem PySem.Challenge.cw_hourhouse_k64_who_is_held_holds : PySem.Challenge.rw_hourhouse_k64_who_is_held.Holds := by
 w_on; o_law; k_head; (case hw => w_witness2)
 k_fill
 refine K64.walk (l := PySem.Challenge.rw_hourhouse_k64_who_is_held) rfl rfl (λ w h Y => W.kIn_of Y) ?F
 case F =>
  intro w mg fa h KX G hmg
  refine' K64.all_ok hmg (K64.txt_mk KX G ?aC_Table ?pg_Table ?hd_Table ?po_Table ?sa_Table ?Kw ?kc_Table ?nf_kept_Table ?nf_by_meeting_Table ?nf_tellings_Table ?aqd ?lqd ?eqd ?kqd ?aqw ?lqw ?eqw ?kqw ?aqi ?lqi ?eqi ?kqi ?aqk ?lqk ?eqk ?kqk ?aqh ?lqh ?eqh ?kqh ?aqc ?lqc ?eqc ?kqc ?aql ?lql ?eql ?kql ?aqz ?lqz ?eqz ?kqz ?aq3 ?lq3 ?eq3 ?kq3 ?iq3 ?aqf ?lqf ?eqf ?kqf ?iqf ?aq7 ?lq7 ?eq7 ?kq7 ?aqq ?lqq ?eqq ?kqq ?aqa ?lqa ?eqa ?kqa ?aqu ?lqu ?equ ?kqu ?aq0 ?lq0 ?eq0 ?kq0 ?aqx ?lqx ?eqx ?kqx ?aqy ?lqy ?eqy ?kqy ?aq8 ?lq8 ?eq8 ?kq8 ?aq9 ?lq9 ?eq9 ?kq9 ?iq9 ?aq5 ?lq5 ?eq5 ?kq5 ?aqr ?lqr ?eqr ?kqr ?aq2 ?lq2 ?eq2 ?kq2 ?aqb ?lqb ?eqb ?kqb ?aqj ?lqj ?eqj ?kqj ?aq10 ?lq10 ?eq10 ?kq10 ?aqp ?lqp ?eqp ?kqp ?aqg ?lqg ?eqg ?kqg ?aq4 ?lq4 ?eq4 ?kq4 ?aq6 ?lq6 ?eq6 ?kq6 ?aqo ?lqo ?eqo ?kqo ?aqn ?lqn ?eqn ?kqn ?aqv ?lqv ?eqv ?kqv ?aq1 ?lq1 ?eq1 ?kq1 ?aq11 ?lq11 ?eq11 ?kq11 ?aqt ?lqt ?eqt ?kqt ?aqm ?lqm ?eqm ?kqm ?aqe ?lqe ?eqe ?kqe ?iqe ?aqs ?lqs ?eqs ?kqs ?aq12 ?lq12 ?eq12 ?kq12 ?Im ?F8 ?Ek ?Er ?Pl ?Ol ?Wr ?A8 ?Di ?Mc ?Tc ?W7 ?Hm ?Ea ?T8 ?Co)
  (case aC_Table => k_is)
  (case pg_Table => k_is)
  (case hd_Table => k_is)
  (case po_Table => k_is)
  (case sa_Table => k_is)
  (case Kw => k_is)
  (case kc_Table => k_is)
  (case nf_kept_Table => k_is)
  (case nf_by_meeting_Table => k_is)
  (case nf_tellings_Table => k_is)
  (case aqd => k_is)
  (case lqd => k_is)
  (case eqd => k_is)
  (case kqd => k_is)
  (case aqw => k_is)
  (case lqw => k_is)
  (case eqw => k_is)
  (case kqw => k_is)
  (case aqi => k_is)
  (case lqi => k_is)
  (case eqi => k_is)
  (case kqi => k_is)
  (case aqk => k_is)
  (case lqk => k_is)
  (case eqk => k_is)
  (case kqk => k_is)
  (case aqh => k_is)
  (case lqh => k_is)
  (case eqh => k_is)
  (case kqh => k_is)
  (case aqc => k_is)
  (case lqc => k_is)
  (case eqc => k_is)
  (case kqc => k_is)
  (case aql => k_is)
  (case lql => k_is)
  (case eql => k_is)
  (case kql => k_is)
  (case aqz => k_is)
  (case lqz => k_is)
  (case eqz => k_is)
  (case kqz => k_is)
  (case aq3 => k_is)
  (case lq3 => k_is)
  (case eq3 => k_is)
  (case kq3 => k_is)
  (case iq3 => k_is)
  (case aqf => k_is)
  (case lqf => k_is)
  (case eqf => k_is)
  (case kqf => k_is)
  (case iqf => k_is)
  (case aq7 => k_is)
  (case lq7 => k_is)
  (case eq7 => k_is)
  (case kq7 => k_is)
  (case aqq => k_is)
  (case lqq => k_is)
  (case eqq => k_is)
  (case kqq => k_is)
  (case aqa => k_is)
  (case lqa => k_is)
  (case eqa => k_is)
  (case kqa => k_is)
  (case aqu => k_is)
  (case lqu => k_is)
  (case equ => k_is)
  (case kqu => k_is)
  (case aq0 => k_is)
  (case lq0 => k_is)
  (case eq0 => k_is)
  (case kq0 => k_is)
  (case aqx => k_is)
  (case lqx => k_is)
  (case eqx => k_is)
  (case kqx => k_is)
  (case aqy => k_is)
  (case lqy => k_is)
  (case eqy => k_is)
  (case kqy => k_is)
  (case aq8 => k_is)
  (case lq8 => k_is)
  (case eq8 => k_is)
  (case kq8 => k_is)
  (case aq9 => k_is)
  (case lq9 => k_is)
  (case eq9 => k_is)
  (case kq9 => k_is)
  (case iq9 => k_is)
  (case aq5 => k_is)
  (case lq5 => k_is)
  (case eq5 => k_is)
  (case kq5 => k_is)
  (case aqr => k_is)
  (case lqr => k_is)
  (case eqr => k_is)
  (case kqr => k_is)
  (case aq2 => k_is)
  (case lq2 => k_is)
  (case eq2 => k_is)
  (case kq2 => k_is)
  (case aqb => k_is)
  (case lqb => k_is)
  (case eqb => k_is)
  (case kqb => k_is)
  (case aqj => k_is)
  (case lqj => k_is)
  (case eqj => k_is)
  (case kqj => k_is)
  (case aq10 => k_is)
  (case lq10 => k_is)
  (case eq10 => k_is)
  (case kq10 => k_is)
  (case aqp => k_is)
  (case lqp => k_is)
  (case eqp => k_is)
  (case kqp => k_is)
  (case aqg => k_is)
  (case lqg => k_is)
  (case eqg => k_is)
  (case kqg => k_is)
  (case aq4 => k_is)
  (case lq4 => k_is)
  (case eq4 => k_is)
  (case kq4 => k_is)
  (case aq6 => k_is)
  (case lq6 => k_is)
  (case eq6 => k_is)
  (case kq6 => k_is)
  (case aqo => k_is)
  (case lqo => k_is)
  (case eqo => k_is)
  (case kqo => k_is)
  (case aqn => k_is)
  (case lqn => k_is)
  (case eqn => k_is)
  (case kqn => k_is)
  (case aqv => k_is)
  (case lqv => k_is)
  (case eqv => k_is)
  (case kqv => k_is)
  (case aq1 => k_is)
  (case lq1 => k_is)
  (case eq1 => k_is)
  (case kq1 => k_is)
  (case aq11 => k_is)
  (case lq11 => k_is)
  (case eq11 => k_is)
  (case kq11 => k_is)
  (case aqt => k_is)
  (case lqt => k_is)
  (case eqt => k_is)
  (case kqt => k_is)
  (case aqm => k_is)
  (case lqm => k_is)
  (case eqm => k_is)
  (case kqm => k_is)
  (case aqe => k_is)
  (case lqe => k_is)
  (case eqe => k_is)
  (case kqe => k_is)
  (case iqe => k_is)
  (case aqs => k_is)
  (case lqs => k_is)
  (case eqs => k_is)
  (case kqs => k_is)
  (case aq12 => k_is)
  (case lq12 => k_is)
  (case eq12 => k_is)
  (case kq12 => k_is)
  (case Im => k_is)
  (case F8 => k_is)
  (case Ek => k_is)
  (case Er => k_is)
  (case Pl => k_is)
  (case Ol => k_is)
  (case Wr => k_is)
  (case A8 => k_is)
  (case Di => k_is)
  (case Mc => k_is)
  (case Tc => k_is)
  (case W7 => k_is)
  (case Hm => k_is)
  (case Ea => k_is)
  (case T8 => k_is)
  (case Co => k_is)
