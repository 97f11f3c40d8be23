import PyProof.Rows.All
import Wide.All
import OpenK.AllK
import Wide.FinOn
import Lean
import PyProof.EqAt
import PyProof.EqKinds
import PyProof.TupleCall
import PySem.Challenge.RW_hourhouse_k63_a_meeting_told
set_option Elab.async false
set_option linter.all false
set_option maxRecDepth 100000
/-! These names are taken so that the head makes no twins of its heaps, trees and objects: the compiled file would be too big. Nothing refers to them, and they prove nothing. -/
namespace PySem.W.Fast
def tw9037965544909135986 := ()
def tw3870963824462454890 := ()
def tw14505884241708290432 := ()
def tw9239551528347807499 := ()
def tw14101535906717370079 := ()
def tw2784503476151170774 := ()
def tw3866255130274037734 := ()
def tw6943704730897320827 := ()
def tw12745063628263597214 := ()
def tw14624458368807661978 := ()
def tw18279161884372322554 := ()
def tw5086879096112986241 := ()
def tw18373410430970908708 := ()
def tw11122977232797097194 := ()
def tw1414659864715607372 := ()
def tw14870551809430447619 := ()
def tw9302733865149189246 := ()
def tw9480138106453986241 := ()
def tw763406336499055567 := ()
def tw9400885734528972424 := ()
def tw2724813400443450380 := ()
def tw10043124029208212727 := ()
def tw14657776282750908694 := ()
def tw16846795520865270167 := ()
def tw7618807692275281417 := ()
def tw2756086505086313450 := ()
def tw13904269717131869128 := ()
def tw17050073630420652672 := ()
def tw15547889178605194611 := ()
def tw297356225126096328 := ()
def tw17660388015045175523 := ()
def tw13121945677691607643 := ()
def tw5576632072948685075 := ()
def tw1634611836062821463 := ()
def tw12970685564089112982 := ()
def tw12051082570547284229 := ()
def tw434295406757000881 := ()
def tw296076483922366179 := ()
def tw18132209028383120728 := ()
def tw9238109463318453100 := ()
def tw15469874435471488216 := ()
def tw7556224788564584413 := ()
def tw15424158439720480444 := ()
def tw2580395040835341560 := ()
def tw6750000611658474753 := ()
def tw17468473822320777466 := ()
def tw12916482673471798481 := ()
def tw150922155698523529 := ()
def tw2553509366716995680 := ()
def tw2119774379292971641 := ()
def tw2450579398693927275 := ()
def tw3093610837633952171 := ()
def tw837278098639270511 := ()
def tw5671439258353858278 := ()
def tw1630887785966655378 := ()
def tw18000183514904475767 := ()
def tw15839617245732054417 := ()
def tw6061123660404048715 := ()
def tw9509426873754256847 := ()
def tw2567625667882468949 := ()
def tw7420225338461725784 := ()
def tw14407526820213474348 := ()
def tw5526718937218881728 := ()
def tw3339927635501223462 := ()
def tw10541407840907025597 := ()
def tw5170955229484987542 := ()
def tw6946695147564850978 := ()
def tw2000960075082765161 := ()
def tw318819551058427597 := ()
def tw13434960619435148684 := ()
def tw4275581704382652875 := ()
def tw10622885500963511565 := ()
def tw15652668156681898889 := ()
def tw2159939447027285814 := ()
def tw7799487529512596436 := ()
def tw4431779083740673163 := ()
def tw19291543138392385 := ()
def tw7679309014519359967 := ()
def tw726194316325568576 := ()
def tw2789063366850639821 := ()
def tw13472608726414913219 := ()
def tw7156908874649892929 := ()
def tw5093147768147181940 := ()
def tw13173865682387870474 := ()
def tw12386582837199822728 := ()
def tw13728245628114176440 := ()
def tw4315731308927819717 := ()
def tw5516528427177226041 := ()
def tw1480276181220693309 := ()
def tw8086167590382218861 := ()
def tw3311704234142904721 := ()
def tw17808303525996419856 := ()
def tw2552032097254486704 := ()
def tw8541467846293363220 := ()
def tw14598688473745664386 := ()
def tw6819056432847257250 := ()
def tw14448553003044119337 := ()
def tw875381601050976203 := ()
def tw11428099609649488807 := ()
def tw17253918325107724443 := ()
def tw6679165650341452414 := ()
def tw4691074971053713553 := ()
def tw4082081557296169211 := ()
def tw17226250037000663600 := ()
def tw6939240021984617009 := ()
def tw7099344395958505017 := ()
def tw10092867536130878076 := ()
def tw5413564254389465471 := ()
def tw17974664958613029054 := ()
def tw5628459880730138553 := ()
def tw2078217928516663058 := ()
def tw7121819258646757158 := ()
def tw10235994634762691522 := ()
def tw16912084709480313208 := ()
def tw8339584292457339030 := ()
def tw4009101482891901325 := ()
def tw1337520700401003351 := ()
def tw16757054462511406186 := ()
def tw9126351154379591 := ()
def tw12754796568084372857 := ()
def tw6564022935916443760 := ()
def tw3259091103174062470 := ()
def tw14622713495912441126 := ()
def tw2124660281571121181 := ()
def tw16841441680483833812 := ()
def tw8547459797162846426 := ()
def tw15592577683955419529 := ()
def tw11392319293892586248 := ()
def tw8368361445559510673 := ()
def tw6362574898084203821 := ()
def tw15616205595141481497 := ()
def tw12181046288023918730 := ()
def tw2188944739229290361 := ()
def tw15666029143581512037 := ()
def tw4182277521513384280 := ()
def tw14455378021751521827 := ()
def tw4514193269412355397 := ()
def tw13730819884260732858 := ()
def tw10634311746582280492 := ()
def tw10366783534783921363 := ()
def tw4534402928611917176 := ()
def tw3063880813929723224 := ()
def tw9907974351342132775 := ()
def tw2929029899353142563 := ()
def tw7203850990810515926 := ()
def tw3710923610894487960 := ()
def tw10783744161864168785 := ()
def tw13524271162990995647 := ()
def tw15988137408940452358 := ()
def tw10571910418533406042 := ()
def tw18177811218227168270 := ()
def tw3834387847011166688 := ()
def tw18396012093137421629 := ()
def tw3527420637279236953 := ()
def tw15003469579677390638 := ()
def tw4792325470290174855 := ()
def tw17210796333739340195 := ()
def tw3165562854510826108 := ()
def tw11032592134385487102 := ()
def tw9451716753706322122 := ()
def tw4576453111233001104 := ()
def tw9694662636676574421 := ()
def tw6640261909899741217 := ()
def tw2959420802948134564 := ()
def tw9785787320114615859 := ()
def tw8317447064452914378 := ()
def tw17443777161985925635 := ()
def tw17711322400533099040 := ()
def tw7014100225571733133 := ()
def tw15777713610609834907 := ()
def tw15573216027964702076 := ()
def tw4781067521678826342 := ()
def tw11254608473938729996 := ()
def tw556848983795924252 := ()
def tw13422171613398827142 := ()
def tw9422405786524661040 := ()
def tw8296188699850951288 := ()
def tw15853661099716577874 := ()
def tw11528885430816135632 := ()
def tw17146228957680063559 := ()
def tw7330880098072100617 := ()
def tw6054345824540160897 := ()
def tw7276150402126007467 := ()
def tw5412908746009969330 := ()
def tw168355035904928589 := ()
def tw10992362539904263949 := ()
def tw15219903043674768693 := ()
def tw15610011214548038138 := ()
def tw8069707264287984181 := ()
def tw17043892107506223500 := ()
def tw8580047328609829720 := ()
def tw4518197934978292478 := ()
def tw4598694326167166441 := ()
def tw13400073604831419779 := ()
def tw7846825531614777569 := ()
def tw2263056687745378883 := ()
def tw6254755904688360267 := ()
def tw14289287318100256780 := ()
def tw931279931357857824 := ()
def tw13764134399003665373 := ()
def tw1553522087106751327 := ()
def tw5643467049560150921 := ()
def tw3128863444658380556 := ()
def tw13001581868856401625 := ()
def tw70930581725016829 := ()
def tw11103943550809843338 := ()
def tw9633843063835838947 := ()
def tw13790486002627879832 := ()
def tw10332535201303738892 := ()
def tw9377880653517293297 := ()
def tw15617789421147582822 := ()
def tw15048559006386596317 := ()
def tw7408479954719487391 := ()
def tw17230384403576028309 := ()
def tw1298393931400893913 := ()
def tw1656091177306089703 := ()
def tw4314002571776266103 := ()
def tw11863401471386125578 := ()
def tw10906589274155981004 := ()
def tw662159685290514987 := ()
def tw9315043946282857469 := ()
def tw6019418262201354955 := ()
def tw14469292464595420837 := ()
def tw6212155893910297032 := ()
def tw5996986212424888735 := ()
def tw10178940494193901753 := ()
def tw268068573281962758 := ()
def tw6645082830538094376 := ()
def tw13103702397684990801 := ()
def tw5999513803715210666 := ()
def tw15279066250710491256 := ()
def tw5905890011041930064 := ()
def tw2306032194471763425 := ()
def tw2990163891729435176 := ()
def tw14605691922682102694 := ()
def tw13708568668670082773 := ()
def tw1355872491612668178 := ()
def tw12747944175651506225 := ()
def tw13267949192831431611 := ()
def tw3639797035888033217 := ()
def tw12196690442734595758 := ()
def tw16555788508433590165 := ()
def tw9630785650803979894 := ()
def tw17322572985553351140 := ()
def tw4796813320669680276 := ()
def tw12270698411798478815 := ()
def tw73325750105431064 := ()
def tw15527848817707941129 := ()
def tw10339950767933375331 := ()
def tw6240328854759750680 := ()
def tw10061687173387514430 := ()
def tw15499001244138184952 := ()
def tw10845720729617351288 := ()
def tw2827192596141287571 := ()
def tw2443688224855980666 := ()
def tw110070156350892795 := ()
def tw9559937338514972513 := ()
def tw15459366435166641065 := ()
def tw9703298738366594753 := ()
def tw8115593810253299625 := ()
def tw17056226003180927018 := ()
def tw5488028111442835629 := ()
def tw15046414809628502181 := ()
def tw6061254473048628588 := ()
def tw5305739769710722931 := ()
def tw5951725080186029930 := ()
def tw2711902791874125327 := ()
def tw9600551964932790255 := ()
def tw11781428115892849914 := ()
def tw17328909007694778572 := ()
def tw13291211692570194694 := ()
def tw10163682424454633785 := ()
def tw11608069438565067693 := ()
def tw2182184657231163513 := ()
def tw8307422696063306458 := ()
def tw12171862586013744358 := ()
def tw17049629588900868889 := ()
def tw16139998255044671774 := ()
def tw3744079694870339109 := ()
def tw4970650548601465718 := ()
def tw11942368368675778909 := ()
def tw5646511671224001702 := ()
def tw755961673924414850 := ()
end PySem.W.Fast
namespace L2
open PySem PySem.Spec PyProof.Rows
abbrev Key := Sum Int Str
def keyIs : Key → Value → Bool
 | .inl k, v => Value.isInt k v
 | .inr x, v => Value.isStrOf x v
def keyH (w : World) : Key → Int
 | .inl k => hashInt k
 | .inr x => hashStr w x
theorem keyIs_shape : ∀ {k : Key} {v : Value}, keyIs k v = true → (∃ i t, k = Sum.inl i ∧ v = Value.int i t) ∨ (∃ x t, k = Sum.inr x ∧ v = Value.str x t)
 |
  .inl i, v, h => by
  obtain ⟨t, e⟩ := Value.isInt_shape (k := i) (v := v) h
  exact .inl ⟨i, t, rfl, e⟩
 |
  .inr x, v, h => by
  obtain ⟨t, e⟩ := Value.isStrOf_shape (x := x) (v := v) h
  exact .inr ⟨x, t, rfl, e⟩
theorem keyIs_int (i : Int) (t : Tok) : keyIs (.inl i) (.int i t) = true := by simp [keyIs, Value.isInt]
theorem keyIs_str (x : Str) (t : Tok) : keyIs (.inr x) (.str x t) = true := by simp [keyIs, Value.isStrOf]
theorem key_ll (a b : Int) : decide ((Sum.inl a : Key) = Sum.inl b) = (a == b) := by
 by_cases e : a = b
 · subst e; simp
 ·
  have h : ¬ (Sum.inl a : Key) = Sum.inl b := fun q => e (Sum.inl.inj q)
  rw [decide_eq_false h]
  exact (beq_eq_false_iff_ne.mpr e).symm
theorem key_rr (a b : Str) : decide ((Sum.inr a : Key) = Sum.inr b) = decide (a = b) := by
 by_cases e : a = b
 · subst e; simp
 ·
  have h : ¬ (Sum.inr a : Key) = Sum.inr b := fun q => e (Sum.inr.inj q)
  rw [decide_eq_false h, decide_eq_false e]
theorem key_lr (a : Int) (b : Str) : decide ((Sum.inl a : Key) = Sum.inr b) = false := decide_eq_false (fun q => nomatch q)
theorem key_rl (a : Str) (b : Int) : decide ((Sum.inr a : Key) = Sum.inl b) = false := decide_eq_false (fun q => nomatch q)
def mixKind (prog : Program) (w : World) : PySem.KeyKind prog w Key where
 is := keyIs
 hash := keyH w
 inj := fun v a b ha hb => by
  rcases keyIs_shape ha with ⟨i, t, rfl, rfl⟩ | ⟨x, t, rfl, rfl⟩
  ·
   rcases keyIs_shape hb with ⟨j, u, rfl, e⟩ | ⟨y, u, rfl, e⟩
   · injection e with e1 _; rw [e1]
   · exact nomatch e
  ·
   rcases keyIs_shape hb with ⟨j, u, rfl, e⟩ | ⟨y, u, rfl, e⟩
   · exact nomatch e
   · injection e with e1 _; rw [e1]
 byValue := fun k v h => by
  rcases keyIs_shape h with ⟨i, t, rfl, rfl⟩ | ⟨x, t, rfl, rfl⟩ <;> rfl
 pyHash := fun hv h => by
  rcases keyIs_shape hv with ⟨i, t, rfl, rfl⟩ | ⟨x, t, rfl, rfl⟩
  · exact wpAny_pyHash_int h
  · exact wpAny_pyHash_str h
 eqBool := fun hu hv h => by
  rcases keyIs_shape hu with ⟨i, t, rfl, rfl⟩ | ⟨x, t, rfl, rfl⟩
  ·
   rcases keyIs_shape hv with ⟨j, u, rfl, rfl⟩ | ⟨y, u, rfl, rfl⟩
   · rw [key_ll] at h; exact wpAny_eqBool_int h
   · rw [key_lr] at h; exact SeqAt.EqAt.int_str i t y u _ _ _ _ h
  ·
   rcases keyIs_shape hv with ⟨j, u, rfl, rfl⟩ | ⟨y, u, rfl, rfl⟩
   · rw [key_rl] at h; exact SeqAt.EqAt.str_int x t j u _ _ _ _ h
   · rw [key_rr] at h; exact wpAny_eqBool_str h
 «strs» := fun k x t v h => by
  rcases keyIs_shape h with ⟨i, u, rfl, e⟩ | ⟨y, u, rfl, e⟩
  · exact nomatch e
  ·
   injection e with e1 _
   subst e1
   cases v <;> rfl
theorem mixKind_int (prog : Program) (w : World) (i : Int) (t : Tok) : (mixKind prog w).is (.inl i) (.int i t) = true := keyIs_int i t
theorem mixKind_str (prog : Program) (w : World) (x : Str) (t : Tok) : (mixKind prog w).is (.inr x) (.str x t) = true := keyIs_str x t
end L2
namespace L2
open PySem PySem.Spec PyProof.Rows
inductive V where
 | non | bl (b : Bool) | int (i : Int) | str (x : Str) | byt (b : Array UInt8) | flt (b : UInt64) | ref (a : Addr) | ty (n : String)
 deriving DecidableEq
def RelV : V → Value → Prop
 | .non, u => u = Value.none
 | .bl b, u => u = Value.bool b
 | .int i, u => ∃ t, u = Value.int i t
 | .str x, u => ∃ t, u = Value.str x t
 | .byt b, u => ∃ t, u = Value.bytes b t
 | .flt b, u => ∃ t, u = Value.float b t
 | .ref a, u => u = Value.ref a
 | .ty n, u => u = Value.type n
abbrev Vals : List V → List Value → Prop := Paired RelV
theorem Vals.length {xs : List V} {us : List Value} (r : Vals xs us) : xs.length = us.length := Paired.length r
theorem Vals.get : ∀ {xs : List V} {us : List Value} {i : Nat} {x : V}, Vals xs us → xs[i]? = some x → ∃ u, us[i]? = some u ∧ RelV x u
 | _, _, _, _, .nil, e => by simp at e
 | _, _, 0, _, .cons r _, e => by simp at e; subst e; exact ⟨_, rfl, r⟩
 |
  _, _, i + 1, x, .cons _ t, e => by
  obtain ⟨u, h1, h2⟩ := Vals.get (i := i) (x := x) t (by simpa using e)
  exact ⟨u, by simpa using h1, h2⟩
theorem Vals.set {x : V} {u : Value} (r : RelV x u) : ∀ {xs : List V} {us : List Value} (i : Nat), Vals xs us → Vals (xs.set i x) (us.set i u)
 | _, _, _, .nil => .nil
 | _, _, 0, .cons _ t => .cons r t
 | _, _, i + 1, .cons q t => .cons q (Vals.set r i t)
theorem Vals.append : ∀ {xs ys : List V} {us ws : List Value}, Vals xs us → Vals ys ws → Vals (xs ++ ys) (us ++ ws)
 | _, _, _, _, .nil, s => s
 | _, _, _, _, .cons r t, s => .cons r (Vals.append t s)
theorem Vals.take : ∀ {xs : List V} {us : List Value} (n : Nat), Vals xs us → Vals (xs.take n) (us.take n)
 | _, _, 0, _ => .nil
 | _, _, _ + 1, .nil => .nil
 | _, _, n + 1, .cons r t => .cons r (Vals.take n t)
theorem Vals.drop : ∀ {xs : List V} {us : List Value} (n : Nat), Vals xs us → Vals (xs.drop n) (us.drop n)
 | _, _, 0, r => r
 | _, _, _ + 1, .nil => .nil
 | _, _, n + 1, .cons _ t => Vals.drop n t
theorem Vals.none_of : ∀ {xs : List V} {us : List Value} {i : Nat}, Vals xs us → xs[i]? = none → us[i]? = none := fun {xs us i} r e => by
 have h1 := r.length
 have h2 : xs.length ≤ i := List.getElem?_eq_none_iff.mp e
 exact List.getElem?_eq_none_iff.mpr (by omega)
def RelO : Option V → Option Value → Prop
 | some v, some u => RelV v u
 | none, none => True
 | _, _ => False
def KV {κ : Type} : List (κ × V) → List (κ × Value) → Prop := Paired fun (p : κ × V) (q : κ × Value) => p.1 = q.1 ∧ RelV p.2 q.2
def kV : Key → V
 | .inl i => .int i
 | .inr x => .str x
inductive HO where
 | lst (xs : List V)
 | tup (xs : List V)
 | dK (kvs : List (Key × V)) | dT (kvs : List (List Key × V))
 | set (S : Int → Bool) (n : Nat)
 | ins (C dx : Addr) (fs : List (Str × V))
 | own (x : Addr)
 | xd (fs : List (Str × V))
 | met (f x : Addr)
 | rng (lo hi : Int)
 | frz (o : Obj) (u : HO)
 | tbl (ps : Array Value)
 | ext (φ : Heap → Prop)
abbrev Hp := Addr → Option HO
def upd (H : Hp) (a : Addr) (o : HO) : Hp := fun b => if b = a then some o else H b
theorem upd_same {H : Hp} {a : Addr} {o : HO} : upd H a o a = some o := by unfold upd; rw [if_pos rfl]
theorem upd_ne {H : Hp} {a b : Addr} {o : HO} (h : b ≠ a) : upd H a o b = H b := by unfold upd; rw [if_neg h]
theorem ne_of {H : Hp} {a b : Addr} {o u : HO} (h : H a = some o) (h' : H b = some u) (d : o ≠ u) : a ≠ b := by
 intro e; subst e; rw [h] at h'; exact d (Option.some.inj h')
theorem ne_of_none {H : Hp} {a b : Addr} {o : HO} (h : H a = some o) (h' : H b = none) : a ≠ b := by
 intro e; subst e; rw [h] at h'; cases h'
section
variable (P : Program) (w : World)
def ObjOk (H : Hp) (h : Heap) (a : Addr) : HO → Prop
 | .lst xs => xs.length ≤ sizeLine ∧ ∃ (its : List Value) (n : Nat), Vals xs its ∧ h.get? a = some { cls := .type "list", data := .seq its.toArray n }
 | .tup xs => xs.length ≤ sizeLine ∧ ∃ its : List Value, Vals xs its ∧ IsTup h a its.toArray
 | .dK kvs => kvs.length ≤ sizeLine ∧ (a == sysModules) = false ∧ ∃ vs, KV kvs vs ∧ h.DictOf (mixKind P w) a vs
 | .dT kvs => kvs.length ≤ sizeLine ∧ (a == sysModules) = false ∧ ∃ xs : List (List Key × Addr × Value),
  Paired (fun (p : List Key × V) (q : List Key × Addr × Value) => p.1 = q.1 ∧ H q.2.1 = some (.tup (p.1.map kV)) ∧ RelV p.2 q.2.2) kvs xs ∧
  ∃ o es ep, h.get? a = some o ∧ o.ExactDict ∧ o.data = .dict es ep ∧ es.toList = xs.map (entryOfKey (tupleKind (mixKind P w))) ∧ (xs.map (·.1)).Nodup
 | .set S n => h.SetOf (intKind P w) a S n
 | .ins C dx fs => H dx = some (.own a) ∧ fs.length ≤ 1000 ∧ dx ≠ a ∧ h.get? a = some (W.instObj C dx) ∧
  ∃ mA, h.Ns1 dx mA ∧ (∀ f, RelO (fs.lookup f) (mA f)) ∧ PySem.Within mA (fs.map (·.1))
 | .own _ => ∃ o, h.get? a = some o
 | .xd fs => ∃ mA, h.Ns1 a mA ∧ ∀ f, RelO (fs.lookup f) (mA f)
 | .rng lo hi => ∃ t u v, h.get? a = some { cls := .type "range", data := .fields #[.int lo t, .int hi u, .int 1 v] }
 | .frz o u => h.get? a = some o ∧ ObjOk H h a u
 | .tbl ps => h.get? a = some { cls := .none, data := .fields ps }
 | .met f x => h.get? a = some (W.methodObj (.ref f) (.ref x))
 | .ext φ => φ h ∧ (∃ o, h.get? a = some o) ∧ ∀ h1 h2 : Heap, φ h1 → (∀ o, h1.get? a = some o → h2.get? a = some o) → φ h2
def HOk (H : Hp) (h : Heap) : Prop := ∀ a o, H a = some o → ObjOk P w H h a o
end
section
variable {P : Program} {w : World} {H H' : Hp} {h h' : Heap} {a : Addr} {o : HO}
theorem ObjOk.lt (x : ObjOk P w H h a o) : a < h.objs.size := by
 cases o with
 | lst xs => obtain ⟨_, _, _, _, e⟩ := x; exact Heap.lt_size e
 | tup xs => obtain ⟨_, _, _, p⟩ := x; exact p.lt
 | dK kvs => obtain ⟨_, _, _, _, o, _, _, e, _⟩ := x; exact Heap.lt_size e
 | dT kvs => obtain ⟨_, _, _, _, o, _, _, e, _⟩ := x; exact Heap.lt_size e
 | set S n => obtain ⟨o, _, _, _, e, _⟩ := x; exact Heap.lt_size e
 | ins C dx fs => obtain ⟨_, _, _, e, _⟩ := x; exact Heap.lt_size e
 | own y => obtain ⟨_, e⟩ := x; exact Heap.lt_size e
 | xd fs => obtain ⟨_, ⟨_, _, _, e, _⟩, _⟩ := x; exact Heap.lt_size e
 | rng lo hi => obtain ⟨_, _, _, e⟩ := x; exact Heap.lt_size e
 | frz ob u => obtain ⟨e, _⟩ := x; exact Heap.lt_size e
 | tbl ps => exact Heap.lt_size (show h.get? a = some _ from x)
 | met f y => exact Heap.lt_size (show h.get? a = some _ from x)
 | ext φ => obtain ⟨_, ⟨_, e⟩, _⟩ := x; exact Heap.lt_size e
theorem Paired.mapP {α β : Type} {F G : α → β → Prop} : ∀ {l₁ : List α} {l₂ : List β}, Paired F l₁ l₂ → (∀ a b, F a b → G a b) → Paired G l₁ l₂
 | _, _, .nil, _ => .nil
 | _, _, .cons r t, f => .cons (f _ _ r) (Paired.mapP t f)
theorem ObjOk.stay (x : ObjOk P w H h a o) (k : ∀ b u, (b = a ∨ H b = some (.own a)) → h.get? b = some u → h'.get? b = some u)
  (ho : ∀ b, H b = some (.own a) → H' b = some (.own a)) (ht : ∀ b xs, H b = some (.tup xs) → H' b = some (.tup xs)) : ObjOk P w H' h' a o := by
 induction o with
 | lst xs => obtain ⟨z, its, n, r, e⟩ := x; exact ⟨z, its, n, r, k _ _ (.inl rfl) e⟩
 | tup xs => obtain ⟨z, its, r, ob, e, c⟩ := x; exact ⟨z, its, r, ob, k _ _ (.inl rfl) e, c⟩
 | dK kvs => obtain ⟨z, y, vs, r, ob, es, ep, e, c⟩ := x; exact ⟨z, y, vs, r, ob, es, ep, k _ _ (.inl rfl) e, c⟩
 |
  dT kvs =>
  obtain ⟨z, y, xs, r, ob, es, ep, e, c⟩ := x
  exact ⟨z, y, xs, Paired.mapP r fun p q z => ⟨z.1, ht _ _ z.2.1, z.2.2⟩, ob, es, ep, k _ _ (.inl rfl) e, c⟩
 | set S n => obtain ⟨ob, es, ep, t, e, c⟩ := x; exact ⟨ob, es, ep, t, k _ _ (.inl rfl) e, c⟩
 |
  ins C dx fs =>
  obtain ⟨d, z, ne, e, mA, ⟨od, es, ep, e2, c⟩, r⟩ := x
  exact ⟨ho _ d, z, ne, k _ _ (.inl rfl) e, mA, ⟨od, es, ep, k _ _ (.inr d) e2, c⟩, r⟩
 | own y => obtain ⟨ob, e⟩ := x; exact ⟨ob, k _ _ (.inl rfl) e⟩
 | xd fs => obtain ⟨mA, ⟨od, es, ep, e, c⟩, r⟩ := x; exact ⟨mA, ⟨od, es, ep, k _ _ (.inl rfl) e, c⟩, r⟩
 | rng lo hi => obtain ⟨t, u, v, e⟩ := x; exact ⟨t, u, v, k _ _ (.inl rfl) e⟩
 | frz ob u ih => obtain ⟨e, q⟩ := x; exact ⟨k _ _ (.inl rfl) e, ih q⟩
 |
  tbl ps =>
  have e : h.get? a = some { cls := .none, data := .fields ps } := x
  show h'.get? a = some { cls := .none, data := .fields ps }
  exact k a _ (.inl rfl) e
 |
  met f y =>
  have e : h.get? a = some (W.methodObj (.ref f) (.ref y)) := x
  show h'.get? a = some (W.methodObj (.ref f) (.ref y))
  exact k a _ (.inl rfl) e
 | ext φ => obtain ⟨p, ⟨o, e⟩, st⟩ := x; exact ⟨st _ _ p fun o q => k _ _ (.inl rfl) q, ⟨o, k _ _ (.inl rfl) e⟩, st⟩
theorem HOk.lt (x : HOk P w H h) (e : H a = some o) : a < h.objs.size := (x a o e).lt
theorem HOk.fresh (x : HOk P w H h) (e : h.objs.size ≤ a) : H a = none := by
 cases q : H a with
 | none => rfl
 | some u => exact absurd (Nat.lt_of_lt_of_le (x.lt q) e) (Nat.lt_irrefl _)
theorem HOk.kept (x : HOk P w H h) (k : ∀ b u, h.get? b = some u → h'.get? b = some u) : HOk P w H h' := fun a o e =>
 (x a o e).stay (fun b u _ q => k b u q) (fun _ q => q) fun _ _ q => q
theorem HOk.laid (x : HOk P w H h) (k : ∀ b u, h.get? b = some u → h'.get? b = some u) (hp : h.objs.size ≤ a) (new : ObjOk P w (upd H a o) h' a o) : HOk P w (upd H a o) h' := fun b u e => by
 have hn := x.fresh hp
 by_cases hb : b = a
 · subst hb; rw [upd_same] at e; cases e; exact new
 ·
  rw [upd_ne hb] at e
  exact (x b u e).stay (fun c v _ q => k c v q) (fun c q => by rw [upd_ne (ne_of_none q hn)]; exact q) fun c xs q => by rw [upd_ne (ne_of_none q hn)]; exact q
end
def Rd (H : Hp) (a : Addr) (u : HO) : Prop := H a = some u ∨ ∃ o, H a = some (.frz o u)
theorem Rd.of {H : Hp} {a : Addr} {u : HO} (h : H a = some u) : Rd H a u := .inl h
theorem Rd.ok {P : Program} {w : World} {H : Hp} {h : Heap} {a : Addr} {u : HO} (r : Rd H a u) (x : HOk P w H h) : ObjOk P w H h a u := by
 rcases r with r | ⟨o, r⟩
 · exact x a u r
 ·
  obtain ⟨_, q⟩ := x a _ r
  exact q
def Mut : Option HO → Prop
 | some (.lst _) => True
 | some (.dK _) => True
 | some (.dT _) => True
 | some (.set _ _) => True
 | some (.ins _ _ _) => True
 | some (.ext _) => True
 | _ => False
section
variable {P : Program} {w : World} {H : Hp} {h h' : Heap} {x e : Addr} {o' : HO}
theorem HOk.write (ok : HOk P w H h) (mu : Mut (H x)) (he : e = x ∨ H e = some (.own x)) (k : ∀ b u, b ≠ e → h.get? b = some u → h'.get? b = some u) (heo : ∃ u, h'.get? e = some u)
  (new : ObjOk P w (upd H x o') h' x o') : HOk P w (upd H x o') h' := fun b u q => by
 have nown : ∀ c y, H c = some (.own y) → c ≠ x := fun c y r z => by subst z; rw [r] at mu; exact mu
 have ntup : ∀ c xs, H c = some (.tup xs) → c ≠ x := fun c xs r z => by subst z; rw [r] at mu; exact mu
 by_cases hb : b = x
 · subst hb; rw [upd_same] at q; cases q; exact new
 ·
  rw [upd_ne hb] at q
  by_cases hbe : b = e
  ·
   have q' : H b = some (.own x) := by
    rcases he with z | z
    · exact absurd (hbe.trans z) hb
    · rw [hbe]; exact z
   rw [q] at q'; cases q'
   obtain ⟨v, hv⟩ := heo
   exact ⟨v, by rw [hbe]; exact hv⟩
  ·
   refine (ok b u q).stay (fun c v hc r => k c v ?_ r) (fun c r => by rw [upd_ne (nown c b r)]; exact r) fun c xs r => by rw [upd_ne (ntup c xs r)]; exact r
   rcases hc with rfl | hc
   · exact hbe
   ·
    rintro rfl
    rcases he with z | z
    · exact nown c b hc z
    · rw [hc] at z; cases z; exact hb rfl
end
structure Un (fs ex : List Addr) (H H' : Hp) (h h' : Heap) : Prop where
 keep : ∀ b o, h.get? b = some o → H b = none → b ∉ fs → b ∉ ex → h'.get? b = some o
 slot : ∀ b o, h.get? b = some o → H b = none → b ∈ fs → b ∉ ex → ∃ sl, h'.get? b = some { o with slots := sl }
 free : ∀ b o, h.get? b = some o → H b = none → b ∉ ex → H' b = none
 there : ∀ b o, h.get? b = some o → b ∉ ex → ∃ o', h'.get? b = some o'
 tups : ∀ b xs, H b = some (.tup xs) → H' b = some (.tup xs)
 frzs : ∀ b o u, H b = some (.frz o u) → H' b = some (.frz o u)
 tbls : ∀ b ps, H b = some (.tbl ps) → ∃ more, H' b = some (.tbl (ps ++ more))
section
variable {fs fs' ex ex' : List Addr} {H H1 H2 : Hp} {h h1 h2 h' : Heap} {a x e : Addr} {o : HO}
theorem Un.any (u : Un fs ex H H1 h h1) {b : Addr} {ob : Obj} (q : h.get? b = some ob) (n : H b = none) (hx : b ∉ ex) : ∃ sl, h1.get? b = some { ob with slots := sl } := by
 by_cases hb : b ∈ fs
 · exact u.slot b ob q n hb hx
 · exact ⟨ob.slots, u.keep b ob q n hb hx⟩
theorem Un.trans (a : Un fs ex H H1 h h1) (b : Un fs ex H1 H2 h1 h2) : Un fs ex H H2 h h2 where
 keep := fun c ob q n hc hx => b.keep c ob (a.keep c ob q n hc hx) (a.free c ob q n hx) hc hx
 slot := fun c ob q n hc hx => by
  obtain ⟨sl, e1⟩ := a.slot c ob q n hc hx
  obtain ⟨sl', e2⟩ := b.slot c _ e1 (a.free c ob q n hx) hc hx
  exact ⟨sl', e2⟩
 free := fun c ob q n hx => by
  obtain ⟨o', e1⟩ := a.there c ob q hx
  exact b.free c o' e1 (a.free c ob q n hx) hx
 there := fun c ob q hx => by
  obtain ⟨o', e1⟩ := a.there c ob q hx
  exact b.there c o' e1 hx
 tups := fun c xs q => b.tups c xs (a.tups c xs q)
 frzs := fun c ob xs q => b.frzs c ob xs (a.frzs c ob xs q)
 tbls := fun c ps q => by
  obtain ⟨m1, e1⟩ := a.tbls c ps q
  obtain ⟨m2, e2⟩ := b.tbls c _ e1
  exact ⟨m1 ++ m2, by rw [e2, Array.append_assoc]⟩
theorem Un.kept (k : ∀ b u, h.get? b = some u → h'.get? b = some u) : Un fs ex H H h h' :=
 ⟨fun b ob q _ _ _ => k b ob q, fun b ob q _ _ _ => ⟨ob.slots, k b ob q⟩, fun _ _ _ n _ => n, fun b ob q _ => ⟨ob, k b ob q⟩, fun _ _ q => q, fun _ _ _ q => q, fun _ ps q => ⟨#[], by rw [q]; simp⟩⟩
theorem Un.refl : Un fs ex H H h h := Un.kept fun _ _ q => q
theorem Un.laid (k : ∀ b u, h.get? b = some u → h'.get? b = some u) (hp : h.objs.size ≤ a) (hn : H a = none) : Un fs ex H (upd H a o) h h' where
 keep := fun b u q _ _ _ => k b u q
 slot := fun b u q _ _ _ => ⟨u.slots, k b u q⟩
 free := fun b u q n _ => by rw [upd_ne (Nat.ne_of_lt (Nat.lt_of_lt_of_le (Heap.lt_size q) hp))]; exact n
 there := fun b u q _ => ⟨u, k b u q⟩
 tups := fun b xs q => by rw [upd_ne (ne_of_none q hn)]; exact q
 frzs := fun b u xs q => by rw [upd_ne (ne_of_none q hn)]; exact q
 tbls := fun b ps q => ⟨#[], by rw [upd_ne (ne_of_none q hn), q]; simp⟩
theorem Un.write (mu : Mut (H x)) (he : e = x ∨ H e = some (.own x)) (k : ∀ b u, b ≠ e → h.get? b = some u → h'.get? b = some u) (heo : ∃ u, h'.get? e = some u) : Un fs ex H (upd H x o) h h' := by
 have hx : ∀ b, H b = none → b ≠ x := fun b n z => by subst z; rw [n] at mu; exact mu
 have hb : ∀ b, H b = none → b ≠ e := fun b n z => by
  subst z
  rcases he with r | r
  · exact hx b n r
  · rw [n] at r; cases r
 have hm : ∀ b u, H b = some u → ¬ Mut (some u) → b ≠ x := fun b u q nm z => by subst z; rw [q] at mu; exact nm mu
 refine ⟨fun b u q n _ _ => k b u (hb b n) q, fun b u q n _ _ => ⟨u.slots, k b u (hb b n) q⟩, fun b u q n _ => by rw [upd_ne (hx b n)]; exact n, fun b u q _ => ?_,
  fun b xs q => by rw [upd_ne (hm b _ q fun z => z)]; exact q, fun b u xs q => by rw [upd_ne (hm b _ q fun z => z)]; exact q, fun b ps q => ⟨#[], by rw [upd_ne (hm b _ q fun z => z), q]; simp⟩⟩
 by_cases hbe : b = e
 · subst hbe; exact heo
 · exact ⟨u, k b u hbe q⟩
theorem Un.mono (u : Un fs ex H H1 h h1) (hs : ∀ b ∈ fs, b ∈ fs') (hx : ∀ b ∈ ex, b ∈ ex') : Un fs' ex' H H1 h h1 :=
 ⟨fun b ob q n hb he => u.keep b ob q n (fun z => hb (hs b z)) fun z => he (hx b z), fun _ _ q n _ he => u.any q n fun z => he (hx _ z), fun b ob q n he => u.free b ob q n fun z => he (hx b z), fun b ob q he => u.there b ob q fun z => he (hx b z), u.tups, u.frzs, u.tbls⟩
end
def trk (h : Heap) (H : Hp) : List Addr := (List.range h.objs.size).filter fun a => (H a).isSome
def hidT (h : Heap) (H : Hp) : Heap := W.hideAll h (trk h H)
theorem hidT_size (h : Heap) (H : Hp) : (hidT h H).objs.size = h.objs.size := W.hideAll_size _ _
theorem hidT_get {h : Heap} {H : Hp} {b : Addr} {o : Obj} (e : h.get? b = some o) (n : H b = none) : (hidT h H).get? b = some o :=
 W.hideAll_get _ e fun hm => by
  have q : (H b).isSome = true := (List.mem_filter.mp hm).2
  rw [n] at q; simp at q
theorem of_hidT {h : Heap} {H : Hp} {b : Addr} {o : Obj} (e : (hidT h H).get? b = some o) : h.get? b = some o ∧ H b = none := by
 have e' : h.get? b = some o := W.of_hideAll (trk h H) e
 refine ⟨e', ?_⟩
 cases q : H b with
 | none => rfl
 |
  some x =>
  have hm : b ∈ trk h H := List.mem_filter.mpr ⟨List.mem_range.mpr (Heap.lt_size e'), by simp [q]⟩
  have z : (hidT h H).get? b = none := W.hideAll_none (trk h H) hm
  rw [z] at e; cases e
def allNews (g h : Heap) (L : Addr) : List (Addr × Obj) := (List.range h.objs.size).filterMap fun a => if a = L ∨ (g.get? a).isSome = true then none else (h.get? a).map fun o => (a, o)
def rest (g h : Heap) (L d : Addr) : List (Addr × Obj) := (allNews g h L).filter fun p => decide (p.1 ≠ d)
end L2
namespace L2
open PySem PySem.Spec PyProof.Rows
structure Mod (K : W.Frag) (mg : Str → Option Value) (base : Heap) : Prop where
 kin : K.In base
 glob : base.Ns mainGlobals mg
 blt : ∃ mb, base.Ns builtinsNs mb ∧ ∀ x : Str, x ≠ "__name__" → mb x = bootBuiltins x
 nolimit : base.NoLimit
structure Cx where
 prog : Program
 w : World
 K : W.Frag
 mg : Str → Option Value
 base : Heap
 A : Around
 N : List Str
 s₀ : Shared
 H₀ : Hp
 env : Env
 outer : List Env
 stack : List Env
 ex : List Addr
 fn : Str → Bool
 calm : Bool
 pn : List (Addr × Obj)
 xe : Value → Shared → Prop
def frs (l : List Env) : List Addr := l.filterMap (·.frame)
abbrev Cx.fs (X : Cx) : List Addr := frs X.outer
def Vis (sc : Scope) (x : Str) : Prop := sc.names.lookup x = some .local ∨ sc.names.lookup x = some .cell ∨ sc.names.lookup x = some .free
def Loc (sc : Scope) (x : Str) : Prop := sc.names.lookup x = some .local ∨ sc.names.lookup x = some .cell
def Look (env : Env) (h : Heap) (m : Str → Option Value) (x : Str) (u : Value) : Prop :=
 (env.kindOf x = some .local ∧ m x = some u) ∨ ((env.kindOf x = some .cell ∨ env.kindOf x = some .free) ∧ ∃ c, env.cells.lookup x = some c ∧ h.IsCell c (some u))
structure Cx.Ok (X : Cx) : Prop where
 mod : Mod X.K X.mg X.base
 kind : X.env.scope.kind = .function
 glob : X.env.globals = mainGlobals
 blt : X.env.builtins = builtinsNs
 above : X.s₀.heap.objs.size ≤ X.env.locals
 inj : ∀ x y c, X.env.cells.lookup x = some c → X.env.cells.lookup y = some c → x = y
 has : ∀ x, (X.env.kindOf x = some .cell ∨ X.env.kindOf x = some .free) → ∃ c, X.env.cells.lookup x = some c
 cab : ∀ x c, X.fn x = true → X.env.cells.lookup x = some c → X.s₀.heap.objs.size ≤ c
 hd : X.calm = true → X.A.handled = none
 frames : X.A.frames = some X.stack
 stk : X.stack = X.outer ∨ (X.stack = X.env :: X.outer ∧ X.env.frame = some X.env.locals)
 exf : ∀ b ∈ X.ex, b ≠ X.env.locals ∧ ∀ x c, X.env.cells.lookup x = some c → c ≠ b
 bs : ∀ b o, X.base.get? b = some o → X.s₀.heap.get? b = some o ∧ X.H₀ b = none
 bsz : X.base.objs.size ≤ X.s₀.heap.objs.size
 noex : ∀ b o, X.base.get? b = some o → b ∉ X.ex
 exfs : ∀ b ∈ X.ex, b ∉ X.fs
 funs : X.s₀.heap.FunFrames X.base X.outer
 frf : ∀ b ∈ X.fs, X.H₀ b = none
structure Inv (X : Cx) (pins : List (Addr × Obj)) (σ : List (Option V)) (H : Hp) (s : Shared) : Prop where
 ok : X.Ok
 os : s.os = X.s₀.os
 bare : AllBare s.gens
 base : Un X.fs X.ex X.H₀ H X.s₀.heap s.heap
 loc : ∃ m, s.heap.Ns X.env.locals m ∧ ∀ (i : Nat) (x : Str) (v : V), X.N[i]? = some x → σ[i]? = some (some v) → Vis X.env.scope x → ∃ u, RelV v u ∧ Look X.env s.heap m x u
 cell : ∀ x c, X.env.cells.lookup x = some c → ∃ v, s.heap.IsCell c v
 free : H X.env.locals = none
 freeC : ∀ x c, X.env.cells.lookup x = some c → H c = none
 pin : ∀ p ∈ X.pn ++ pins, s.heap.get? p.1 = some p.2 ∧ H p.1 = none ∧ p.1 ≠ X.env.locals ∧ p.1 ∉ X.fs ∧ ∀ v, p.2.data ≠ .cell v
 hok : HOk X.prog X.w H s.heap
 len : σ.length = X.N.length
section
variable {X : Cx} {pins : List (Addr × Obj)} {σ : List (Option V)} {H H' : Hp} {s : Shared} {h' : Heap}
theorem Cx.Ok.nofr (ok : X.Ok) {b : Addr} {o : Obj} (e : X.base.get? b = some o) : b ∉ X.fs := fun hb => by
 have := (ok.funs.mem hb).1
 rw [e] at this; cases this
theorem Inv.bs (I : Inv X pins σ H s) : ∀ b o, X.base.get? b = some o → s.heap.get? b = some o ∧ H b = none := fun b o e =>
 ⟨I.base.keep b o (I.ok.bs b o e).1 (I.ok.bs b o e).2 (I.ok.nofr e) (I.ok.noex b o e), I.base.free b o (I.ok.bs b o e).1 (I.ok.bs b o e).2 (I.ok.noex b o e)⟩
theorem Inv.bk (I : Inv X pins σ H s) : ∀ b o, X.base.get? b = some o → s.heap.get? b = some o := fun b o e => (I.bs b o e).1
theorem Inv.mod (I : Inv X pins σ H s) : Mod X.K X.mg X.base := I.ok.mod
theorem Inv.kIn (I : Inv X pins σ H s) : X.K.In s.heap := I.ok.mod.kin.keeps I.bk
theorem Inv.nolimit (I : Inv X pins σ H s) : s.heap.NoLimit := I.ok.mod.nolimit.keeps I.bk
theorem Inv.fr (I : Inv X pins σ H s) : ∃ m, Fr X.base X.env.locals s.heap m :=
 let ⟨m, hn, _⟩ := I.loc
 ⟨m, hn, I.bk, Nat.le_trans I.ok.bsz I.ok.above⟩
theorem Inv.lt (I : Inv X pins σ H s) : X.env.locals < s.heap.objs.size := let ⟨_, hn, _⟩ := I.loc; hn.lt
theorem Inv.sz (I : Inv X pins σ H s) : X.s₀.heap.objs.size ≤ s.heap.objs.size := Nat.le_trans I.ok.above (Nat.le_of_lt I.lt)
theorem Inv.nofs (I : Inv X pins σ H s) {a : Addr} (h : s.heap.objs.size ≤ a) : a ∉ X.fs := fun hb => by
 obtain ⟨_, o, ho, _⟩ := I.ok.funs.mem hb
 exact absurd (Nat.lt_of_lt_of_le (Heap.lt_size ho) (Nat.le_trans I.sz h)) (Nat.lt_irrefl _)
theorem Inv.cne (I : Inv X pins σ H s) : ∀ x c, X.env.cells.lookup x = some c → c ≠ X.env.locals := fun x c e z => by
 obtain ⟨v, o, ho, hd⟩ := I.cell x c e
 obtain ⟨m, ⟨o', es, ep, ho', hd', _⟩, _⟩ := I.loc
 rw [z, ho'] at ho; cases ho; rw [hd'] at hd; cases hd
theorem Inv.funs (I : Inv X pins σ H s) : s.heap.FunFrames X.base X.outer := by
 have all : ∀ (l : List Env), (∀ b ∈ frs l, b ∈ X.fs) → X.s₀.heap.FunFrames X.base l → s.heap.FunFrames X.base l := by
  intro l
  induction l with
  | nil => intro _ _; trivial
  |
   cons env r ih =>
   intro hs hl
   obtain ⟨hk, ⟨L, o, hf, hn, ho, hd⟩, hr⟩ := hl
   have hL : L ∈ X.fs := hs L (by unfold frs; rw [List.filterMap_cons, hf]; exact List.mem_cons_self)
   obtain ⟨sl, e⟩ := I.base.slot L o ho (I.ok.frf L hL) hL fun z => I.ok.exfs L z hL
   exact ⟨hk, ⟨L, _, hf, hn, e, hd⟩, ih (fun b hb => hs b (by unfold frs; rw [List.filterMap_cons, hf]; exact List.mem_cons_of_mem _ hb)) hr⟩
 exact all X.outer (fun _ hb => hb) I.ok.funs
theorem Inv.stack (I : Inv X pins σ H s) : s.heap.FunFrames X.base X.stack := by
 rcases I.ok.stk with e | ⟨e, hf⟩
 · rw [e]; exact I.funs
 ·
  rw [e]
  obtain ⟨m, hn, _⟩ := I.loc
  refine .cons (by rw [I.ok.kind]; decide) hf hn ?_ I.funs
  exact Heap.get?_none_of_le (Nat.le_trans I.ok.bsz I.ok.above)
theorem Inv.stkSub (I : Inv X pins σ H s) : ∀ b ∈ frs X.stack, b ∈ X.env.locals :: X.fs := fun b hb => by
 rcases I.ok.stk with e | ⟨e, hf⟩
 · rw [e] at hb; exact List.mem_cons_of_mem _ hb
 ·
  rw [e] at hb
  unfold frs at hb
  rw [List.filterMap_cons, hf] at hb
  exact hb
theorem Inv.stkFree (I : Inv X pins σ H s) : ∀ b ∈ frs X.stack, H b = none := fun b hb => by
 rcases List.mem_cons.mp (I.stkSub b hb) with e | hb
 · rw [e]; exact I.free
 ·
  obtain ⟨_, o, ho, _⟩ := I.ok.funs.mem hb
  exact I.base.free b o ho (I.ok.frf b hb) fun z => I.ok.exfs b z hb
theorem Inv.step {g' : Array GenState} {t' : Nat} {d' : Drawn} {ch : List Addr} (I : Inv X pins σ H s)
  (hch : ∀ b ∈ ch, (b ∈ X.ex ∨ X.s₀.heap.objs.size ≤ b) ∧ b ≠ X.env.locals ∧ (∀ x c, X.env.cells.lookup x = some c → c ≠ b) ∧ ∀ p ∈ X.pn ++ pins, p.1 ≠ b)
  (keep : ∀ b o, b ≠ X.env.locals → b ∉ X.fs → b ∉ ch → s.heap.get? b = some o → H b = none → h'.get? b = some o)
  (slot : ∀ b o, b ≠ X.env.locals → b ∈ X.fs → b ∉ ch → s.heap.get? b = some o → H b = none → ∃ sl, h'.get? b = some { o with slots := sl }) (free : ∀ b o, b ∉ ch → s.heap.get? b = some o → H b = none → H' b = none)
  (there : ∀ b o, b ∉ ch → s.heap.get? b = some o → ∃ o', h'.get? b = some o')
  (tups : ∀ b xs, H b = some (.tup xs) → H' b = some (.tup xs)) (frzs : ∀ b o u, H b = some (.frz o u) → H' b = some (.frz o u)) (tbls : ∀ b ps, H b = some (.tbl ps) → ∃ more, H' b = some (.tbl (ps ++ more)))
  (ns : ∀ m, s.heap.Ns X.env.locals m → h'.Ns X.env.locals m) (hok : HOk X.prog X.w H' h') (hg : AllBare g') :
  Inv X pins σ H' { s with heap := h', gens := g', drawn := d', toks := t' } := by
 have neL : ∀ b o, X.s₀.heap.get? b = some o → b ≠ X.env.locals := fun b o e => Nat.ne_of_lt (Nat.lt_of_lt_of_le (Heap.lt_size e) I.ok.above)
 have neC : ∀ b o, X.s₀.heap.get? b = some o → b ∉ X.ex → b ∉ ch := fun b o e hx hb => by
  rcases (hch b hb).1 with z | z
  · exact hx z
  · exact absurd (Nat.lt_of_lt_of_le (Heap.lt_size e) z) (Nat.lt_irrefl _)
 have cellK : ∀ x c, X.env.cells.lookup x = some c → ∀ v, s.heap.IsCell c v → h'.IsCell c v := fun x c e v ⟨o, ho, hd⟩ => by
  have nch : c ∉ ch := fun z => (hch c z).2.2.1 x c e rfl
  by_cases hc : c ∈ X.fs
  ·
   obtain ⟨sl, q⟩ := slot c o (I.cne x c e) hc nch ho (I.freeC x c e)
   exact ⟨_, q, hd⟩
  · exact ⟨o, keep c o (I.cne x c e) hc nch ho (I.freeC x c e), hd⟩
 refine ⟨I.ok, I.os, hg, ⟨fun b o e n hb hx => ?_, fun b o e n hb hx => ?_, fun b o e n hx => ?_, fun b o e hx => ?_, fun b xs e => tups b xs (I.base.tups b xs e), fun b o xs e => frzs b o xs (I.base.frzs b o xs e), fun b ps e => ?_⟩, ?_, fun x c e => ?_, ?_, fun x c e => ?_, fun p hp => ?_, hok, I.len⟩
 · exact keep b o (neL b o e) hb (neC b o e hx) (I.base.keep b o e n hb hx) (I.base.free b o e n hx)
 ·
  obtain ⟨sl, e1⟩ := I.base.slot b o e n hb hx
  obtain ⟨sl', e2⟩ := slot b _ (neL b o e) hb (neC b o e hx) e1 (I.base.free b o e n hx)
  exact ⟨sl', e2⟩
 ·
  obtain ⟨o', e1⟩ := I.base.there b o e hx
  exact free b o' (neC b o e hx) e1 (I.base.free b o e n hx)
 ·
  obtain ⟨o', e1⟩ := I.base.there b o e hx
  exact there b o' (neC b o e hx) e1
 ·
  obtain ⟨m1, e1⟩ := I.base.tbls b ps e
  obtain ⟨m2, e2⟩ := tbls b _ e1
  exact ⟨m1 ++ m2, by rw [e2, Array.append_assoc]⟩
 ·
  obtain ⟨m, hn, hl⟩ := I.loc
  refine ⟨m, ns m hn, fun i x v e1 e2 e3 => ?_⟩
  obtain ⟨u, r, l⟩ := hl i x v e1 e2 e3
  refine ⟨u, r, ?_⟩
  rcases l with l | ⟨k, c, e, z⟩
  · exact .inl l
  · exact .inr ⟨k, c, e, cellK x c e _ z⟩
 ·
  obtain ⟨v, z⟩ := I.cell x c e
  exact ⟨v, cellK x c e v z⟩
 ·
  obtain ⟨m, ⟨o, _, _, ho, _⟩, _⟩ := I.loc
  exact free _ o (fun z => (hch _ z).2.1 rfl) ho I.free
 ·
  obtain ⟨v, o, ho, hd⟩ := I.cell x c e
  exact free c o (fun z => (hch c z).2.2.1 x c e rfl) ho (I.freeC x c e)
 ·
  obtain ⟨e, n, ne, nf, d⟩ := I.pin p hp
  have nch : p.1 ∉ ch := fun z => (hch p.1 z).2.2.2 p hp rfl
  exact ⟨keep p.1 p.2 ne nf nch e n, free p.1 p.2 nch e n, ne, nf, d⟩
theorem Inv.un {t' : Nat} (I : Inv X pins σ H s) (u : Un X.fs [] H H' s.heap h') (hok : HOk X.prog X.w H' h') : Inv X pins σ H' { s with heap := h', toks := t' } := by
 obtain ⟨m, ⟨o, es, ep, ho, r⟩, _⟩ := id I.loc
 obtain ⟨sl, hL⟩ := u.any ho I.free (by simp)
 exact I.step (g' := s.gens) (d' := s.drawn) (ch := []) (fun _ z => nomatch z) (fun b o _ hb _ e n => u.keep b o e n hb (by simp)) (fun b o _ hb _ e n => u.slot b o e n hb (by simp)) (fun b o _ e n => u.free b o e n (by simp)) (fun b o _ e => u.there b o e (by simp)) u.tups u.frzs u.tbls (fun m' hm => by
  obtain ⟨o', es', ep', ho', r'⟩ := hm
  rw [ho] at ho'; cases ho'
  exact ⟨_, es', ep', hL, r'⟩) hok I.bare
theorem Inv.call {g' : Array GenState} {t' : Nat} {d' : Drawn} {ch : List Addr} (I : Inv X pins σ H s) (u : Un (frs X.stack) ch H H' s.heap h') (hok : HOk X.prog X.w H' h') (hg : AllBare g')
  (hch : ∀ b ∈ ch, (b ∈ X.ex ∨ X.s₀.heap.objs.size ≤ b) ∧ b ≠ X.env.locals ∧ (∀ x c, X.env.cells.lookup x = some c → c ≠ b) ∧ ∀ p ∈ X.pn ++ pins, p.1 ≠ b) :
  Inv X pins σ H' { s with heap := h', gens := g', drawn := d', toks := t' } := by
 obtain ⟨m, ⟨o, es, ep, ho, r⟩, _⟩ := id I.loc
 obtain ⟨sl, hL⟩ := u.any ho I.free fun z => (hch _ z).2.1 rfl
 exact I.step (ch := ch) hch (fun b o hL hb hc e n => u.keep b o e n (fun z => (List.mem_cons.mp (I.stkSub b z)).elim hL hb) hc) (fun b o _ _ hc e n => u.any e n hc) (fun b o hc e n => u.free b o e n hc) (fun b o hc e => u.there b o e hc) u.tups u.frzs u.tbls (fun m' hm => by
  obtain ⟨o', es', ep', ho', r'⟩ := hm
  rw [ho] at ho'; cases ho'
  exact ⟨_, es', ep', hL, r'⟩) hok hg
theorem Inv.turned {t' : Nat} {it : Addr} (I : Inv X pins σ H s) (k : ∀ b o, b ≠ it → s.heap.get? b = some o → h'.get? b = some o) (hn : H it = none) (hL : it ≠ X.env.locals)
  (h1 : it ∈ X.ex ∨ X.s₀.heap.objs.size ≤ it) (h2 : ∀ x c, X.env.cells.lookup x = some c → c ≠ it) (h3 : ∀ p ∈ X.pn ++ pins, p.1 ≠ it) : Inv X pins σ H { s with heap := h', toks := t' } := by
 have nit : ∀ b u, H b = some u → b ≠ it := fun b u e z => by rw [z, hn] at e; cases e
 refine I.step (g' := s.gens) (d' := s.drawn) (ch := [it]) (fun b hb => ?_) (fun b o _ _ hc e _ => k b o (fun z => hc (by simp [z])) e) (fun b o _ _ hc e _ => ⟨o.slots, k b o (fun z => hc (by simp [z])) e⟩) (fun _ _ _ _ n => n)
  (fun b o hc e => ⟨o, k b o (fun z => hc (by simp [z])) e⟩) (fun _ _ e => e) (fun _ _ _ e => e) (fun b ps e => ⟨#[], by rw [e]; simp⟩) (fun m hm => ?_) (fun b u e => ?_) I.bare
 ·
  have e : b = it := by simpa using hb
  subst e
  exact ⟨h1, hL, h2, h3⟩
 ·
  obtain ⟨o, es, ep, ho, r⟩ := hm
  exact ⟨o, es, ep, k _ o (Ne.symm hL) ho, r⟩
 ·
  refine (I.hok b u e).stay (fun c v hc q => k c v ?_ q) (fun _ q => q) fun _ _ q => q
  rcases hc with z | z
  · rw [z]; exact nit b u e
  · exact nit c _ z
theorem Inv.tok (I : Inv X pins σ H s) (t : Nat) : Inv X pins σ H { s with toks := t } := I.un (h' := s.heap) (t' := t) Un.refl I.hok
theorem Inv.kept {t' : Nat} (I : Inv X pins σ H s) (k : ∀ b u, s.heap.get? b = some u → h'.get? b = some u) : Inv X pins σ H { s with heap := h', toks := t' } := I.un (Un.kept k) (I.hok.kept k)
theorem Inv.laid {a : Addr} {o : HO} {t' : Nat} (I : Inv X pins σ H s) (k : ∀ b u, s.heap.get? b = some u → h'.get? b = some u) (hp : s.heap.objs.size ≤ a) (new : ObjOk X.prog X.w (upd H a o) h' a o) :
 Inv X pins σ (upd H a o) { s with heap := h', toks := t' } := I.un (Un.laid k hp (I.hok.fresh hp)) (I.hok.laid k hp new)
theorem Inv.write {x e : Addr} {o : HO} {t' : Nat} (I : Inv X pins σ H s) (mu : Mut (H x)) (he : e = x ∨ H e = some (.own x)) (k : ∀ b u, b ≠ e → s.heap.get? b = some u → h'.get? b = some u) (heo : ∃ u, h'.get? e = some u)
 (new : ObjOk X.prog X.w (upd H x o) h' x o) : Inv X pins σ (upd H x o) { s with heap := h', toks := t' } := I.un (Un.write mu he k heo) (I.hok.write mu he k heo new)
theorem Inv.pins_of {pins' : List (Addr × Obj)} (I : Inv X pins σ H s) (h : ∀ p ∈ pins', s.heap.get? p.1 = some p.2 ∧ H p.1 = none ∧ p.1 ≠ X.env.locals ∧ p.1 ∉ X.fs ∧ ∀ v, p.2.data ≠ .cell v) : Inv X pins' σ H s :=
 ⟨I.ok, I.os, I.bare, I.base, I.loc, I.cell, I.free, I.freeC, fun p hp => (List.mem_append.mp hp).elim (fun z => I.pin p (List.mem_append_left _ z)) (h p), I.hok, I.len⟩
theorem nodup_ix {N : List Str} (hN : N.Nodup) {i j : Nat} {x : Str} (a : N[i]? = some x) (b : N[j]? = some x) : i = j := by
 obtain ⟨h1, e1⟩ := List.getElem?_eq_some_iff.mp a
 obtain ⟨h2, e2⟩ := List.getElem?_eq_some_iff.mp b
 exact (List.getElem_inj hN).mp (e1.trans e2.symm)
theorem store_ok2 {M : Model} {A : Around} {E : Value → Shared → Prop} {i : Nat} {x : Str} {v : V} {u : Value} {Q : Unit → Shared → Prop} (I : Inv X pins σ H s) (hN : X.N.Nodup) (hi : X.N[i]? = some x) (hx : Loc X.env.scope x) (r : RelV v u)
  (h : ∀ s', Inv X pins (σ.set i (some v)) H s' → (∃ a, Heap.SameBut a s.heap s'.heap ∧ (a = X.env.locals ∨ X.env.cells.lookup x = some a)) → Q () s') (hf : X.fn x = true ∨ X.env.scope.names.lookup x = some .local := by first | exact .inl rfl | exact .inr rfl | assumption) : wpAny M A (storeName X.env x u) Q E s := by
 obtain ⟨m, hn, hl⟩ := id I.loc
 have hcls : (X.env.scope.kind == .class || (X.env.scope.kind == .module && X.env.locals != X.env.globals)) = false := by rw [I.ok.kind]; rfl
 have hiσ : i < σ.length := by rw [I.len]; exact (List.getElem?_eq_some_iff.mp hi).1
 have cne := I.cne
 have tracked : ∀ {a : Addr} {h' : Heap}, (∃ o, s.heap.get? a = some o ∧ H a = none) → Heap.SameBut a s.heap h' → HOk X.prog X.w H h' := fun {a h'} ha hs b ob e => by
  obtain ⟨_, _, hfree⟩ := ha
  refine (I.hok b ob e).stay (fun c w' hc q => (hs.2 c ?_).trans q) (fun _ q => q) fun _ _ q => q
  rintro rfl
  rcases hc with rfl | hc
  · rw [hfree] at e; cases e
  · rw [hfree] at hc; cases hc
 rcases hx with hk | hk
 ·
  refine wpAny_storeName_local hk hn (fun h' hn' hs => ?_) hcls
  obtain ⟨oL, _, _, hoL, _⟩ := id hn
  refine h _ ⟨I.ok, I.os, I.bare, ⟨fun b o e n hb hx => ?_, fun b o e n hb hx => ?_, I.base.free, fun b o e hx => ?_, I.base.tups, I.base.frzs, I.base.tbls⟩, ⟨_, hn', fun j y v' e1 e2 e3 => ?_⟩, fun y c e => ?_, I.free, I.freeC, fun p hp => ?_, tracked ⟨oL, hoL, I.free⟩ hs, by simpa using I.len⟩ ⟨_, hs, .inl rfl⟩
  · exact (hs.2 b (Nat.ne_of_lt (Nat.lt_of_lt_of_le (Heap.lt_size e) I.ok.above))).trans (I.base.keep b o e n hb hx)
  ·
   obtain ⟨sl, e1⟩ := I.base.slot b o e n hb hx
   exact ⟨sl, (hs.2 b (Nat.ne_of_lt (Nat.lt_of_lt_of_le (Heap.lt_size e) I.ok.above))).trans e1⟩
  ·
   obtain ⟨o', e1⟩ := I.base.there b o e hx
   exact ⟨o', (hs.2 b (Nat.ne_of_lt (Nat.lt_of_lt_of_le (Heap.lt_size e) I.ok.above))).trans e1⟩
  ·
   by_cases hj : j = i
   ·
    subst hj
    rw [hi] at e1; cases e1
    rw [List.getElem?_set_self hiσ] at e2
    cases e2
    exact ⟨u, r, .inl ⟨hk, by simp⟩⟩
   ·
    rw [List.getElem?_set_ne (Ne.symm hj)] at e2
    obtain ⟨u', r', q⟩ := hl j y v' e1 e2 e3
    refine ⟨u', r', ?_⟩
    rcases q with ⟨k, e⟩ | ⟨k, c, e, z⟩
    ·
     refine .inl ⟨k, ?_⟩
     have : y ≠ x := fun e => hj (nodup_ix hN e1 (e ▸ hi))
     simp [this, e]
    · exact .inr ⟨k, c, e, z.sameBut hs (cne y c e)⟩
  ·
   obtain ⟨w', z⟩ := I.cell y c e
   exact ⟨w', z.sameBut hs (cne y c e)⟩
  ·
   obtain ⟨e, n, ne, nf, d⟩ := I.pin p hp
   exact ⟨(hs.2 p.1 ne).trans e, n, ne, nf, d⟩
 ·
  have hfn : X.fn x = true := by
   rcases hf with z | z
   · exact z
   · rw [z] at hk; cases hk
  obtain ⟨c, hc⟩ := I.ok.has x (.inl hk)
  obtain ⟨w', z⟩ := I.cell x c hc
  refine wpAny_storeName_cell I.ok.kind hk hc z (fun h' hc' hs => ?_)
  obtain ⟨oc, hoc, hocd⟩ := id z
  refine h { s with heap := h' } ⟨I.ok, I.os, I.bare, ⟨fun b o e n hb hx => ?_, fun b o e n hb hx => ?_, I.base.free, fun b o e hx => ?_, I.base.tups, I.base.frzs, I.base.tbls⟩, ⟨m, hn.sameBut hs (Ne.symm (cne x c hc)), fun j y v' e1 e2 e3 => ?_⟩, fun y c' e => ?_, I.free, I.freeC, fun p hp => ?_, tracked ⟨oc, hoc, I.freeC x c hc⟩ hs, by simpa using I.len⟩ ⟨c, hs, .inr hc⟩
  · exact (hs.2 b (Nat.ne_of_lt (Nat.lt_of_lt_of_le (Heap.lt_size e) (I.ok.cab x c hfn hc)))).trans (I.base.keep b o e n hb hx)
  ·
   obtain ⟨sl, e1⟩ := I.base.slot b o e n hb hx
   exact ⟨sl, (hs.2 b (Nat.ne_of_lt (Nat.lt_of_lt_of_le (Heap.lt_size e) (I.ok.cab x c hfn hc)))).trans e1⟩
  ·
   obtain ⟨o', e1⟩ := I.base.there b o e hx
   exact ⟨o', (hs.2 b (Nat.ne_of_lt (Nat.lt_of_lt_of_le (Heap.lt_size e) (I.ok.cab x c hfn hc)))).trans e1⟩
  ·
   by_cases hj : j = i
   ·
    subst hj
    rw [hi] at e1; cases e1
    rw [List.getElem?_set_self hiσ] at e2
    cases e2
    exact ⟨u, r, .inr ⟨.inl hk, c, hc, hc'⟩⟩
   ·
    rw [List.getElem?_set_ne (Ne.symm hj)] at e2
    obtain ⟨u', r', q⟩ := hl j y v' e1 e2 e3
    refine ⟨u', r', ?_⟩
    rcases q with q | ⟨k, c', e, z'⟩
    · exact .inl q
    ·
     refine .inr ⟨k, c', e, z'.sameBut hs ?_⟩
     rintro rfl
     exact hj (nodup_ix hN e1 (I.ok.inj _ _ _ e hc ▸ hi))
  ·
   by_cases hcc : c' = c
   · subst hcc; exact ⟨_, hc'⟩
   ·
    obtain ⟨w2, z2⟩ := I.cell y c' e
    exact ⟨w2, z2.sameBut hs hcc⟩
  ·
   obtain ⟨e, n, ne, nf, d⟩ := I.pin p hp
   refine ⟨(hs.2 p.1 ?_).trans e, n, ne, nf, d⟩
   intro q
   rw [q, hoc] at e
   have q' : oc = p.2 := Option.some.inj e
   exact d w' (by rw [← q']; exact hocd)
theorem store_ok {M : Model} {A : Around} {E : Value → Shared → Prop} {i : Nat} {x : Str} {v : V} {u : Value} {Q : Unit → Shared → Prop} (I : Inv X pins σ H s) (hN : X.N.Nodup) (hi : X.N[i]? = some x) (hx : Loc X.env.scope x) (r : RelV v u)
  (h : ∀ s', Inv X pins (σ.set i (some v)) H s' → Q () s') (hf : X.fn x = true ∨ X.env.scope.names.lookup x = some .local := by first | exact .inl rfl | exact .inr rfl | assumption) : wpAny M A (storeName X.env x u) Q E s :=
 store_ok2 I hN hi hx r (fun s' I' _ => h s' I') hf
theorem Inv.call' {s' : Shared} {ch : List Addr} (I : Inv X pins σ H s) (ho : s'.os = s.os) (u : Un (frs X.stack) ch H H' s.heap s'.heap) (hok : HOk X.prog X.w H' s'.heap) (hg : AllBare s'.gens)
  (hch : ∀ b ∈ ch, (b ∈ X.ex ∨ X.s₀.heap.objs.size ≤ b) ∧ b ≠ X.env.locals ∧ (∀ x c, X.env.cells.lookup x = some c → c ≠ b) ∧ ∀ p ∈ X.pn ++ pins, p.1 ≠ b) : Inv X pins σ H' s' := by
 obtain ⟨h', g', d', t', o'⟩ := s'
 have e : o' = s.os := ho
 subst e
 exact I.call (g' := g') (t' := t') (d' := d') u hok hg hch
end
abbrev XK := Value → Option Addr → Hp → Prop
abbrev St := List (Option V)
abbrev VK := V → Hp → Prop
abbrev TE := St → Hp → VK → Prop
abbrev TT := St → Hp → (Bool → Hp → Prop) → Prop
abbrev TA := St → Hp → (List V → Hp → Prop) → Prop
structure Ends where
 nx : St → Hp → Prop
 rt : St → VK
 bk : St → Hp → Prop := fun _ _ => False
 ct : St → Hp → Prop := fun _ _ => False
abbrev TS := Ends → St → Hp → Prop
def EP (X : Cx) (pins : List (Addr × Obj)) (σ : St) (Q : VK) (u : Value) (s' : Shared) : Prop := ∃ v H', Inv X pins σ H' s' ∧ RelV v u ∧ Q v H'
def TP (X : Cx) (pins : List (Addr × Obj)) (σ : St) (Q : Bool → Hp → Prop) (b : Bool) (s' : Shared) : Prop := ∃ H', Inv X pins σ H' s' ∧ Q b H'
def AP (X : Cx) (pins : List (Addr × Obj)) (σ : St) (Q : List V → Hp → Prop) (us : List Value) (s' : Shared) : Prop := ∃ vs H', Inv X pins σ H' s' ∧ Vals vs us ∧ Q vs H'
def SP (X : Cx) (pins : List (Addr × Obj)) (D : Ends) (f : Flow) (s' : Shared) : Prop :=
 match f with
 | .next => ∃ σ' H', Inv X pins σ' H' s' ∧ D.nx σ' H'
 | .brk => ∃ σ' H', Inv X pins σ' H' s' ∧ D.bk σ' H'
 | .cont => ∃ σ' H', Inv X pins σ' H' s' ∧ D.ct σ' H'
 | .ret u => ∃ v σ' H', Inv X pins σ' H' s' ∧ RelV v u ∧ D.rt σ' v H'
def PE (X : Cx) (e : Expr) (t : TE) : Prop :=
 ∀ (pins : List (Addr × Obj)) (s : Shared) (σ : St) (H : Hp) (Q : VK), Inv X pins σ H s → t σ H Q → wpAny (model X.prog X.w) X.A (eval e X.env) (EP X pins σ Q) X.xe s
def PT (X : Cx) (e : Expr) (t : TT) : Prop :=
 ∀ (pins : List (Addr × Obj)) (s : Shared) (σ : St) (H : Hp) (Q : Bool → Hp → Prop), Inv X pins σ H s → t σ H Q → wpAny (model X.prog X.w) X.A (isTrue e X.env (eval e X.env)) (TP X pins σ Q) X.xe s
def PW (X : Cx) (e : Expr) (t : TT) : Prop :=
 ∀ (whole : Sem Value) (pins : List (Addr × Obj)) (s : Shared) (σ : St) (H : Hp) (Q : Bool → Hp → Prop), Inv X pins σ H s → t σ H Q → wpAny (model X.prog X.w) X.A (isTrue e X.env whole) (TP X pins σ Q) X.xe s
theorem PW.pt {X : Cx} {e : Expr} {t : TT} (h : PW X e t) : PT X e t := h _
def PA (X : Cx) (es : List Expr) (t : TA) : Prop :=
 ∀ (pos : Pos) (pins : List (Addr × Obj)) (s : Shared) (σ : St) (H : Hp) (Q : List V → Hp → Prop), Inv X pins σ H s → t σ H Q → wpAny (model X.prog X.w) X.A (spliced (backTo pos (starEach es X.env))) (AP X pins σ Q) X.xe s
def PS (X : Cx) (st : Stmt) (t : TS) : Prop :=
 ∀ (pins : List (Addr × Obj)) (s : Shared) (σ : St) (H : Hp) (D : Ends), Inv X pins σ H s → t D σ H → wpAny (model X.prog X.w) X.A (exec st X.env) (SP X pins D) X.xe s
def PSs (X : Cx) (st : List Stmt) (t : TS) : Prop :=
 ∀ (pins : List (Addr × Obj)) (s : Shared) (σ : St) (H : Hp) (D : Ends), Inv X pins σ H s → t D σ H → wpAny (model X.prog X.w) X.A (execs st X.env) (SP X pins D) X.xe s
theorem thn {α : Type} {t : Sem α} {Q Q' : α → Shared → Prop} {M : Model} {A : Around} {E : Value → Shared → Prop} {s : Shared} (h : wpAny M A t Q E s) (hQ : ∀ a s, Q a s → Q' a s) : wpAny M A t Q' E s := wpAny_mono h hQ fun _ _ x => x
end L2
namespace L2
open PySem PySem.Spec PyProof.Rows
section
variable {X : Cx}
def tVar (i : Nat) : TE := fun σ H Q => ∃ v, σ[i]? = some (some v) ∧ Q v H
def tC (v : V) : TE := fun _ H Q => Q v H
theorem pe_var {i : Nat} {x : Str} {pos : Pos} (hN : X.N[i]? = some x) (hv : Vis X.env.scope x) (hd : (x == ("__debug__" : Str)) = false := by decide) (hcd : (x == ("__classdict__" : Str)) = false := by decide) : PE X (.Name x pos) (tVar i) := by
 intro pins s σ H Q I h
 obtain ⟨v, e, h⟩ := h
 obtain ⟨m, hn, hl⟩ := I.loc
 obtain ⟨u, r, l⟩ := hl i x v hN e hv
 have fin : EP X pins σ Q u s := ⟨v, H, I, r, h⟩
 rcases l with ⟨hk, hm⟩ | ⟨hk, c, hc, hcell⟩
 · exact wpAny_Name (wpAny_loadName_local I.ok.kind hk hn hm fin) hd
 ·
  rcases hk with hk | hk
  · exact wpAny_Name (wpAny_loadName_cell I.ok.kind hk hc hcell fin) hd
  · exact wpAny_Name (wpAny_loadName_free I.ok.kind hk hc hcell fin hcd) hd
theorem pe_int {i j pos} : PE X (.Constant (.int i) j pos) (tC (.int i)) := fun _ _ _ H _ I h => wpAny_Constant_int ⟨.int i, H, I.tok _, ⟨_, rfl⟩, h⟩
theorem pe_bl {b j pos} : PE X (.Constant (.bool b) j pos) (tC (.bl b)) := fun _ _ _ H _ I h => Constant_bool ⟨.bl b, H, I, rfl, h⟩
theorem pe_non {j pos} : PE X (.Constant .none j pos) (tC .non) := fun _ _ _ H _ I h => Constant_none ⟨.non, H, I, rfl, h⟩
theorem pe_str {x j pos} : PE X (.Constant (.str x) j pos) (tC (.str x)) := fun _ _ _ H _ I h => Calls.Constant_str ⟨.str x, H, I.tok _, ⟨_, rfl⟩, h⟩
def Gl (X : Cx) (x : Str) : Prop := X.env.kindOf x = some .globalImplicit
theorem ld_glob {E : Value → Shared → Prop} {pins : List (Addr × Obj)} {s : Shared} {σ : St} {H : Hp} {x : Str} {u : Value} {pos : Pos} {Q : Value → Shared → Prop} (I : Inv X pins σ H s) (hg : Gl X x) (hm : X.mg x = some u) (h : Q u s)
  (hd : (x == ("__debug__" : Str)) = false := by decide) : wpAny (model X.prog X.w) X.A (eval (.Name x pos) X.env) Q E s :=
 Calls.Name_function_global I.ok.kind hg (Calls.loadGlobal_global (by rw [I.ok.glob]; exact I.mod.glob.keeps I.bk) hm h) hd
theorem ld_blt {E : Value → Shared → Prop} {pins : List (Addr × Obj)} {s : Shared} {σ : St} {H : Hp} {x : Str} {u : Value} {pos : Pos} {Q : Value → Shared → Prop} (I : Inv X pins σ H s) (hg : Gl X x) (hm : X.mg x = none) (hv : bootBuiltins x = some u) (h : Q u s)
  (hn : x ≠ "__name__" := by decide) (hd : (x == ("__debug__" : Str)) = false := by decide) : wpAny (model X.prog X.w) X.A (eval (.Name x pos) X.env) Q E s := by
 obtain ⟨mb, h1, h2⟩ := I.mod.blt
 exact Calls.Name_function_global I.ok.kind hg (Calls.loadGlobal_builtin (by rw [I.ok.glob]; exact I.mod.glob.keeps I.bk) hm (by rw [I.ok.blt]; exact h1.keeps I.bk) ((h2 x hn).trans hv) h) hd
theorem pe_glob {x : Str} {v : V} {u : Value} {pos : Pos} (hg : Gl X x) (hm : X.mg x = some u) (r : RelV v u) (hd : (x == ("__debug__" : Str)) = false := by decide) : PE X (.Name x pos) (tC v) :=
 fun _ _ _ H _ I h => ld_glob I hg hm ⟨v, H, I, r, h⟩ hd
theorem pe_bltn {x : Str} {v : V} {u : Value} {pos : Pos} (hg : Gl X x) (hm : X.mg x = none) (hv : bootBuiltins x = some u) (r : RelV v u) (hn : x ≠ "__name__" := by decide) (hd : (x == ("__debug__" : Str)) = false := by decide) : PE X (.Name x pos) (tC v) :=
 fun _ _ _ H _ I h => ld_blt I hg hm hv ⟨v, H, I, r, h⟩ hn hd
variable {a b : Expr} {ta tb : TE} {pos : Pos}
def PC (X : Cx) (op : CmpOp) (a b : Expr) (t : TE) : Prop :=
 ∀ (pins : List (Addr × Obj)) (s : Shared) (σ : St) (H : Hp) (Q : VK), Inv X pins σ H s → t σ H Q →
  wpAny (model X.prog X.w) X.A (eval a X.env) (fun v s₁ => wpAny (model X.prog X.w) X.A (eval b X.env) (fun u s₂ => wpAny (model X.prog X.w) X.A (compareOp op v u) (EP X pins σ Q) X.xe s₂) X.xe s₁) X.xe s
theorem nobehind (b : Expr) {op : CmpOp} (h : op ≠ .In) (h2 : op ≠ .NotIn) : behindInMarks op b = false := by
 have e1 : (op == CmpOp.In) = false := by cases op <;> first | rfl | exact absurd rfl h
 have e2 : (op == CmpOp.NotIn) = false := by cases op <;> first | rfl | exact absurd rfl h2
 cases b <;> simp [behindInMarks, e1, e2]
def tB (t : TE) : TT := fun σ H Q => t σ H fun x H1 => ∃ c, x = .bl c ∧ Q c H1
theorem pt_cmp {op : CmpOp} {t : TE} (h : PC X op a b t) (h1 : behindInMarks op b = false := by first | exact nobehind _ (by decide) (by decide) | rfl) : PT X (.Compare a [op] [b] pos) (tB t) := by
 intro pins s σ H Q I hw
 refine wpAny_isTrue_Compare1 (thn (h pins s σ H _ I hw) fun v s1 h1 => thn h1 fun u s2 h2 => thn h2 fun c s3 ⟨x, H1, I1, r1, q1⟩ => ?_) h1
 obtain ⟨d, rfl, q⟩ := q1
 cases r1
 exact wpAny_truthy_bool ⟨H1, I1, q⟩
theorem pt_val {e : Expr} {t : TE} (h : PE X e t) (he : ∀ whole, isTrue e X.env whole = (do let v ← whole; standAt e.pos; holding [v] (truthy v)) := by intro _; rfl) : PT X e (tB t) := by
 intro pins s σ H Q I hw
 refine isTrue_plain (thn (h pins s σ H _ I hw) fun v s1 ⟨x, H1, I1, r1, q1⟩ => ?_) (he _)
 obtain ⟨d, rfl, q⟩ := q1
 cases r1
 exact wpAny_truthy_bool ⟨H1, I1, q⟩
variable {tA tB' : TT} {rest : List Expr}
def tAnd (t u : TT) : TT := fun σ H Q => t σ H fun c H1 => if c = true then u σ H1 Q else Q false H1
def tOr (t u : TT) : TT := fun σ H Q => t σ H fun c H1 => if c = true then Q true H1 else u σ H1 Q
def tNot (t : TT) : TT := fun σ H Q => t σ H fun c H1 => Q (!c) H1
theorem pw_and1 (ha : PT X a tA) : PW X (.BoolOp .And [a] pos) tA := by
 intro wh pins s σ H Q I h
 refine isTrue_and (thn (ha pins s σ H Q I h) fun c s1 e => ?_)
 cases c with
 | true => exact isTrue_and_nil e
 | false => exact e
theorem pw_or1 (ha : PT X a tA) : PW X (.BoolOp .Or [a] pos) tA := by
 intro wh pins s σ H Q I h
 refine isTrue_or (thn (ha pins s σ H Q I h) fun c s1 e => ?_)
 cases c with
 | false => exact isTrue_or_nil e
 | true => exact e
theorem pw_and (ha : PT X a tA) (hb : PW X (.BoolOp .And (b :: rest) pos) tB') : PW X (.BoolOp .And (a :: b :: rest) pos) (tAnd tA tB') := by
 intro wh pins s σ H Q I h
 refine isTrue_and (thn (ha pins s σ H _ I h) fun c s1 ⟨H1, I1, q1⟩ => ?_)
 cases c with
 | true => exact hb wh pins s1 σ H1 Q I1 q1
 | false => exact ⟨H1, I1, q1⟩
theorem pw_or (ha : PT X a tA) (hb : PW X (.BoolOp .Or (b :: rest) pos) tB') : PW X (.BoolOp .Or (a :: b :: rest) pos) (tOr tA tB') := by
 intro wh pins s σ H Q I h
 refine isTrue_or (thn (ha pins s σ H _ I h) fun c s1 ⟨H1, I1, q1⟩ => ?_)
 cases c with
 | true => exact ⟨H1, I1, q1⟩
 | false => exact hb wh pins s1 σ H1 Q I1 q1
theorem pt_not (ha : PT X a tA) : PT X (.UnaryOp .Not a pos) (tNot tA) := by
 intro pins s σ H Q I h
 exact isTrue_not (ha pins s σ H (fun c H1 => Q (!c) H1) I h)
def tAndV (ta tb : TE) : TE := fun σ H Q => ta σ H fun x H1 => ∃ c, x = .bl c ∧ if c = true then tb σ H1 Q else Q (.bl false) H1
def tOrV (ta tb : TE) : TE := fun σ H Q => ta σ H fun x H1 => ∃ c, x = .bl c ∧ if c = true then Q (.bl true) H1 else tb σ H1 Q
def tNotV (ta : TE) : TE := fun σ H Q => ta σ H fun x H1 => ∃ c, x = .bl c ∧ Q (.bl (!c)) H1
theorem pe_one {op} {t : TE} (h : PE X a t) : PE X (.BoolOp op [a] pos) t := fun pins s σ H Q I hw => BoolOp_one (h pins s σ H Q I hw)
theorem pe_and (ha : PE X a ta) (hb : PE X (.BoolOp .And (b :: rest) pos) tb) : PE X (.BoolOp .And (a :: b :: rest) pos) (tAndV ta tb) := by
 intro pins s σ H Q I h
 refine BoolOp_and (thn (ha pins s σ H _ I h) fun v s1 ⟨x, H1, I1, r1, q1⟩ => ?_)
 obtain ⟨c, rfl, q1⟩ := q1
 cases r1
 refine wpAny_truthy_bool ?_
 cases c with
 | true => exact hb pins s1 σ H1 Q I1 q1
 | false => exact ⟨.bl false, H1, I1, rfl, q1⟩
theorem pe_or (ha : PE X a ta) (hb : PE X (.BoolOp .Or (b :: rest) pos) tb) : PE X (.BoolOp .Or (a :: b :: rest) pos) (tOrV ta tb) := by
 intro pins s σ H Q I h
 refine BoolOp_or (thn (ha pins s σ H _ I h) fun v s1 ⟨x, H1, I1, r1, q1⟩ => ?_)
 obtain ⟨c, rfl, q1⟩ := q1
 cases r1
 refine wpAny_truthy_bool ?_
 cases c with
 | false => exact hb pins s1 σ H1 Q I1 q1
 | true => exact ⟨.bl true, H1, I1, rfl, q1⟩
theorem pe_not (ha : PE X a ta) : PE X (.UnaryOp .Not a pos) (tNotV ta) := by
 intro pins s σ H Q I h
 refine UnaryOp_ (thn (ha pins s σ H _ I h) fun v s1 ⟨x, H1, I1, r1, q1⟩ => ?_)
 obtain ⟨c, rfl, q1⟩ := q1
 cases r1
 exact not_of (wpAny_truthy_bool ⟨.bl (!c), H1, I1, rfl, q1⟩)
def tIf (t : TT) (ta tb : TE) : TE := fun σ H Q => t σ H fun c H1 => if c = true then ta σ H1 Q else tb σ H1 Q
theorem pe_ifExp {c : Expr} (hc : PT X c tA) (ha : PE X a ta) (hb : PE X b tb) : PE X (.IfExp c a b pos) (tIf tA ta tb) := by
 intro pins s σ H Q I h
 refine wpAny_IfExp (thn (hc pins s σ H _ I h) fun d s1 ⟨H1, I1, q1⟩ => ?_)
 cases d with
 | true => exact ha pins s1 σ H1 Q I1 q1
 | false => exact hb pins s1 σ H1 Q I1 q1
end
end L2
namespace L2
open PySem PySem.Spec PyProof.Rows
def SqL (K : W.Frag) (H : Hp) (a : Addr) (xs : List V) : Prop :=
 Rd H a (.lst xs) ∨
  ∃ (o : Obj) (its : Array Value) (n : Nat), K.lookup a = some o ∧ o.cls = .type "list" ∧ o.dict = none ∧ o.data = .seq its n ∧ its.size ≤ sizeLine ∧ Vals xs its.toList
def SqT (K : W.Frag) (H : Hp) (a : Addr) (xs : List V) : Prop :=
 Rd H a (.tup xs) ∨
  ∃ (o : Obj) (its : Array Value) (n : Nat), K.lookup a = some o ∧ o.cls = .type "tuple" ∧ o.data = .seq its n ∧ its.size ≤ sizeLine ∧ Vals xs its.toList
def absV : Value → Option V
 | .none => some .non
 | .bool b => some (.bl b)
 | .int i _ => some (.int i)
 | .str x _ => some (.str x)
 | .bytes b _ => some (.byt b)
 | .float b _ => some (.flt b)
 | .ref a => some (.ref a)
 | .type n => some (.ty n)
 | _ => none
theorem RelV.abs {x : V} {u : Value} (r : RelV x u) : absV u = some x := by
 cases x with
 | non => cases r; rfl
 | bl _ => cases r; rfl
 | int _ => obtain ⟨t, rfl⟩ := r; rfl
 | str _ => obtain ⟨t, rfl⟩ := r; rfl
 | byt _ => obtain ⟨t, rfl⟩ := r; rfl
 | flt _ => obtain ⟨t, rfl⟩ := r; rfl
 | ref _ => cases r; rfl
 | ty _ => cases r; rfl
theorem RelV.inj {x y : V} {u : Value} (r : RelV x u) (q : RelV y u) : x = y := Option.some.inj (r.abs.symm.trans q.abs)
theorem Vals.inj : ∀ {xs ys : List V} {us : List Value}, Vals xs us → Vals ys us → xs = ys
 | _, _, _, .nil, .nil => rfl
 | _, _, _, .cons r t, .cons r' t' => by rw [r.inj r', Vals.inj t t']
section
variable {X : Cx} {pins : List (Addr × Obj)} {σ : St} {H : Hp} {s : Shared} {a : Addr} {xs ys : List V}
theorem SqL.of {K : W.Frag} (h : H a = some (.lst xs)) : SqL K H a xs := .inl (.inl h)
theorem SqT.of {K : W.Frag} (h : H a = some (.tup xs)) : SqT K H a xs := .inl (.inl h)
theorem Inv.list (I : Inv X pins σ H s) (h : SqL X.K H a xs) : ∃ its : List Value, Vals xs its ∧ PlainL s.heap a its.toArray ∧ xs.length ≤ sizeLine := by
 rcases h with h | ⟨o, its, n, hk, hc, hd, hs, hz, r⟩
 ·
  obtain ⟨z, its, n, r, e⟩ := h.ok I.hok
  exact ⟨its, r, ⟨_, n, e, rfl, rfl, rfl⟩, z⟩
 ·
  refine ⟨its.toList, r, ⟨o, n, I.kIn a o hk, hc, hd, by simpa using hs⟩, ?_⟩
  have e := r.length
  simp only [Array.length_toList] at e
  omega
theorem Inv.tuple (I : Inv X pins σ H s) (h : SqT X.K H a xs) : ∃ its : List Value, Vals xs its ∧ IsTup s.heap a its.toArray ∧ xs.length ≤ sizeLine := by
 rcases h with h | ⟨o, its, n, hk, hc, hs, hz, r⟩
 ·
  obtain ⟨z, its, r, p⟩ := h.ok I.hok
  exact ⟨its, r, p, z⟩
 ·
  refine ⟨its.toList, r, ⟨o, I.kIn a o hk, hc, n, by simpa using hs⟩, ?_⟩
  have e := r.length
  simp only [Array.length_toList] at e
  omega
theorem Inv.list_inj (I : Inv X pins σ H s) (h : SqL X.K H a xs) (h' : SqL X.K H a ys) : xs = ys := by
 obtain ⟨its, r, ⟨o, n, e, _, _, d⟩, _⟩ := I.list h
 obtain ⟨its', r', ⟨o', n', e', _, _, d'⟩, _⟩ := I.list h'
 rw [e] at e'; cases e'
 rw [d] at d'
 injection d' with d1 _
 have : its = its' := by simpa using congrArg Array.toList d1
 subst this
 exact r.inj r'
theorem Inv.tuple_inj (I : Inv X pins σ H s) (h : SqT X.K H a xs) (h' : SqT X.K H a ys) : xs = ys := by
 obtain ⟨its, r, ⟨o, e, _, n, d⟩, _⟩ := I.tuple h
 obtain ⟨its', r', ⟨o', e', _, n', d'⟩, _⟩ := I.tuple h'
 rw [e] at e'; cases e'
 rw [d] at d'
 injection d' with d1 _
 have : its = its' := by simpa using congrArg Array.toList d1
 subst this
 exact r.inj r'
end
abbrev Cx.wish (X : Cx) (E : Value → Shared → Prop) : Cx := { X with xe := E }
abbrev Cx.nox (X : Cx) : Cx := X.wish fun _ _ => False
theorem Cx.Ok.wish {X : Cx} (ok : X.Ok) (E : Value → Shared → Prop) : (X.wish E).Ok :=
 ⟨ok.mod, ok.kind, ok.glob, ok.blt, ok.above, ok.inj, ok.has, ok.cab, ok.hd, ok.frames, ok.stk, ok.exf, ok.bs, ok.bsz, ok.noex, ok.exfs, ok.funs, ok.frf⟩
theorem Cx.Ok.unwish {X : Cx} {E : Value → Shared → Prop} (ok : (X.wish E).Ok) : X.Ok :=
 ⟨ok.mod, ok.kind, ok.glob, ok.blt, ok.above, ok.inj, ok.has, ok.cab, ok.hd, ok.frames, ok.stk, ok.exf, ok.bs, ok.bsz, ok.noex, ok.exfs, ok.funs, ok.frf⟩
section
variable {X : Cx} {pins : List (Addr × Obj)} {σ : St} {H : Hp} {s : Shared} {E : Value → Shared → Prop}
theorem Inv.wish (I : Inv X pins σ H s) (E : Value → Shared → Prop) : Inv (X.wish E) pins σ H s := ⟨I.ok.wish E, I.os, I.bare, I.base, I.loc, I.cell, I.free, I.freeC, I.pin, I.hok, I.len⟩
theorem Inv.unwish (I : Inv (X.wish E) pins σ H s) : Inv X pins σ H s := ⟨I.ok.unwish, I.os, I.bare, I.base, I.loc, I.cell, I.free, I.freeC, I.pin, I.hok, I.len⟩
theorem SP.unwish {D : Ends} {f : Flow} {s' : Shared} (h : SP (X.wish E) pins D f s') : SP X pins D f s' := by
 cases f with
 | next => obtain ⟨σ', H', I, q⟩ := h; exact ⟨σ', H', I.unwish, q⟩
 | brk => obtain ⟨σ', H', I, q⟩ := h; exact ⟨σ', H', I.unwish, q⟩
 | cont => obtain ⟨σ', H', I, q⟩ := h; exact ⟨σ', H', I.unwish, q⟩
 | ret u => obtain ⟨v, σ', H', I, r, q⟩ := h; exact ⟨v, σ', H', I.unwish, r, q⟩
theorem PE.nox {e : Expr} {t : TE} (h : PE X.nox e t) : PE X e t := fun pins s σ H Q I hw =>
 wpAny_mono (h pins s σ H Q (I.wish _) hw) (fun _ _ ⟨v, H', I', r, q⟩ => ⟨v, H', I'.unwish, r, q⟩) fun _ _ z => False.elim z
theorem PT.nox {e : Expr} {t : TT} (h : PT X.nox e t) : PT X e t := fun pins s σ H Q I hw =>
 wpAny_mono (h pins s σ H Q (I.wish _) hw) (fun _ _ ⟨H', I', q⟩ => ⟨H', I'.unwish, q⟩) fun _ _ z => False.elim z
theorem PSs.nox {st : List Stmt} {t : TS} (h : PSs X.nox st t) : PSs X st t := fun pins s σ H D I hw =>
 wpAny_mono (h pins s σ H D (I.wish _) hw) (fun _ _ q => q.unwish) fun _ _ z => False.elim z
end
section
variable {X : Cx} {st : Stmt} {rest : List Stmt} {t u : TS} {e : Expr} {te : TE} {pos : Pos}
def tNext : TS := fun D σ H => D.nx σ H
def tSeq (t u : TS) : TS := fun D σ H => t { D with nx := u D } σ H
theorem pss_nil : PSs X [] tNext := fun _ _ σ H _ I h => wpAny_execs_nil ⟨σ, H, I, h⟩
theorem pss_cons (h1 : PS X st t) (h2 : PSs X rest u) : PSs X (st :: rest) (tSeq t u) := by
 intro pins s σ H D I h
 refine wpAny_execs_cons (thn (h1 pins s σ H { D with nx := u D } I h) fun f s1 q => ?_)
 cases f with
 |
  next =>
  obtain ⟨σ', H', I', q⟩ := q
  exact h2 pins s1 σ' H' D I' q
 | ret v => exact q
 | brk => exact q
 | cont => exact q
theorem pss_one (h1 : PS X st t) : PSs X [st] t := by
 intro pins s σ H D I h
 refine wpAny_execs_cons (thn (h1 pins s σ H D I h) fun f s1 q => ?_)
 cases f with
 | next => exact wpAny_execs_nil q
 | ret v => exact q
 | brk => exact q
 | cont => exact q
theorem Inv.quiet {pins : List (Addr × Obj)} {σ : St} {H : Hp} {s : Shared} (I : Inv X pins σ H s) : interactive X.env = false := by simp [interactive, I.ok.kind]
def tDrop (te : TE) : TS := fun D σ H => te σ H fun _ H1 => D.nx σ H1
theorem ps_expr (he : PE X e te) (hs : swapsWith e none pos.line X.env = pure false := by rfl) : PS X (.Expr e pos) (tDrop te) := by
 intro pins s σ H D I h
 exact wpAny_Expr_any (thn (he pins s σ H _ I h) fun v s1 ⟨x, H1, I1, r1, q1⟩ => ⟨σ, H1, I1, q1⟩) I.quiet hs
def tRet (te : TE) : TS := fun D σ H => te σ H (D.rt σ)
theorem ps_ret (he : PE X e te) : PS X (.Return (some e) pos) (tRet te) := by
 intro pins s σ H D I h
 exact wpAny_Return_some (thn (he pins s σ H _ I h) fun v s1 ⟨x, H1, I1, r1, q1⟩ => ⟨x, σ, H1, I1, r1, q1⟩)
def tIfS (c : TT) (t u : TS) : TS := fun D σ H => c σ H fun b H1 => if b = true then t D σ H1 else u D σ H1
theorem ps_if {c : Expr} {a b : List Stmt} {tc : TT} (hc : PT X c tc) (ha : PSs X a t) (hb : PSs X b u) : PS X (.If c a b pos) (tIfS tc t u) := by
 intro pins s σ H D I h
 refine wpAny_If (thn (hc pins s σ H _ I h) fun d s1 ⟨H1, I1, q1⟩ => ?_)
 cases d with
 | true => exact ha pins s1 σ H1 D I1 q1
 | false => exact hb pins s1 σ H1 D I1 q1
def tNever : TS := fun _ _ _ => False
theorem ps_never : PS X st tNever := fun _ _ _ _ _ _ h => h.elim
end
abbrev TG := V → St → Hp → (St → Hp → Prop) → Prop
abbrev TGs := List V → St → Hp → (St → Hp → Prop) → Prop
def PG (X : Cx) (target : Expr) (t : TG) : Prop :=
 ∀ (pins : List (Addr × Obj)) (s : Shared) (σ : St) (H : Hp) (v : V) (u : Value) (Q : St → Hp → Prop), Inv X pins σ H s → RelV v u → t v σ H Q →
  wpAny (model X.prog X.w) X.A (assign target X.env u) (fun _ s' => ∃ σ' H', Inv X pins σ' H' s' ∧ Q σ' H') X.xe s
def PGs (X : Cx) (ts : List Expr) (t : TGs) : Prop :=
 ∀ (pins : List (Addr × Obj)) (s : Shared) (σ : St) (H : Hp) (vs : List V) (us : List Value) (Q : St → Hp → Prop), Inv X pins σ H s → Vals vs us → t vs σ H Q →
  wpAny (model X.prog X.w) X.A (assignInOrder ((assignEach ts X.env).map (·.2)) us) (fun _ s' => ∃ σ' H', Inv X pins σ' H' s' ∧ Q σ' H') X.xe s
section
variable {X : Cx} {pos : Pos}
def gName (i : Nat) : TG := fun v σ H Q => Q (σ.set i (some v)) H
theorem pg_name {i : Nat} {x : Str} (hN : X.N.Nodup) (hi : X.N[i]? = some x) (hx : Loc X.env.scope x) (hf : X.fn x = true ∨ X.env.scope.names.lookup x = some .local := by first | exact .inl rfl | exact .inr rfl | assumption) : PG X (.Name x pos) (gName i) := by
 intro pins s σ H v u Q I r h
 exact wpAny_assign_Name (store_ok I hN hi hx r (fun s' I' => ⟨_, H, I', h⟩) hf)
def gNil : TGs := fun vs σ H Q => vs = [] ∧ Q σ H
def gCons (t : TG) (u : TGs) : TGs := fun vs σ H Q => ∃ v r, vs = v :: r ∧ t v σ H fun σ' H' => u r σ' H' Q
theorem pgs_nil : PGs X [] gNil := by
 intro pins s σ H vs us Q I r h
 obtain ⟨e, h⟩ := h
 subst e
 cases r
 exact assignInOrder_nil ⟨σ, H, I, h⟩
theorem pgs_cons {e : Expr} {es : List Expr} {t : TG} {u : TGs} (h1 : PG X e t) (h2 : PGs X es u)
  (hs : (assignEach (e :: es) X.env).map (·.2) = assign e X.env :: (assignEach es X.env).map (·.2) := by rfl) : PGs X (e :: es) (gCons t u) := by
 intro pins s σ H vs us Q I r h
 obtain ⟨v, vr, e1, h⟩ := h
 subst e1
 cases r with
 |
  cons r rr =>
  rw [hs]
  refine assignInOrder_cons (thn (h1 pins s σ H _ _ _ I r h) fun _ s1 ⟨σ1, H1, I1, q1⟩ => ?_)
  exact h2 pins s1 σ1 H1 _ _ Q I1 rr q1
def gTup (K : W.Frag) (n : Nat) (t : TGs) : TG := fun v σ H Q => ∃ a xs, v = .ref a ∧ SqT K H a xs ∧ xs.length = n ∧ t xs σ H Q
theorem pg_tup {es : List Expr} {k : Nat} {t : TGs} {n : Nat} (hc : X.calm = true) (h : PGs X es t)
  (hn : (assignEach es X.env).length = n := by rfl) (hst : (assignEach es X.env).findIdx? (·.1) = none := by rfl) : PG X (.Tuple es k pos) (gTup X.K n t) := by
 intro pins s σ H v u Q I r hw
 obtain ⟨a, xs, e1, hq, hl, hw⟩ := hw
 subst e1
 cases r
 obtain ⟨its, rv, ht, hz⟩ := I.tuple hq
 refine assign_Tuple_tuple (I.ok.hd hc) ht (by simp [hn, ← hl, rv.length]) hst fun h' hx => ?_
 have I1 : Inv X pins σ H { s with heap := h' } := I.kept (t' := s.toks) fun b o e => hx b o (Nat.ne_of_lt (Heap.lt_size e)) e
 exact h pins _ σ H xs _ Q I1 (by simpa using rv) hw
def tAsg (te : TE) (g : TG) : TS := fun D σ H => te σ H fun x H1 => g x σ H1 D.nx
theorem ps_set {i : Nat} {x : Str} {e : Expr} {te : TE} {pos' : Pos} (hN : X.N.Nodup) (hi : X.N[i]? = some x) (hx : Loc X.env.scope x) (he : PE X e te) (hs : swapsWith e (some (.Name x pos')) pos.line X.env = pure false := by rfl) (hf : X.fn x = true ∨ X.env.scope.names.lookup x = some .local := by first | exact .inl rfl | exact .inr rfl | assumption) :
  PS X (.Assign [.Name x pos'] e pos) (tAsg te (gName i)) := by
 intro pins s σ H D I h
 refine wpAny_Assign_Name (thn (he pins s σ H _ I h) fun v s1 ⟨y, H1, I1, r1, q1⟩ => ?_) hs
 exact store_ok I1 hN hi hx r1 (fun s2 I2 => ⟨_, H1, I2, q1⟩) hf
end
section
variable {X : Cx} {pos : Pos}
def tWhile (c : TT) (tb : TS) : TS := fun D σ H => ∃ W : Nat → St → Hp → Prop, (∃ m, W m σ H) ∧ ∀ m σ H, W m σ H →
 c σ H fun b H1 => if b = true then ∃ N : St → Hp → Prop, (∀ σ' H', N σ' H' → ∃ m', m' < m ∧ W m' σ' H') ∧ tb { D with nx := N, ct := N, bk := D.nx } σ H1 else D.nx σ H1
theorem ps_while {c : Expr} {body : List Stmt} {tc : TT} {tb : TS} (hp : PassesOwn (model X.prog X.w) X.A X.env X.xe) (hc : PT X c tc) (hb : PSs X body tb) : PS X (.While c body [] pos) (tWhile tc tb) := by
 intro pins s σ H D I h
 obtain ⟨W, ⟨m0, w0⟩, turn⟩ := h
 refine wpAny_While (codeAny_whileLoop (fun n s' => ∃ σ' H', Inv X pins σ' H' s' ∧ W n σ' H') ?_ m0 ⟨σ, H, I, w0⟩)
 rintro n s1 ⟨σ1, H1, I1, w1⟩
 refine wpAny_passesOwn hp (thn (hc pins s1 σ1 H1 _ I1 (turn n σ1 H1 w1)) fun b s2 ⟨H2, I2, q2⟩ => ?_)
 cases b with
 |
  true =>
  obtain ⟨N, hN, q2⟩ := q2
  rw [if_pos rfl]
  refine wpAny_passesOwn hp (thn (hb pins s2 σ1 H2 _ I2 q2) fun f s3 q3 => ?_)
  cases f with
  |
   next =>
   obtain ⟨σ3, H3, I3, n3⟩ := q3
   obtain ⟨m', hm, w3⟩ := hN σ3 H3 n3
   exact ⟨m', hm, σ3, H3, I3, w3⟩
  |
   cont =>
   obtain ⟨σ3, H3, I3, n3⟩ := q3
   obtain ⟨m', hm, w3⟩ := hN σ3 H3 n3
   exact ⟨m', hm, σ3, H3, I3, w3⟩
  | brk => exact q3
  | ret v => exact q3
 |
  false =>
  rw [if_neg Bool.false_ne_true]
  exact wpAny_execs_nil ⟨σ1, H2, I2, q2⟩
end
structure It where
 go : Nat → Hp → Prop
 yld : Nat → Hp → V → Hp → Prop
 stop : Nat → Hp → Prop
def FpOk (X : Cx) (pins : List (Addr × Obj)) (H : Hp) (b : Addr) : Prop :=
 H b = none ∧ b ≠ X.env.locals ∧ b ∉ X.fs ∧ (b ∈ X.ex ∨ X.s₀.heap.objs.size ≤ b) ∧ (∀ x c, X.env.cells.lookup x = some c → c ≠ b) ∧ ∀ p ∈ X.pn ++ pins, p.1 ≠ b
theorem Inv.fpOk {X : Cx} {pins : List (Addr × Obj)} {σ : St} {H H' : Hp} {s : Shared} {b : Addr} (I : Inv X pins σ H s) (hb : s.heap.objs.size ≤ b) (hn : H' b = none) : FpOk X pins H' b := by
 refine ⟨hn, Nat.ne_of_gt (Nat.lt_of_lt_of_le I.lt hb), I.nofs hb, .inr (Nat.le_trans I.sz hb), fun x c e z => ?_, fun p hp z => ?_⟩
 ·
  obtain ⟨v, q⟩ := I.cell x c e
  exact absurd (Nat.lt_of_lt_of_le q.lt (by rw [z]; exact hb)) (Nat.lt_irrefl _)
 · exact absurd (Nat.lt_of_lt_of_le (Heap.lt_size (I.pin p hp).1) (by rw [z]; exact hb)) (Nat.lt_irrefl _)
structure Turn (P : Program) (w : World) (K : W.Frag) (tg : Expr) (J : It) (fp : List Addr) (it : Addr) (tn : Nat → Heap → Prop) : Prop where
 mem : it ∈ fp
 obj : ∀ i h, tn i h → ∀ b ∈ fp, ∃ o, h.get? b = some o ∧ ∀ v, o.data ≠ .cell v
 keep : ∀ i h h', tn i h → (∀ b ∈ fp, ∀ o, h.get? b = some o → h'.get? b = some o) → tn i h'
 item : ∀ (X : Cx), X.prog = P → X.w = w → X.K = K → X.calm = true → ∀ (i : Nat) (pins : List (Addr × Obj)) (s : Shared) (σ : St) (H : Hp) (E : Value → Shared → Prop), Inv X pins σ H s → (∀ b ∈ fp, FpOk X pins H b) → tn i s.heap → J.go i H →
  wpAny (model P w) X.A (pyNext (.ref it)) (fun r s1 => ∃ u, r = some u ∧
   wpAny (model P w) X.A (letOwnedTupleGo tg (.ref it) u) (fun _ s2 => ∃ x H', Inv X pins σ H' s2 ∧ RelV x u ∧ J.yld i H x H' ∧ tn (i + 1) s2.heap ∧ ∀ b ∈ fp, H' b = none) E s1) E s
 done : ∀ (X : Cx), X.prog = P → X.w = w → X.K = K → X.calm = true → ∀ (i : Nat) (pins : List (Addr × Obj)) (s : Shared) (σ : St) (H : Hp) (E : Value → Shared → Prop), Inv X pins σ H s → (∀ b ∈ fp, FpOk X pins H b) → tn i s.heap → J.stop i H →
  wpAny (model P w) X.A (pyNext (.ref it)) (fun r s1 => r = none ∧ Inv X pins σ H s1) E s
 self : ∀ (A : Around) (i : Nat) (s : Shared) (Q : Value → Shared → Prop) (E : Value → Shared → Prop), tn i s.heap → Q (.ref it) s → wpAny (model P w) A (pyIter (.ref it)) Q E s
abbrev TI := St → Hp → (It → Hp → Prop) → Prop
def PIE (X : Cx) (pins : List (Addr × Obj)) (σ : St) (tg : Expr) (R : It → Hp → Prop) (itv : Value) (s2 : Shared) : Prop :=
 ∃ (it : Addr) (fp : List Addr) (tn : Nat → Heap → Prop) (J : It) (H' : Hp), itv = .ref it ∧ Inv X pins σ H' s2 ∧ Turn X.prog X.w X.K tg J fp it tn ∧ tn 0 s2.heap ∧ (∀ b ∈ fp, FpOk X pins H' b) ∧ R J H'
def PI (X : Cx) (tg iter : Expr) (wi : TI) : Prop :=
 ∀ (pins : List (Addr × Obj)) (s : Shared) (σ : St) (H : Hp) (R : It → Hp → Prop), Inv X pins σ H s → wi σ H R →
  wpAny (model X.prog X.w) X.A (eval iter X.env) (fun v s1 => wpAny (model X.prog X.w) X.A (pyIter v) (PIE X pins σ tg R) X.xe s1) X.xe s
theorem go_of {M : Model} {A : Around} {E : Value → Shared → Prop} {s : Shared} {tg : Expr} {it : Addr} {u : Value} {o : Obj} {n : String} {vs : Array Value} {Q : Unit → Shared → Prop} (ho : s.heap.get? it = some o) (hc : o.cls = .type n) (hd : o.data = .fields vs)
  (hn : ["enumerate", "zip", "dict_itemiterator", "dict_reverseitemiterator", "odict_iterator", "itertools.zip_longest", "itertools.pairwise"].contains n = false) (hQ : Q () s) : wpAny M A (letOwnedTupleGo tg (.ref it) u) Q E s := by
 unfold letOwnedTupleGo
 cases tg <;> first
  | exact wpAny_pure hQ
  | (cases u <;> first
   | exact wpAny_pure hQ
   | (
    refine wpAny_bind (wpAny_load ho ?_)
    rw [hc, hd]
    show wpAny M A (if (["enumerate", "zip", "dict_itemiterator", "dict_reverseitemiterator", "odict_iterator", "itertools.zip_longest", "itertools.pairwise"].contains n && vs[0]? == some (rawInt _)) = true then _ else _) Q E s
    rw [if_neg (by intro h; rw [hn, Bool.false_and] at h; cases h)]
    exact wpAny_pure hQ))
def Itl (K : W.Frag) (a : Addr) : It :=
 ⟨fun i H => ∃ xs x, SqL K H a xs ∧ xs[i]? = some x, fun i H x H' => H' = H ∧ ∀ xs, SqL K H a xs → xs[i]? = some x, fun i H => ∃ xs, SqL K H a xs ∧ xs.length ≤ i⟩
def Itt (K : W.Frag) (a : Addr) : It :=
 ⟨fun i H => ∃ xs x, SqT K H a xs ∧ xs[i]? = some x, fun i H x H' => H' = H ∧ ∀ xs, SqT K H a xs → xs[i]? = some x, fun i H => ∃ xs, SqT K H a xs ∧ xs.length ≤ i⟩
def Itr (lo : Int) (n : Nat) : It := ⟨fun i _ => i < n, fun i H x H' => H' = H ∧ x = .int (lo + i), fun i _ => n ≤ i⟩
theorem turn_list {P : Program} {w : World} {K : W.Frag} {tg : Expr} (a it : Addr) : Turn P w K tg (Itl K a) [it] it (fun i h => h.IsListIter it a i) where
 mem := by simp
 obj := fun i h st b hb => by
  have e : b = it := by simpa using hb
  subst e
  obtain ⟨o, e, c, d⟩ := st
  exact ⟨o, e, fun v z => by rw [d] at z; cases z⟩
 keep := fun i h h' st k => st.at fun o e => k it (by simp) o e
 item := by
  intro X hP hw hK hc i pins s σ H E I hf st hg
  subst hP hw hK
  obtain ⟨xs, x, hq, hx⟩ := hg
  obtain ⟨its, rv, p, hz⟩ := I.list hq
  obtain ⟨u, hu, ru⟩ := rv.get hx
  obtain ⟨f0, f1, f2, f3, f4, f5⟩ := hf it (by simp)
  refine wpAny_pyNext_list_item st p.isList (x := u) (by simpa using hu) fun h' st' sb => ?_
  have I1 : Inv X pins σ H { s with heap := h' } := I.turned (t' := s.toks) (fun b o hb e => (sb.2 b hb).trans e) f0 f1 f3 f4 f5
  obtain ⟨o, e, c, d⟩ := id st'
  exact ⟨u, rfl, go_of (s := { s with heap := h' }) e c d (by decide) ⟨x, H, I1, ru, ⟨rfl, fun ys hy => by rw [I.list_inj hy hq]; exact hx⟩, st', fun b hb => (hf b hb).1⟩⟩
 done := by
  intro X hP hw hK hc i pins s σ H E I hf st hg
  subst hP hw hK
  obtain ⟨xs, hq, hx⟩ := hg
  obtain ⟨its, rv, p, hz⟩ := I.list hq
  obtain ⟨f0, f1, f2, f3, f4, f5⟩ := hf it (by simp)
  have hl := rv.length
  exact wpAny_pyNext_list_end (I.ok.hd hc) st p.isList (by simp; omega) fun h' eb => ⟨rfl, I.turned (t' := s.toks) (fun b o hb e => eb b o hb e) f0 f1 f3 f4 f5⟩
 self := fun _ _ _ _ _ st h => wpAny_pyIter_listiter st h
theorem turn_tuple {P : Program} {w : World} {K : W.Frag} {tg : Expr} (a it : Addr) : Turn P w K tg (Itt K a) [it] it (fun i h => h.IsTupleIter it a i) where
 mem := by simp
 obj := fun i h st b hb => by
  have e : b = it := by simpa using hb
  subst e
  obtain ⟨o, e, c, d⟩ := st
  exact ⟨o, e, fun v z => by rw [d] at z; cases z⟩
 keep := fun i h h' st k => st.at fun o e => k it (by simp) o e
 item := by
  intro X hP hw hK hc i pins s σ H E I hf st hg
  subst hP hw hK
  obtain ⟨xs, x, hq, hx⟩ := hg
  obtain ⟨its, rv, p, hz⟩ := I.tuple hq
  obtain ⟨u, hu, ru⟩ := rv.get hx
  obtain ⟨f0, f1, f2, f3, f4, f5⟩ := hf it (by simp)
  refine wpAny_pyNext_tuple_item st (show s.heap.IsTuple a its.toArray from p) (x := u) (by simpa using hu) fun h' st' sb => ?_
  have I1 : Inv X pins σ H { s with heap := h' } := I.turned (t' := s.toks) (fun b o hb e => (sb.2 b hb).trans e) f0 f1 f3 f4 f5
  obtain ⟨o, e, c, d⟩ := id st'
  exact ⟨u, rfl, go_of (s := { s with heap := h' }) e c d (by decide) ⟨x, H, I1, ru, ⟨rfl, fun ys hy => by rw [I.tuple_inj hy hq]; exact hx⟩, st', fun b hb => (hf b hb).1⟩⟩
 done := by
  intro X hP hw hK hc i pins s σ H E I hf st hg
  subst hP hw hK
  obtain ⟨xs, hq, hx⟩ := hg
  obtain ⟨its, rv, p, hz⟩ := I.tuple hq
  obtain ⟨f0, f1, f2, f3, f4, f5⟩ := hf it (by simp)
  have hl := rv.length
  exact wpAny_pyNext_tuple_end (I.ok.hd hc) st (show s.heap.IsTuple a its.toArray from p) (by simp; omega) fun h' eb => ⟨rfl, I.turned (t' := s.toks) (fun b o hb e => eb b o hb e) f0 f1 f3 f4 f5⟩
 self := fun _ _ _ _ _ st h => wpAny_pyIter_tupleiter st h
theorem turn_range {P : Program} {w : World} {K : W.Frag} {tg : Expr} (it : Addr) (lo : Int) (n : Nat) : Turn P w K tg (Itr lo n) [it] it (fun i h => IsRangeIter h it (lo + (i : Nat) * 1) ((n : Int) - (i : Nat)) 1) where
 mem := by simp
 obj := fun i h st b hb => by
  have e : b = it := by simpa using hb
  subst e
  exact ⟨_, st, fun v z => by
   have z' : Data.fields _ = Data.cell v := z
   cases z'⟩
 keep := fun i h h' st k => k it (by simp) _ st
 item := by
  intro X hP hw hK hc i pins s σ H E I hf st hg
  subst hP hw hK
  obtain ⟨f0, f1, f2, f3, f4, f5⟩ := hf it (by simp)
  have W := Walks.range (prog := X.prog) (w := X.w) (I.ok.hd hc) it lo 1 n
  refine W.item i s _ _ hg st fun v h' tk hv st' kk => ?_
  obtain ⟨t, rfl⟩ := hv
  have I1 : Inv X pins σ H { s with heap := h', toks := tk } := I.turned (fun b o hb e => kk b o (by simpa using hb) e) f0 f1 f3 f4 f5
  refine ⟨_, rfl, go_of (s := { s with heap := h', toks := tk }) (n := "range_iterator") st' rfl rfl (by decide) ⟨.int (lo + i), H, I1, ⟨t, ?_⟩, ⟨rfl, rfl⟩, st', fun b hb => (hf b hb).1⟩⟩
  rw [Int.mul_one]
 done := by
  intro X hP hw hK hc i pins s σ H E I hf st hg
  subst hP hw hK
  obtain ⟨f0, f1, f2, f3, f4, f5⟩ := hf it (by simp)
  exact wpAny_pyNext_range_end (I.ok.hd hc) st (by have : n ≤ i := hg; omega) fun h' eb => ⟨rfl, I.turned (t' := s.toks) (fun b o hb e => eb b o hb e) f0 f1 f3 f4 f5⟩
 self := fun _ _ _ _ _ st h => wpAny_pyIter_rangeiter st h
end L2
namespace L2
open PySem PySem.Spec PyProof.Rows
section
variable {X : Cx} {tg : Expr}
def iList (K : W.Frag) (tl : TE) : TI := fun σ H R => tl σ H fun x H1 => ∃ a, x = .ref a ∧ (∃ xs, SqL K H1 a xs) ∧ R (Itl K a) H1
def iTup (K : W.Frag) (tl : TE) : TI := fun σ H R => tl σ H fun x H1 => ∃ a, x = .ref a ∧ (∃ xs, SqT K H1 a xs) ∧ R (Itt K a) H1
theorem pi_list {l : Expr} {tl : TE} (hl : PE X l tl) : PI X tg l (iList X.K tl) := by
 intro pins s σ H R I h
 refine thn (hl pins s σ H _ I h) fun v s1 ⟨x, H1, I1, r1, q1⟩ => ?_
 obtain ⟨a, e, ⟨xs, hq⟩, q⟩ := q1
 subst e
 cases r1
 obtain ⟨its, rv, p, hz⟩ := I1.list hq
 refine wpAny_pyIter_list p.isList ?_
 refine ⟨s1.heap.objs.size, [s1.heap.objs.size], _, _, H1, rfl, I1.kept (t' := s1.toks) fun b o e => Heap.get?_push_of_some _ e, turn_list a _, ⟨_, Heap.get?_push_size _ rfl, rfl, rfl⟩, fun b hb => ?_, q⟩
 have e : b = s1.heap.objs.size := by simpa using hb
 subst e
 exact I1.fpOk (Nat.le_refl _) (I1.hok.fresh (Nat.le_refl _))
theorem pi_tup {l : Expr} {tl : TE} (hl : PE X l tl) : PI X tg l (iTup X.K tl) := by
 intro pins s σ H R I h
 refine thn (hl pins s σ H _ I h) fun v s1 ⟨x, H1, I1, r1, q1⟩ => ?_
 obtain ⟨a, e, ⟨xs, hq⟩, q⟩ := q1
 subst e
 cases r1
 obtain ⟨its, rv, p, hz⟩ := I1.tuple hq
 refine wpAny_pyIter_tuple (show s1.heap.IsTuple a its.toArray from p) ?_
 refine ⟨s1.heap.objs.size, [s1.heap.objs.size], _, _, H1, rfl, I1.kept (t' := s1.toks) fun b o e => Heap.get?_push_of_some _ e, turn_tuple a _, ⟨_, Heap.get?_push_size _ rfl, rfl, rfl⟩, fun b hb => ?_, q⟩
 have e : b = s1.heap.objs.size := by simpa using hb
 subst e
 exact I1.fpOk (Nat.le_refl _) (I1.hok.fresh (Nat.le_refl _))
theorem range_it {pins : List (Addr × Obj)} {σ : St} {H : Hp} {s : Shared} {R : It → Hp → Prop} {E : Value → Shared → Prop} {lo hi : Int} {t u v : Tok} {tk : Nat} (I : Inv X pins σ H s) (h1 : -(2 ^ 62) ≤ lo) (h2 : lo < 2 ^ 62) (h3 : -(2 ^ 62) ≤ hi) (h4 : hi < 2 ^ 62)
  (q : R (Itr lo (hi - lo).toNat) H) : wpAny (model X.prog X.w) X.A (pyIter (.ref s.heap.objs.size)) (PIE X pins σ tg R) E { s with heap := s.heap.push { cls := .type "range", data := .fields #[.int lo t, .int hi u, .int 1 v] }, toks := tk } := by
 refine wpAny_pyIter_range (IsRange.new ..) (small_one h1 h2 h3 h4) ?_
 have I1 : Inv X pins σ H { s with heap := s.heap.push { cls := .type "range", data := .fields #[.int lo t, .int hi u, .int 1 v] }, toks := tk } := I.kept fun b o e => Heap.get?_push_of_some _ e
 refine ⟨(s.heap.push { cls := .type "range", data := .fields #[.int lo t, .int hi u, .int 1 v] }).objs.size, [(s.heap.push { cls := .type "range", data := .fields #[.int lo t, .int hi u, .int 1 v] }).objs.size], _, _, H, rfl,
  I1.kept (t' := tk) fun b o e => Heap.get?_push_of_some _ e, turn_range _ lo (hi - lo).toNat, ?_, fun b hb => ?_, q⟩
 ·
  have e1 : lo + ((0 : Nat) : Int) * 1 = lo := by simp
  have e2 : (((hi - lo).toNat : Nat) : Int) - ((0 : Nat) : Int) = Builtin.Range.rangeSize lo hi 1 := by rw [rangeSize_one]; split <;> omega
  show IsRangeIter _ _ (lo + ((0 : Nat) : Int) * 1) ((((hi - lo).toNat : Nat) : Int) - ((0 : Nat) : Int)) 1
  rw [e1, e2]
  exact Heap.get?_push_size _ rfl
 ·
  have e : b = (s.heap.push { cls := .type "range", data := .fields #[.int lo t, .int hi u, .int 1 v] }).objs.size := by simpa using hb
  subst e
  exact I1.fpOk (Nat.le_refl _) (I1.hok.fresh (Nat.le_refl _))
def iRng1 (ta : TA) : TI := fun σ H R => ta σ H fun vs H1 => ∃ j : Int, vs = [.int j] ∧ -(2 ^ 62) ≤ j ∧ j < 2 ^ 62 ∧ R (Itr 0 j.toNat) H1
def iRng2 (ta : TA) : TI := fun σ H R => ta σ H fun vs H1 => ∃ i j : Int, vs = [.int i, .int j] ∧ (-(2 ^ 62) ≤ i ∧ i < 2 ^ 62 ∧ -(2 ^ 62) ≤ j ∧ j < 2 ^ 62) ∧ R (Itr i (j - i).toNat) H1
theorem pi_range1 {a : Expr} {ta : TA} {p pos : Pos} (hg : Gl X "range") (hm : X.mg "range" = none) (ha : PA X [a] ta) (hs : starEach [a] X.env = [(false, eval a X.env)] := by rfl) : PI X tg (.Call (.Name "range" p) [a] [] pos) (iRng1 ta) := by
 intro pins s σ H R I h
 refine Call_ (ld_blt I hg hm boot_range (PyProof.Rows.callWith_type1 (thn (ha pos pins s σ H _ I h) fun us s1 ⟨vs, H1, I1, r1, q1⟩ => ?_) hs rfl))
 obtain ⟨j, e, q1, q2, q⟩ := q1
 subst e
 cases r1 with
 |
  cons r rr =>
  cases rr
  obtain ⟨t, rfl⟩ := r
  exact call_range_1 (range_it I1 (by omega) (by omega) q1 q2 (by simpa using q))
theorem pi_range2 {a b : Expr} {ta : TA} {p pos : Pos} (hg : Gl X "range") (hm : X.mg "range" = none) (ha : PA X [a, b] ta) (hs : starEach [a, b] X.env = [(false, eval a X.env), (false, eval b X.env)] := by rfl) (hs2 : starEach [b] X.env = [(false, eval b X.env)] := by rfl) :
  PI X tg (.Call (.Name "range" p) [a, b] [] pos) (iRng2 ta) := by
 intro pins s σ H R I h
 refine Call_ (ld_blt I hg hm boot_range (PyProof.Rows.callWith_type1 (thn (ha pos pins s σ H _ I h) fun us s1 ⟨vs, H1, I1, r1, q1⟩ => ?_) (by rw [hs, hs2]) (by rw [hs2]; rfl)))
 obtain ⟨i, j, e, ⟨q1, q2, q3, q4⟩, q⟩ := q1
 subst e
 cases r1 with
 |
  cons r rr =>
  cases rr with
  |
   cons r' rr =>
   cases rr
   obtain ⟨t, rfl⟩ := r
   obtain ⟨t', rfl⟩ := r'
   exact call_range_2 (range_it I1 q1 q2 q3 q4 q)
def tFor (wi : TI) (g : TG) (tb : TS) : TS := fun D σ H => wi σ H fun J H1 => ∃ W : Nat → Nat → St → Hp → Prop, (∃ m, W 0 m σ H1) ∧ ∀ i m σ H, W i m σ H →
 (J.stop i H ∧ D.nx σ H) ∨ (J.go i H ∧ ∃ N : St → Hp → Prop, (∀ σ' H', N σ' H' → ∃ m', m' < m ∧ W (i + 1) m' σ' H') ∧ ∀ x H', J.yld i H x H' → g x σ H' fun σ2 H2 => tb { D with nx := N, ct := N, bk := D.nx } σ2 H2)
def pinsAt (fp : List Addr) (h : Heap) : List (Addr × Obj) := fp.filterMap fun b => (h.get? b).map fun o => (b, o)
theorem mem_pinsAt {fp : List Addr} {h : Heap} {b : Addr} {o : Obj} (hb : b ∈ fp) (e : h.get? b = some o) : (b, o) ∈ pinsAt fp h := List.mem_filterMap.mpr ⟨b, hb, by rw [e]; rfl⟩
theorem of_pinsAt {fp : List Addr} {h : Heap} {p : Addr × Obj} (hp : p ∈ pinsAt fp h) : p.1 ∈ fp ∧ h.get? p.1 = some p.2 := by
 obtain ⟨b, hb, e⟩ := List.mem_filterMap.mp hp
 cases q : h.get? b with
 | none => rw [q] at e; cases e
 |
  some o =>
  rw [q] at e
  have e' : (b, o) = p := Option.some.inj e
  subst e'
  exact ⟨hb, q⟩
theorem Inv.pinned {pins : List (Addr × Obj)} {σ : St} {H : Hp} {s : Shared} {fp : List Addr} (I : Inv X pins σ H s) (hf : ∀ b ∈ fp, FpOk X pins H b) (ho : ∀ b ∈ fp, ∃ o, s.heap.get? b = some o ∧ ∀ v, o.data ≠ .cell v) : Inv X (pins ++ pinsAt fp s.heap) σ H s :=
 I.pins_of fun p hp => (List.mem_append.mp hp).elim (fun z => I.pin p (List.mem_append_right _ z)) fun z => by
  obtain ⟨hb, e⟩ := of_pinsAt z
  obtain ⟨f0, f1, f2, _⟩ := hf p.1 hb
  obtain ⟨o, e', d⟩ := ho p.1 hb
  rw [e] at e'; cases e'
  exact ⟨e, f0, f1, f2, d⟩
theorem Inv.unpinned {pins pl : List (Addr × Obj)} {σ : St} {H : Hp} {s : Shared} (I : Inv X (pins ++ pl) σ H s) : Inv X pins σ H s := I.pins_of fun p hp => I.pin p (List.mem_append_right _ (List.mem_append_left _ hp))
theorem ps_for {iter : Expr} {body : List Stmt} {wi : TI} {g : TG} {tb : TS} {pos : Pos} (hp : PassesOwn (model X.prog X.w) X.A X.env X.xe) (hc : X.calm = true) (hi : PI X tg iter wi) (hg : PG X tg g) (hb : PSs X body tb)
  (hs : ∀ x, foldedSetIterable iter X.env x = pure x := by intro _; rfl) : PS X (.For tg iter body [] pos) (tFor wi g tb) := by
 intro pins s σ H D I h
 refine wpAny_For (thn (hi pins s σ H _ I h) fun v s1 h1 => thn h1 fun itv s2 h2 => ?_) hs
 obtain ⟨it, fp, tn, J, H2, e, I2, T, st2, f2, W, ⟨m0, w0⟩, turn⟩ := h2
 subst e
 -- what stays true of the iterator's objects through the loop
 have stat : ∀ {H' : Hp}, (∀ b ∈ fp, H' b = none) → ∀ b ∈ fp, FpOk X pins H' b := fun hn b hb => ⟨hn b hb, (f2 b hb).2⟩
 refine codeAny_forLoop_any (fun n s' => ∃ i σ' H', Inv X pins σ' H' s' ∧ tn i s'.heap ∧ (∀ b ∈ fp, H' b = none) ∧ W i n σ' H') ?_ m0 ⟨0, σ, H2, I2, st2, fun b hb => (f2 b hb).1, w0⟩
 rintro n s3 ⟨i, σ3, H3, I3, st3, fr3, w3⟩
 rcases turn i n σ3 H3 w3 with ⟨stop, qn⟩ | ⟨go, N, hN, step⟩
 ·
  refine wpAny_passesOwn hp (thn (T.done X rfl rfl rfl hc i pins s3 σ3 H3 X.xe I3 (stat fr3) st3 stop) fun r s4 ⟨hr, I4⟩ => ?_)
  subst hr
  exact wpAny_execs_nil ⟨σ3, H3, I4, qn⟩
 ·
  refine wpAny_passesOwn hp (thn (T.item X rfl rfl rfl hc i pins s3 σ3 H3 X.xe I3 (stat fr3) st3 go) fun r s4 ⟨u, hr, h4⟩ => ?_)
  subst hr
  refine wpAny_passesOwn hp (thn h4 fun _ s5 ⟨x, H5, I5, r5, y5, st5, fr5⟩ => ?_)
  have I5' := I5.pinned (stat fr5) (T.obj _ _ st5)
  refine wpAny_passesOwn hp (thn (hg _ s5 σ3 H5 x u _ I5' r5 (step x H5 y5)) fun _ s6 ⟨σ6, H6, I6, q6⟩ => ?_)
  refine wpAny_passesOwn hp (thn (hb _ s6 σ6 H6 _ I6 q6) fun f s7 q7 => ?_)
  have again : ∀ {σ7 : St} {H7 : Hp}, Inv X (pins ++ pinsAt fp s5.heap) σ7 H7 s7 → N σ7 H7 → ∃ m, m < n ∧ ∃ i σ' H', Inv X pins σ' H' s7 ∧ tn i s7.heap ∧ (∀ b ∈ fp, H' b = none) ∧ W i m σ' H' := fun {σ7 H7} I7 n7 => by
   obtain ⟨m', hm, w7⟩ := hN σ7 H7 n7
   refine ⟨m', hm, i + 1, σ7, H7, I7.unpinned, T.keep _ _ _ st5 fun b hb o e => (I7.pin (b, o) (List.mem_append_right _ (List.mem_append_right _ (mem_pinsAt hb e)))).1, fun b hb => ?_, w7⟩
   obtain ⟨o, e, d⟩ := T.obj _ _ st5 b hb
   exact (I7.pin (b, o) (List.mem_append_right _ (List.mem_append_right _ (mem_pinsAt hb e)))).2.1
  cases f with
  | next => obtain ⟨σ7, H7, I7, n7⟩ := q7; exact again I7 n7
  | cont => obtain ⟨σ7, H7, I7, n7⟩ := q7; exact again I7 n7
  | brk => obtain ⟨σ7, H7, I7, q7⟩ := q7; exact ⟨σ7, H7, I7.unpinned, q7⟩
  | ret v => obtain ⟨x7, σ7, H7, I7, r7, q7⟩ := q7; exact ⟨x7, σ7, H7, I7.unpinned, r7, q7⟩
end
end L2
namespace L2
open PySem PySem.Spec PyProof.Rows
abbrev R2 := V → V → Hp → VK → Prop
def OpR (X : Cx) (f : Value → Value → Sem Value) (r : R2) : Prop :=
 ∀ (pins : List (Addr × Obj)) (s : Shared) (σ : St) (H : Hp) (x y : V) (v u : Value) (Q : VK), Inv X pins σ H s → RelV x v → RelV y u → r x y H Q →
  wpAny (model X.prog X.w) X.A (f v u) (EP X pins σ Q) X.xe s
def UnR (X : Cx) (f : Value → Sem Value) (r : V → Hp → VK → Prop) : Prop :=
 ∀ (pins : List (Addr × Obj)) (s : Shared) (σ : St) (H : Hp) (x : V) (v : Value) (Q : VK), Inv X pins σ H s → RelV x v → r x H Q →
  wpAny (model X.prog X.w) X.A (f v) (EP X pins σ Q) X.xe s
def CallR (X : Cx) (f : Value) (r : List V → Hp → VK → Prop) : Prop :=
 ∀ (pins : List (Addr × Obj)) (s : Shared) (σ : St) (H : Hp) (xs : List V) (us : List Value) (Q : VK), Inv X pins σ H s → Vals xs us → r xs H Q →
  wpAny (model X.prog X.w) X.A (call f us) (EP X pins σ Q) X.xe s
def TruR (X : Cx) (r : V → Hp → (Bool → Hp → Prop) → Prop) : Prop :=
 ∀ (pins : List (Addr × Obj)) (s : Shared) (σ : St) (H : Hp) (x : V) (v : Value) (Q : Bool → Hp → Prop), Inv X pins σ H s → RelV x v → r x H Q →
  wpAny (model X.prog X.w) X.A (truthy v) (TP X pins σ Q) X.xe s
def tOp (r : R2) (ta tb : TE) : TE := fun σ H Q => ta σ H fun x H1 => tb σ H1 fun y H2 => r x y H2 Q
def tUn (r : V → Hp → VK → Prop) (ta : TE) : TE := fun σ H Q => ta σ H fun x H1 => r x H1 Q
def rI (C : Int → Int → Prop) (g : Int → Int → V) : R2 := fun x y H Q => ∃ i j, x = .int i ∧ y = .int j ∧ C i j ∧ Q (g i j) H
def rI0 (g : Int → Int → V) : R2 := fun x y H Q => ∃ i j, x = .int i ∧ y = .int j ∧ Q (g i j) H
def rU (g : Int → V) : V → Hp → VK → Prop := fun x H Q => ∃ i, x = .int i ∧ Q (g i) H
section
variable {X : Cx} {a b c : Expr} {ta tb tc : TE} {pos : Pos}
theorem binT (ha : PE X a ta) (hb : PE X b tb) {pins : List (Addr × Obj)} {s : Shared} {σ : St} {H : Hp} {R : V → V → Hp → Prop} (I : Inv X pins σ H s)
  (h : ta σ H fun x H1 => tb σ H1 fun y H2 => R x y H2) {Q : Value → Shared → Prop} {f : Value → Value → Sem Value}
  (hf : ∀ v u s2 x y H2, Inv X pins σ H2 s2 → RelV x v → RelV y u → R x y H2 → wpAny (model X.prog X.w) X.A (f v u) Q X.xe s2) :
  wpAny (model X.prog X.w) X.A (eval a X.env) (fun v s₁ => wpAny (model X.prog X.w) X.A (eval b X.env) (fun u s₂ => wpAny (model X.prog X.w) X.A (f v u) Q X.xe s₂) X.xe s₁) X.xe s := by
 refine thn (ha pins s σ H _ I h) fun v s1 ⟨x, H1, I1, r1, q1⟩ => ?_
 refine thn (hb pins s1 σ H1 _ I1 q1) fun u s2 ⟨y, H2, I2, r2, q2⟩ => ?_
 exact hf v u s2 x y H2 I2 r1 r2 q2
theorem pe_op {op : Operator} {r : R2} (ho : OpR X (binaryOp op) r) (ha : PE X a ta) (hb : PE X b tb) : PE X (.BinOp a op b pos) (tOp r ta tb) := by
 intro pins s σ H Q I h
 exact wpAny_BinOp (binT ha hb I h fun v u s2 x y H2 I2 rx ry q => ho pins s2 σ H2 x y v u Q I2 rx ry q)
theorem pe_un {op : UnaryOp} {r : V → Hp → VK → Prop} (ho : UnR X (unaryOp op) r) (ha : PE X a ta) : PE X (.UnaryOp op a pos) (tUn r ta) := by
 intro pins s σ H Q I h
 exact UnaryOp_ (thn (ha pins s σ H _ I h) fun v s1 ⟨x, H1, I1, r1, q1⟩ => ho pins s1 σ H1 x v Q I1 r1 q1)
theorem opI {f : Value → Value → Sem Value} {C : Int → Int → Prop} {g : Int → Int → Int}
  (rule : ∀ (i j : Int) (t u : Tok) (s : Shared) (Q : Value → Shared → Prop) (E : Value → Shared → Prop), C i j → Q (.int (g i j) s.toks) { s with toks := s.toks + 1 } → wpAny (model X.prog X.w) X.A (f (.int i t) (.int j u)) Q E s) :
  OpR X f (rI C fun i j => .int (g i j)) := by
 intro pins s σ H x y v u Q I rx ry h
 obtain ⟨i, j, rfl, rfl, hc, q⟩ := h
 obtain ⟨t, rfl⟩ := rx
 obtain ⟨t', rfl⟩ := ry
 exact rule i j t t' s _ _ hc ⟨.int (g i j), H, I.tok _, ⟨_, rfl⟩, q⟩
theorem opI0 {f : Value → Value → Sem Value} {g : Int → Int → Int}
  (rule : ∀ (i j : Int) (t u : Tok) (s : Shared) (Q : Value → Shared → Prop) (E : Value → Shared → Prop), Q (.int (g i j) s.toks) { s with toks := s.toks + 1 } → wpAny (model X.prog X.w) X.A (f (.int i t) (.int j u)) Q E s) :
  OpR X f (rI0 fun i j => .int (g i j)) := by
 intro pins s σ H x y v u Q I rx ry h
 obtain ⟨i, j, rfl, rfl, q⟩ := h
 obtain ⟨t, rfl⟩ := rx
 obtain ⟨t', rfl⟩ := ry
 exact rule i j t t' s _ _ ⟨.int (g i j), H, I.tok _, ⟨_, rfl⟩, q⟩
theorem opB0 {f : Value → Value → Sem Value} {g : Int → Int → Bool}
  (rule : ∀ (i j : Int) (t u : Tok) (s : Shared) (Q : Value → Shared → Prop) (E : Value → Shared → Prop), Q (.bool (g i j)) s → wpAny (model X.prog X.w) X.A (f (.int i t) (.int j u)) Q E s) :
  OpR X f (rI0 fun i j => .bl (g i j)) := by
 intro pins s σ H x y v u Q I rx ry h
 obtain ⟨i, j, rfl, rfl, q⟩ := h
 obtain ⟨t, rfl⟩ := rx
 obtain ⟨t', rfl⟩ := ry
 exact rule i j t t' s _ _ ⟨.bl (g i j), H, I, rfl, q⟩
def CDiv (i j : Int) : Prop := 0 < j ∧ j < 1073741824
def CPow (i j : Int) : Prop := 0 ≤ j ∧ j ≤ 1000000 ∧ i.natAbs < 2 ^ 64
def CMul (i j : Int) : Prop := (-(2 ^ 64) < i ∧ i < 2 ^ 64) ∨ (-(2 ^ 64) < j ∧ j < 2 ^ 64)
theorem CMul.ok {i j : Int} (h : CMul i j) : IntMulOk i j := by
 rcases h with ⟨h1, h2⟩ | ⟨h1, h2⟩
 · exact .of_left (intBits_le_64 h1 h2)
 · exact .of_right (intBits_le_64 h1 h2)
theorem op_add : OpR X (binaryOp .Add) (rI0 fun i j => .int (i + j)) := opI0 fun _ _ _ _ _ _ _ q => add_int q
theorem op_sub : OpR X (binaryOp .Sub) (rI0 fun i j => .int (i - j)) := opI0 fun _ _ _ _ _ _ _ q => sub_int q
theorem op_mul : OpR X (binaryOp .Mult) (rI CMul fun i j => .int (i * j)) := opI fun _ _ _ _ _ _ _ hc q => mul_int q hc.ok
theorem op_fdiv : OpR X (binaryOp .FloorDiv) (rI CDiv fun i j => .int (i / j)) := opI fun i j _ _ _ _ _ hc q => by
 have h1 : (0 : Int) < j := hc.1
 have h2 : j < 1073741824 := hc.2
 exact floordiv_int (by omega) (by rw [Int.fdiv_eq_ediv_of_nonneg i (by omega)]; exact q) (.inl (PyProof.noPylong_small (by omega)))
theorem op_mod : OpR X (binaryOp .Mod) (rI (fun _ j => 0 < j) fun i j => .int (i % j)) := opI fun i j _ _ _ _ _ hc q => by
 have h1 : (0 : Int) < j := hc
 exact mod_int' (by omega) (by rw [Int.fmod_eq_emod_of_nonneg i (by omega)]; exact q)
theorem op_pow : OpR X (binaryOp .Pow) (rI CPow fun i j => .int (i ^ j.toNat)) := opI fun _ _ _ _ _ _ _ hc q => pow_int_small hc.1 hc.2.1 hc.2.2 q
theorem unI {f : Value → Sem Value} {g : Int → Int}
  (rule : ∀ (i : Int) (t : Tok) (s : Shared) (Q : Value → Shared → Prop) (E : Value → Shared → Prop), Q (.int (g i) s.toks) { s with toks := s.toks + 1 } → wpAny (model X.prog X.w) X.A (f (.int i t)) Q E s) :
  UnR X f (rU fun i => .int (g i)) := by
 intro pins s σ H x v Q I rx h
 obtain ⟨i, rfl, q⟩ := h
 obtain ⟨t, rfl⟩ := rx
 exact rule i t s _ _ ⟨.int (g i), H, I.tok _, ⟨_, rfl⟩, q⟩
theorem un_neg : UnR X (unaryOp .USub) (rU fun i => .int (-i)) := unI fun _ _ _ _ _ q => neg_int q
end
def scal : V → V → Bool
 | .non, .non => true | .non, .int _ => true | .int _, .non => true | .non, .bl _ => true | .bl _, .non => true | .non, .str _ => true | .str _, .non => true
 | .int _, .int _ => true | .bl _, .bl _ => true | .str _, .str _ => true | .byt _, .byt _ => true
 | .int _, .str _ => true | .str _, .int _ => true | .bl _, .str _ => true | .str _, .bl _ => true
 | _, _ => false
def rEq : R2 := fun x y H Q => scal x y = true ∧ Q (.bl (decide (x = y))) H
def rNe : R2 := fun x y H Q => scal x y = true ∧ Q (.bl (!decide (x = y))) H
theorem dec_int {i j : Int} : decide (V.int i = V.int j) = (i == j) := by
 rw [Bool.eq_iff_iff]
 simp
theorem dec_bl {i j : Bool} : decide (V.bl i = V.bl j) = (i == j) := by
 rw [Bool.eq_iff_iff]
 simp
theorem dec_str {i j : Str} : decide (V.str i = V.str j) = (i == j) := by
 rw [Bool.eq_iff_iff]
 simp
theorem dec_byt {i j : Array UInt8} : decide (V.byt i = V.byt j) = (i.toList == j.toList) := by
 rw [Bool.eq_iff_iff]
 cases i
 cases j
 simp
section
variable {X : Cx} {a b c : Expr} {ta tb tc : TE} {pos : Pos}
theorem fin_bl {pins : List (Addr × Obj)} {σ : St} {H : Hp} {s : Shared} {Q : VK} {k k' : Bool} (I : Inv X pins σ H s) (q : Q (.bl k) H) (e : k = k') : EP X pins σ Q (.bool k') s := by
 subst e
 exact ⟨.bl k, H, I, rfl, q⟩
theorem op_eq : OpR X (compareOp .Eq) rEq := by
 intro pins s σ H x y v u Q I rx ry h
 obtain ⟨hs, q⟩ := h
 cases x with
 |
  non =>
  cases rx
  cases y with
  | non => cases ry; exact PySem.EqNone.eq_none_none (fin_bl I q (by simp))
  | bl j => cases ry; exact PySem.EqNone.eq_none_bool (fin_bl I q (by simp))
  | int j => obtain ⟨t', rfl⟩ := ry; exact PySem.EqNone.eq_none_int (fin_bl I q (by simp))
  | str j => obtain ⟨t', rfl⟩ := ry; exact PySem.EqNone.eq_none_str (fin_bl I q (by simp))
  | _ => exact absurd (show false = true from hs) Bool.false_ne_true
 |
  bl i =>
  cases rx
  cases y with
  | non => cases ry; exact PySem.EqNone.eq_bool_none (fin_bl I q (by simp))
  | bl j => cases ry; exact eq_bool (fin_bl I q dec_bl)
  | str j => obtain ⟨t', rfl⟩ := ry; exact PySem.EqMixed.eq_bool_str (fin_bl I q (by simp))
  | _ => exact absurd (show false = true from hs) Bool.false_ne_true
 |
  int i =>
  obtain ⟨t, rfl⟩ := rx
  cases y with
  | non => cases ry; exact PySem.EqNone.eq_int_none (fin_bl I q (by simp))
  | int j => obtain ⟨t', rfl⟩ := ry; exact eq_int (fin_bl I q dec_int)
  | str j => obtain ⟨t', rfl⟩ := ry; exact PySem.EqMixed.eq_int_str (fin_bl I q (by simp))
  | _ => exact absurd (show false = true from hs) Bool.false_ne_true
 |
  str i =>
  obtain ⟨t, rfl⟩ := rx
  cases y with
  | non => cases ry; exact PySem.EqNone.eq_str_none (fin_bl I q (by simp))
  | bl j => cases ry; exact PySem.EqMixed.eq_str_bool (fin_bl I q (by simp))
  | int j => obtain ⟨t', rfl⟩ := ry; exact PySem.EqMixed.eq_str_int (fin_bl I q (by simp))
  | str j => obtain ⟨t', rfl⟩ := ry; exact eq_str (fin_bl I q dec_str)
  | _ => exact absurd (show false = true from hs) Bool.false_ne_true
 |
  byt i =>
  obtain ⟨t, rfl⟩ := rx
  cases y with
  | byt j => obtain ⟨t', rfl⟩ := ry; exact W.eq_bytes (fin_bl I q dec_byt)
  | _ => exact absurd (show false = true from hs) Bool.false_ne_true
 | _ => cases y <;> exact absurd (show false = true from hs) Bool.false_ne_true
theorem op_ne : OpR X (compareOp .NotEq) rNe := by
 intro pins s σ H x y v u Q I rx ry h
 obtain ⟨hs, q⟩ := h
 cases x with
 |
  non =>
  cases rx
  cases y with
  | non => cases ry; exact PySem.EqNone.ne_none_none (fin_bl I q (by simp))
  | bl j => cases ry; exact PySem.EqNone.ne_none_bool (fin_bl I q (by simp))
  | int j => obtain ⟨t', rfl⟩ := ry; exact PySem.EqNone.ne_none_int (fin_bl I q (by simp))
  | str j => obtain ⟨t', rfl⟩ := ry; exact PySem.EqNone.ne_none_str (fin_bl I q (by simp))
  | _ => exact absurd (show false = true from hs) Bool.false_ne_true
 |
  bl i =>
  cases rx
  cases y with
  | non => cases ry; exact PySem.EqNone.ne_bool_none (fin_bl I q (by simp))
  | bl j => cases ry; exact ne_bool (fin_bl I q (congrArg not dec_bl))
  | str j => obtain ⟨t', rfl⟩ := ry; exact PySem.EqMixed.ne_bool_str (fin_bl I q (by simp))
  | _ => exact absurd (show false = true from hs) Bool.false_ne_true
 |
  int i =>
  obtain ⟨t, rfl⟩ := rx
  cases y with
  | non => cases ry; exact PySem.EqNone.ne_int_none (fin_bl I q (by simp))
  | int j => obtain ⟨t', rfl⟩ := ry; exact ne_int (fin_bl I q (congrArg not dec_int))
  | str j => obtain ⟨t', rfl⟩ := ry; exact PySem.EqMixed.ne_int_str (fin_bl I q (by simp))
  | _ => exact absurd (show false = true from hs) Bool.false_ne_true
 |
  str i =>
  obtain ⟨t, rfl⟩ := rx
  cases y with
  | non => cases ry; exact PySem.EqNone.ne_str_none (fin_bl I q (by simp))
  | bl j => cases ry; exact PySem.EqMixed.ne_str_bool (fin_bl I q (by simp))
  | int j => obtain ⟨t', rfl⟩ := ry; exact PySem.EqMixed.ne_str_int (fin_bl I q (by simp))
  | str j => obtain ⟨t', rfl⟩ := ry; exact ne_str (fin_bl I q (congrArg not dec_str))
  | _ => exact absurd (show false = true from hs) Bool.false_ne_true
 |
  byt i =>
  obtain ⟨t, rfl⟩ := rx
  cases y with
  | byt j => obtain ⟨t', rfl⟩ := ry; exact W.ne_bytes (fin_bl I q (congrArg not dec_byt))
  | _ => exact absurd (show false = true from hs) Bool.false_ne_true
 | _ => cases y <;> exact absurd (show false = true from hs) Bool.false_ne_true
theorem op_lt : OpR X (compareOp .Lt) (rI0 fun i j => .bl (decide (i < j))) := opB0 fun _ _ _ _ _ _ _ q => lt_int q
theorem op_le : OpR X (compareOp .LtE) (rI0 fun i j => .bl (decide (i ≤ j))) := opB0 fun _ _ _ _ _ _ _ q => le_int q
theorem op_gt : OpR X (compareOp .Gt) (rI0 fun i j => .bl (decide (j < i))) := opB0 fun _ _ _ _ _ _ _ q => gt_int q
theorem op_ge : OpR X (compareOp .GtE) (rI0 fun i j => .bl (decide (j ≤ i))) := opB0 fun _ _ _ _ _ _ _ q => ge_int q
theorem op_lt_str : OpR X (compareOp .Lt) (fun x y H Q => ∃ i j, x = .str i ∧ y = .str j ∧ Q (.bl (decide (i.cps.toList < j.cps.toList))) H) := by
 intro pins s σ H x y v u Q I rx ry h
 obtain ⟨i, j, rfl, rfl, q⟩ := h
 obtain ⟨t, rfl⟩ := rx
 obtain ⟨t', rfl⟩ := ry
 exact lt_str (fin_bl I q rfl)
theorem op_in_str : OpR X (compareOp .In) (fun x y H Q => ∃ i j, x = .str i ∧ y = .str j ∧ Q (.bl (!(Builtin.Str.occurrences j i 0 j.length 1).isEmpty)) H) := by
 intro pins s σ H x y v u Q I rx ry h
 obtain ⟨i, j, rfl, rfl, q⟩ := h
 obtain ⟨t, rfl⟩ := rx
 obtain ⟨t', rfl⟩ := ry
 exact in_str (fin_bl I q rfl)
theorem op_isN : OpR X (compareOp .Is) (fun x y H Q => y = .non ∧ Q (.bl (decide (x = .non))) H) := by
 intro pins s σ H x y v u Q I rx ry h
 obtain ⟨rfl, q⟩ := h
 cases ry
 refine is_none_gen (fin_bl I q ?_)
 cases x <;> first
  | (cases rx; rfl)
  | (obtain ⟨t, rfl⟩ := rx; rfl)
theorem op_notN : OpR X (compareOp .IsNot) (fun x y H Q => y = .non ∧ Q (.bl (!decide (x = .non))) H) := by
 intro pins s σ H x y v u Q I rx ry h
 obtain ⟨rfl, q⟩ := h
 cases ry
 refine isnot_none_gen (fin_bl I q ?_)
 cases x <;> first
  | (cases rx; rfl)
  | (obtain ⟨t, rfl⟩ := rx; rfl)
theorem OpR.or {f : Value → Value → Sem Value} {r r' : R2} (h : OpR X f r) (h' : OpR X f r') : OpR X f (fun x y H Q => r x y H Q ∨ r' x y H Q) := by
 intro pins s σ H x y v u Q I rx ry q
 rcases q with q | q
 · exact h pins s σ H x y v u Q I rx ry q
 · exact h' pins s σ H x y v u Q I rx ry q
theorem nomark (b : Expr) {op : CmpOp} (h : op ≠ .In := by decide) (h2 : op ≠ .NotIn := by decide) : behindInMarks op b = false := by
 have e1 : (op == CmpOp.In) = false := by cases op <;> first | rfl | exact absurd rfl h
 have e2 : (op == CmpOp.NotIn) = false := by cases op <;> first | rfl | exact absurd rfl h2
 cases b <;> simp [behindInMarks, e1, e2]
theorem pe_cmpR {op : CmpOp} {r : R2} (ho : OpR X (compareOp op) r) (ha : PE X a ta) (hb : PE X b tb) (hm : behindInMarks op b = false) : PE X (.Compare a [op] [b] pos) (tOp r ta tb) := by
 intro pins s σ H Q I h
 exact wpAny_Compare1 (binT ha hb I h fun v u s2 x y H2 I2 rx ry q => ho pins s2 σ H2 x y v u Q I2 rx ry q) hm
def tTest (t : TE) : TT := fun σ H Q => t σ H fun x H' => ∃ k, x = .bl k ∧ Q k H'
theorem pt_cmpR {op : CmpOp} {r : R2} (ho : OpR X (compareOp op) r) (ha : PE X a ta) (hb : PE X b tb) (hm : behindInMarks op b = false) : PT X (.Compare a [op] [b] pos) (tTest (tOp r ta tb)) := by
 intro pins s σ H Q I h
 refine wpAny_isTrue_Compare1 (thn (ha pins s σ H _ I h) fun v s1 ⟨x, H1, I1, r1, q1⟩ => thn (hb pins s1 σ H1 _ I1 q1) fun u s2 ⟨y, H2, I2, r2, q2⟩ =>
  thn (ho pins s2 σ H2 x y v u _ I2 r1 r2 q2) fun c s3 ⟨z, H3, I3, r3, k, e, q3⟩ => ?_) hm
 subst e
 cases r3
 exact wpAny_truthy_bool ⟨H3, I3, q3⟩
def tChain (r r' : R2) (ta tb tc : TE) : TE := fun σ H Q => ta σ H fun x H1 => tb σ H1 fun y H2 => r x y H2 fun z H3 => ∃ k, z = .bl k ∧
 (if k = true then tc σ H3 fun w' H4 => r' y w' H4 Q else Q (.bl false) H3)
theorem pe_chain {op op' : CmpOp} {r r' : R2} (ho : OpR X (compareOp op) r) (ho' : OpR X (compareOp op') r') (ha : PE X a ta) (hb : PE X b tb) (hc : PE X c tc)
  (hm : lastMarks [op, op'] [b, c] = false := by with_unfolding_all rfl) : PE X (.Compare a [op, op'] [b, c] pos) (tChain r r' ta tb tc) := by
 intro pins s σ H Q I h
 refine Compare_chain (thn (ha pins s σ H _ I h) fun v s1 ⟨x, H1, I1, r1, q1⟩ => chain_link (thn (hb pins s1 σ H1 _ I1 q1) fun u s2 ⟨y, H2, I2, r2, q2⟩ =>
  thn (ho pins s2 σ H2 x y v u _ I2 r1 r2 q2) fun d s3 ⟨z, H3, I3, r3, k, e, q3⟩ => ?_)) hm
 subst e
 cases r3
 refine wpAny_truthy_bool ?_
 cases k with
 | false => exact ite_ff ⟨.bl false, H3, I3, rfl, q3⟩
 | true => exact ite_tt (chain_last (thn (hc pins s3 σ H3 _ I3 q3) fun w' s4 ⟨z', H4, I4, r4, q4⟩ => ho' pins s4 σ H4 y z' u w' Q I4 r2 r4 q4))
theorem pt_chain {op op' : CmpOp} {r r' : R2} (ho : OpR X (compareOp op) r) (ho' : OpR X (compareOp op') r') (ha : PE X a ta) (hb : PE X b tb) (hc : PE X c tc)
  (hm : lastMarks [op, op'] [b, c] = false := by with_unfolding_all rfl) : PT X (.Compare a [op, op'] [b, c] pos) (tTest (tChain r r' ta tb tc)) := by
 intro pins s σ H Q I h
 refine isTrue_chain (thn (ha pins s σ H _ I h) fun v s1 ⟨x, H1, I1, r1, q1⟩ => test_link (thn (hb pins s1 σ H1 _ I1 q1) fun u s2 ⟨y, H2, I2, r2, q2⟩ =>
  thn (ho pins s2 σ H2 x y v u _ I2 r1 r2 q2) fun d s3 ⟨z, H3, I3, r3, k, e, q3⟩ => ?_)) hm
 subst e
 cases r3
 refine wpAny_truthy_bool ?_
 cases k with
 |
  false =>
  obtain ⟨k', e', q'⟩ := q3
  cases e'
  exact ite_ff ⟨H3, I3, q'⟩
 |
  true =>
  refine ite_tt (test_last (thn (hc pins s3 σ H3 _ I3 q3) fun w' s4 ⟨z', H4, I4, r4, q4⟩ => thn (ho' pins s4 σ H4 y z' u w' _ I4 r2 r4 q4) fun d' s5 ⟨z2, H5, I5, r5, k2, e2, q5⟩ => ?_))
  subst e2
  cases r5
  exact wpAny_truthy_bool ⟨H5, I5, q5⟩
def TruV (K : W.Frag) (x : V) (H : Hp) (k : Bool) : Prop :=
 match x with
 | .non => k = false
 | .bl b => k = b
 | .int i => k = (i != 0)
 | .str y => y.length ≤ sizeLine ∧ k = ((y.length : Int) != 0)
 | .byt y => y.size ≤ sizeLine ∧ k = ((y.size : Int) != 0)
 | .ref p => (∃ xs, SqL K H p xs ∧ k = !xs.isEmpty) ∨ (∃ xs, SqT K H p xs ∧ k = !xs.isEmpty) ∨ ∃ kvs, H p = some (.dK kvs) ∧ k = !kvs.isEmpty
 | _ => False
theorem isEmpty_kv {κ : Type} {kvs : List (κ × V)} {vs : List (κ × Value)} (r : KV kvs vs) : (!vs.isEmpty) = !kvs.isEmpty := by
 cases r <;> rfl
theorem isEmpty_of {xs : List V} {its : List Value} (r : Vals xs its) : (!its.toArray.isEmpty) = !xs.isEmpty := by
 cases r <;> simp
theorem line63 : (sizeLine : Nat) < 2 ^ 63 := by rw [sizeLine_eq]; decide
theorem tru_ok : TruR X (fun x H Q => ∃ k, TruV X.K x H k ∧ Q k H) := by
 intro pins s σ H x v Q I rx h
 obtain ⟨k, e, q⟩ := h
 have hl := line63
 have hs : sizeLine = 16777216 := sizeLine_eq
 cases x with
 |
  non =>
  cases rx
  have e' : k = false := e
  subst e'
  exact truthy_none ⟨H, I, q⟩
 |
  bl b =>
  cases rx
  have e' : k = b := e
  subst e'
  exact wpAny_truthy_bool ⟨H, I, q⟩
 |
  int i =>
  obtain ⟨t, rfl⟩ := rx
  have e' : k = (i != 0) := e
  subst e'
  exact PySem.P.truthy_int ⟨H, I, q⟩
 |
  str y =>
  obtain ⟨t, rfl⟩ := rx
  obtain ⟨hy, e'⟩ : y.length ≤ sizeLine ∧ k = ((y.length : Int) != 0) := e
  subst e'
  exact PySem.P.truthy_str (by omega) ⟨H, I.tok _, q⟩
 |
  byt y =>
  obtain ⟨t, rfl⟩ := rx
  obtain ⟨hy, e'⟩ : y.size ≤ sizeLine ∧ k = ((y.size : Int) != 0) := e
  subst e'
  exact W.truthy_bytes (by omega) ⟨H, I.tok _, q⟩
 |
  ref p =>
  cases rx
  have e' : (∃ xs, SqL X.K H p xs ∧ k = !xs.isEmpty) ∨ (∃ xs, SqT X.K H p xs ∧ k = !xs.isEmpty) ∨ ∃ kvs, H p = some (.dK kvs) ∧ k = !kvs.isEmpty := e
  rcases e' with ⟨xs, hx, e'⟩ | ⟨xs, hx, e'⟩ | ⟨kvs, hx, e'⟩
  ·
   subst e'
   obtain ⟨its, r, pl, hz⟩ := I.list hx
   have hlen := r.length
   exact wpAny_truthy_list pl.isList (by simp only [List.size_toArray]; omega) ⟨H, I.tok _, by rw [isEmpty_of r]; exact q⟩
  ·
   subst e'
   obtain ⟨its, r, pl, hz⟩ := I.tuple hx
   have hlen := r.length
   exact truthy_tuple pl (by simp only [List.size_toArray]; omega) ⟨H, I.tok _, by rw [isEmpty_of r]; exact q⟩
  ·
   subst e'
   obtain ⟨hz, hS, vs, r, m⟩ : kvs.length ≤ sizeLine ∧ (p == sysModules) = false ∧ ∃ vs, KV kvs vs ∧ s.heap.DictOf (mixKind X.prog X.w) p vs := I.hok p _ hx
   have hlen : kvs.length = vs.length := Paired.length r
   exact wpAny_truthy_dict hS m (by omega) ⟨H, I.tok _, by rw [isEmpty_kv r]; exact q⟩
 | _ => exact (show False from e).elim
theorem pt_truth (ha : PE X a ta) (he : ∀ whole, isTrue a X.env whole = (do let v ← whole; standAt a.pos; holding [v] (truthy v))) :
  PT X a (fun σ H Q => ta σ H fun x H' => ∃ k, TruV X.K x H' k ∧ Q k H') := by
 intro pins s σ H Q I h
 exact isTrue_plain (thn (ha pins s σ H _ I h) fun v s1 ⟨x, H1, I1, r1, q1⟩ => tru_ok pins s1 σ H1 x v Q I1 r1 q1) (he _)
theorem op_add_str : OpR X (binaryOp .Add) (fun x y H Q => ∃ i j, x = .str i ∧ y = .str j ∧ i.length + j.length ≤ sizeLine ∧ Q (.str (i ++ j)) H) := by
 intro pins s σ H x y v u Q I rx ry h
 obtain ⟨i, j, rfl, rfl, hz, q⟩ := h
 obtain ⟨t, rfl⟩ := rx
 obtain ⟨t', rfl⟩ := ry
 exact add_str (fun t' tk => ⟨.str (i ++ j), H, I.tok _, ⟨_, rfl⟩, q⟩) hz
theorem vals1 {x : V} {us : List Value} (r : Vals [x] us) : ∃ u, us = [u] ∧ RelV x u := by
 cases r with
 | cons r1 r2 => cases r2; exact ⟨_, rfl, r1⟩
theorem vals2 {x y : V} {us : List Value} (r : Vals [x, y] us) : ∃ u w', us = [u, w'] ∧ RelV x u ∧ RelV y w' := by
 cases r with
 |
  cons r1 r2 =>
  cases r2 with
  | cons r3 r4 => cases r4; exact ⟨_, _, rfl, r1, r3⟩
theorem call_max2 (hc : X.calm = true) : CallR X (.builtin "max") (fun xs H Q => ∃ i j, xs = [.int i, .int j] ∧ Q (.int (if j > i then j else i)) H) := by
 intro pins s σ H xs us Q I r h
 obtain ⟨i, j, rfl, q⟩ := h
 obtain ⟨u, w', rfl, ⟨t, rfl⟩, ⟨t', rfl⟩⟩ := vals2 r
 refine max_two_ints (I.ok.hd hc) fun h' tk k => ⟨_, H, I.kept k, ?_, q⟩
 by_cases hj : j > i
 · rw [if_pos hj, if_pos hj]; exact ⟨_, rfl⟩
 · rw [if_neg hj, if_neg hj]; exact ⟨_, rfl⟩
theorem call_min2 (hc : X.calm = true) : CallR X (.builtin "min") (fun xs H Q => ∃ i j, xs = [.int i, .int j] ∧ Q (.int (if j < i then j else i)) H) := by
 intro pins s σ H xs us Q I r h
 obtain ⟨i, j, rfl, q⟩ := h
 obtain ⟨u, w', rfl, ⟨t, rfl⟩, ⟨t', rfl⟩⟩ := vals2 r
 refine min_two_ints (I.ok.hd hc) fun h' tk k => ⟨_, H, I.kept k, ?_, q⟩
 by_cases hj : j < i
 · rw [if_pos hj, if_pos hj]; exact ⟨_, rfl⟩
 · rw [if_neg hj, if_neg hj]; exact ⟨_, rfl⟩
end
end L2
namespace L2
open PySem PySem.Spec PyProof.Rows
structure ObjM (h : Heap) (x dx C : Addr) (mA : Str → Option Value) : Prop where
 obj : h.get? x = some (W.instObj C dx)
 ns : h.Ns1 dx mA
 ne : dx ≠ x
theorem lookIn_ns {h : Heap} {dx : Addr} {mA : Str → Option Value} (n : h.Ns1 dx mA) : ∃ od, h.get? dx = some od ∧ ∀ name, W.lookIn name od = some (mA name) := by
 obtain ⟨o, es, ep, ho, hd, hk, _, hm⟩ := n
 refine ⟨o, ho, fun name => ?_⟩
 have e := hm name
 unfold nsFind findBy at e
 rw [← Array.find?_toList] at e
 unfold W.lookIn
 rw [hd]
 dsimp only
 split
 ·
  rename_i y q
  rw [q] at e
  exact congrArg some e
 ·
  rename_i q
  rw [q] at e
  have a : es.toList.any (·.refKey) = false := by
   rw [List.any_eq_false]
   intro y hy
   obtain ⟨z, t, hkey⟩ := hk y (Array.mem_toList_iff.mp hy)
   simp [DictEntry.refKey, hkey]
  have a' : ¬ es.toList.any (·.refKey) = true := by rw [a]; exact Bool.false_ne_true
  rw [if_neg a']
  exact congrArg some e
theorem ObjM.look {h : Heap} {x dx C : Addr} {mA : Str → Option Value} (I : ObjM h x dx C mA) : ∃ od, W.InstAt h x (W.instObj C dx) C (some od) ∧ ∀ name, W.lookIn name od = some (mA name) :=
 let ⟨od, ho, hl⟩ := lookIn_ns I.ns
 ⟨od, ⟨I.obj, rfl, rfl, ho⟩, hl⟩
section
variable {prog : Program} {w : World} {A : Around} {E : Value → Shared → Prop} {s : Shared} {K : W.Frag} {x dx C f : Addr} {mA : Str → Option Value} {name : Str} {v : Value}
theorem get_map {expr : Bool} {Q : Value → Shared → Prop} (X : K.In s.heap) (I : ObjM s.heap x dx C mA) (hg : W.plainGet K C name = true) (hh : W.hasDictIn K C = true)
  (ha : W.findIn K (.ref C) name = some none) (hv : mA name = some v) (hv' : W.handedIn v = true) (h : Q v { s with toks := s.toks + 1 }) :
  wpAny (model prog w) A (getAttr (.ref x) name expr) Q E s := by
 obtain ⟨od, J, hl⟩ := I.look
 exact W.get_value X J (W.plainGet_of hg).1 (W.findObj_own hh ha rfl (by rw [hl, hv])) hv' h
theorem get_meth {pl : Sem Bool} {Q : Value × List Value → Shared → Prop} (X : K.In s.heap) (I : ObjM s.heap x dx C mA) (hg : W.plainGet K C name = true)
  (hf : W.findIn K (.ref C) name = some (some (.ref f))) (ht : W.isFn K (.ref f) = true) (hv : mA name = none) (h : Q (.ref f, [.ref x]) s) :
  wpAny (model prog w) A (getMethod (.ref x) name pl) Q E s := by
 obtain ⟨od, J, hl⟩ := I.look
 exact W.method_fn X J (W.plainGet_of hg).1 (W.plainGet_of hg).2 hf (beq_iff_eq.mp ht) (by show (W.lookIn name od).map (·.isSome) = some false; rw [hl, hv]; rfl) h
theorem set_map {ns : List Str} {Q : Unit → Shared → Prop} (X : K.In s.heap) (I : ObjM s.heap x dx C mA)
  (hs : W.findIn K (.ref C) "__setattr__" = some (some (.builtin "object.__setattr__"))) (hp : W.plainOver K C = true) (ht : W.takerIn K C name = some none) (hh : W.hasDictIn K C = true)
  (hw : PySem.Within mA ns) (hsz : ns.length ≤ sizeLine)
  (h : ∀ h', ObjM h' x dx C (fun y => if y = name then some v else mA y) → Heap.SameBut dx s.heap h' → Q () { s with heap := h', toks := s.toks + 2 }) :
  wpAny (model prog w) A (setAttr (.ref x) name v) Q E s := by
 obtain ⟨od, J, hl⟩ := I.look
 refine W.set_plain X J hs (W.osa_open (s := { s with toks := s.toks + 1 }) (r := none) X J hp ht fun b => ?_)
 obtain ⟨cd, hc, hd'⟩ := W.any_some hh
 have hx : s.heap.get? x = some ⟨.ref C, some dx, .plain, #[]⟩ := I.obj
 refine wpAny_bind (wpAny_pure (wpAny_bind (wpAny_bind (wpAny_loadPart hx (wpAny_bind (W.Looks.here (s := { s with toks := s.toks + 1 }) (W.looks_clsIn X hc) ?_))))))
 rw [hd']
 refine wpAny_pure (a := some dx) (wpAny_bind (wpAny_pure (wpAny_bind ?_)))
 refine wpAny_nsSet1 (s := { s with toks := s.toks + 1 }) I.ns fun h' hn2 hs2 => ?_
 obtain ⟨oD, esD, epD, hoD, hdD, hcD⟩ := hn2.count (PySem.Within.cons name v hw)
 refine wpAny_bind (wpAny_lookBehind hoD (by rw [hdD]; exact pastItsLine_dict (Nat.le_trans hcD (by rw [List.length_cons]; omega))) ?_)
 exact wpAny_pure (h _ ⟨(hs2.2 _ (Ne.symm I.ne)).trans I.obj, hn2, I.ne⟩ hs2)
theorem make_map {R : Result → Shared → Prop} {vs : List Value} {kw : List (Str × Value)} (X : K.In s.heap) (hm : W.makesIn K C = true)
  (hi : W.findIn K (.ref C) "__init__" = some (some (.ref f))) (hf : W.typeIn K (.ref f) = some (.type "function"))
  (h : codeAny (model prog w) (A.under (.builtin "type.__call__" ⟨.ref C :: vs, kw⟩)) (.call (.ref f) ⟨.ref (s.heap.objs.size + 1) :: vs, kw⟩) (W.InitBack (s.heap.objs.size + 1) R)
   { s with heap := (s.heap.push W.emptyDict).push (W.instObj C s.heap.objs.size) }) :
  codeAny (model prog w) A (.call (.ref C) ⟨vs, kw⟩) R s := by
 obtain ⟨hh, g, d, t, os⟩ := s
 exact W.make_core (W.makes_of X hm) (W.looks_findIn X hi) (fun self => W.bind_fn X self hf) (.inl rfl) h
end
def putF (f : Str) (v : V) : List (Str × V) → List (Str × V)
 | [] => [(f, v)]
 | (g, x) :: r => if g = f then (g, v) :: r else (g, x) :: putF f v r
theorem lookup_putF (f g : Str) (v : V) : ∀ fs : List (Str × V), (putF f v fs).lookup g = if g = f then some v else fs.lookup g
 |
  [] => by
  show List.lookup g [(f, v)] = _
  by_cases h : g = f
  ·
   have hb : (g == f) = true := beq_iff_eq.mpr h
   simp only [List.lookup, hb, if_pos h]
  ·
   have hb : (g == f) = false := beq_eq_false_iff_ne.mpr h
   simp only [List.lookup, hb, if_neg h]
 |
  (k, x) :: r => by
  have ih := lookup_putF f g v r
  rw [show putF f v ((k, x) :: r) = (if k = f then (k, v) :: r else (k, x) :: putF f v r) from rfl]
  by_cases hk : k = f
  ·
   rw [if_pos hk]
   by_cases h : g = k
   ·
    have hb : (g == k) = true := beq_iff_eq.mpr h
    simp only [List.lookup, hb, if_pos (h.trans hk)]
   ·
    have hb : (g == k) = false := beq_eq_false_iff_ne.mpr h
    simp only [List.lookup, hb, if_neg (fun e : g = f => h (e.trans hk.symm))]
  ·
   rw [if_neg hk]
   by_cases h : g = k
   ·
    have hb : (g == k) = true := beq_iff_eq.mpr h
    simp only [List.lookup, hb, if_neg (fun e : g = f => hk (h.symm.trans e))]
   ·
    have hb : (g == k) = false := beq_eq_false_iff_ne.mpr h
    simp only [List.lookup, hb]
    exact ih
theorem keys_putF (f : Str) (v : V) : ∀ fs : List (Str × V), f ∈ (putF f v fs).map (·.1) ∧ ∀ g, g ∈ fs.map (·.1) → g ∈ (putF f v fs).map (·.1)
 | [] => ⟨by simp [putF], fun g h => by simp at h⟩
 |
  (k, x) :: r => by
  obtain ⟨i1, i2⟩ := keys_putF f v r
  rw [show putF f v ((k, x) :: r) = (if k = f then (k, v) :: r else (k, x) :: putF f v r) from rfl]
  by_cases hk : k = f
  ·
   rw [if_pos hk]
   subst hk
   exact ⟨by simp, fun g h => by simpa using h⟩
  ·
   rw [if_neg hk]
   refine ⟨?_, fun g h => ?_⟩
   ·
    rw [List.map_cons]
    exact List.mem_cons_of_mem _ i1
   ·
    rw [List.map_cons] at h ⊢
    rcases List.mem_cons.mp h with e | e
    · exact List.mem_cons.mpr (.inl e)
    · exact List.mem_cons_of_mem _ (i2 g e)
theorem length_putF (f : Str) (v : V) : ∀ fs : List (Str × V), (putF f v fs).length ≤ fs.length + 1
 | [] => by simp [putF]
 |
  (k, x) :: r => by
  have ih := length_putF f v r
  rw [show putF f v ((k, x) :: r) = (if k = f then (k, v) :: r else (k, x) :: putF f v r) from rfl]
  by_cases hk : k = f
  · rw [if_pos hk, List.length_cons, List.length_cons]; omega
  · rw [if_neg hk, List.length_cons, List.length_cons]; omega
theorem RelO.some_of {v : V} {o : Option Value} (r : RelO (some v) o) : ∃ u, o = some u ∧ RelV v u := by
 cases o with
 | none => exact (show False from r).elim
 | some u => exact ⟨u, rfl, r⟩
theorem RelO.none_of {o : Option Value} (r : RelO none o) : o = none := by
 cases o with
 | none => rfl
 | some u => exact (show False from r).elim
theorem handed_of {v : V} {u : Value} (r : RelV v u) : W.handedIn u = true := by
 cases v with
 | non => cases (show u = Value.none from r); rfl
 | bl b => cases (show u = Value.bool b from r); rfl
 | int i => obtain ⟨t, e⟩ := (show ∃ t, u = Value.int i t from r); cases e; rfl
 | str x => obtain ⟨t, e⟩ := (show ∃ t, u = Value.str x t from r); cases e; rfl
 | byt b => obtain ⟨t, e⟩ := (show ∃ t, u = Value.bytes b t from r); cases e; rfl
 | flt b => obtain ⟨t, e⟩ := (show ∃ t, u = Value.float b t from r); cases e; rfl
 | ref a => cases (show u = Value.ref a from r); rfl
 | ty n => cases (show u = Value.type n from r); rfl
section
variable {P : Program} {w : World} {H H' : Hp} {h h' : Heap} {a C dx : Addr} {fs fs' : List (Str × V)}
theorem ins_get (hok : HOk P w H h) (e : H a = some (.ins C dx fs)) : ∃ mA, ObjM h a dx C mA ∧ (∀ f, RelO (fs.lookup f) (mA f)) ∧ PySem.Within mA (fs.map (·.1)) ∧ fs.length ≤ 1000 ∧ H dx = some (.own a) := by
 obtain ⟨d, z, ne, ob, mA, n, r, q⟩ := (show ObjOk P w H h a (.ins C dx fs) from hok a _ e)
 exact ⟨mA, ⟨ob, n, ne⟩, r, q, z, d⟩
end
structure Cls (K : W.Frag) (C : Addr) : Prop where
 pg : W.plainGet K C Str.empty = true
 hd : W.hasDictIn K C = true
 po : W.plainOver K C = true
 sa : W.findIn K (.ref C) "__setattr__" = some (some (.builtin "object.__setattr__"))
theorem Cls.get {K : W.Frag} {C : Addr} (c : Cls K C) (f : Str) : W.plainGet K C f = true := c.pg
def NoAttr (K : W.Frag) (C : Addr) (f : Str) : Prop := W.findIn K (.ref C) f = some none
theorem NoAttr.taker {K : W.Frag} {C : Addr} {f : Str} (n : NoAttr K C f) : W.takerIn K C f = some none := by
 unfold W.takerIn
 rw [show W.findIn K (.ref C) f = some none from n]
 rfl
structure Con (K : W.Frag) (C : Addr) (f : Str) (v : V) (u : Value) : Prop where
 at_ : W.findIn K (.ref C) f = some (some u)
 rel : RelV v u
 get : W.specialIn K u "__get__" = some none
 cp : W.copiedNames.contains f = false
structure Meth (K : W.Frag) (C : Addr) (m : Str) (f : Addr) : Prop where
 at_ : W.findIn K (.ref C) m = some (some (.ref f))
 fn : W.isFn K (.ref f) = true
 kp : W.keepIn K (.ref f) = true
section
variable {X : Cx} {pins : List (Addr × Obj)} {σ : St} {H : Hp} {s : Shared} {a C dx : Addr} {fs : List (Str × V)} {f : Str} {v : V} {A : Around} {E : Value → Shared → Prop}
theorem getattr_ok {b : Bool} {Q : Value → Shared → Prop} (I : Inv X pins σ H s) (e : H a = some (.ins C dx fs)) (c : Cls X.K C) (n : NoAttr X.K C f) (l : fs.lookup f = some v)
  (h : ∀ u s', Inv X pins σ H s' → RelV v u → Q u s') : wpAny (model X.prog X.w) A (getAttr (.ref a) f b) Q E s := by
 obtain ⟨mA, O, r, _, _, _⟩ := ins_get I.hok e
 obtain ⟨u, hu, ru⟩ := RelO.some_of (v := v) (o := mA f) (by rw [← l]; exact r f)
 exact get_map I.kIn O (c.get f) c.hd n hu (handed_of ru) (h u _ (I.tok _) ru)
theorem getmeth_ok {m : Str} {g : Addr} {pl : Sem Bool} {Q : Value × List Value → Shared → Prop} (I : Inv X pins σ H s) (e : H a = some (.ins C dx fs)) (c : Cls X.K C) (k : Meth X.K C m g) (l : fs.lookup m = none)
  (h : Q (.ref g, [.ref a]) s) : wpAny (model X.prog X.w) A (getMethod (.ref a) m pl) Q E s := by
 obtain ⟨mA, O, r, _, _, _⟩ := ins_get I.hok e
 have hn : mA m = none := RelO.none_of (by rw [← l]; exact r m)
 exact get_meth I.kIn O (c.get m) k.at_ k.fn hn h
theorem setattr_ok {y : V} {u : Value} {Q : Unit → Shared → Prop} (I : Inv X pins σ H s) (e : H a = some (.ins C dx fs)) (c : Cls X.K C) (n : NoAttr X.K C f) (hl : fs.length < 1000) (ry : RelV y u)
  (h : ∀ s', Inv X pins σ (upd H a (.ins C dx (putF f y fs))) s' → Q () s') : wpAny (model X.prog X.w) A (setAttr (.ref a) f u) Q E s := by
 obtain ⟨mA, O, r, wi, _, ho⟩ := ins_get I.hok e
 have hz : (fs.map (·.1)).length ≤ sizeLine := by rw [List.length_map, sizeLine_eq]; omega
 refine set_map I.kIn O c.sa c.po n.taker c.hd wi hz fun h' O' sb => h _ ?_
 have hd : ∃ o, h'.get? dx = some o := let ⟨o, _, _, e', _⟩ := O'.ns; ⟨o, e'⟩
 refine I.write (x := a) (e := dx) (by rw [e]; exact True.intro) (.inr ho) (fun b q hb z => (sb.2 b hb).trans z) hd ?_
 refine ⟨by rw [upd_ne O.ne]; exact ho, ?_, O.ne, O'.obj, _, O'.ns, fun g => ?_, fun g hg => ?_⟩
 · have := length_putF f y fs; omega
 ·
  show RelO ((putF f y fs).lookup g) (if g = f then some u else mA g)
  rw [lookup_putF]
  by_cases q : g = f
  · rw [if_pos q, if_pos q]; exact ry
  · rw [if_neg q, if_neg q]; exact r g
 ·
  by_cases q : g = f
  · rw [q]; exact (keys_putF f y fs).1
  ·
   refine (keys_putF f y fs).2 g (wi g fun z => hg ?_)
   show (if g = f then some u else mA g) = none
   rw [if_neg q]; exact z
theorem Inv.made (I : Inv X pins σ H s) : Inv X pins σ (upd (upd H s.heap.objs.size (.own (s.heap.objs.size + 1))) (s.heap.objs.size + 1) (.ins C s.heap.objs.size []))
  { s with heap := (s.heap.push W.emptyDict).push (W.instObj C s.heap.objs.size) } := by
 have e1 : (s.heap.push W.emptyDict).get? s.heap.objs.size = some W.emptyDict := Heap.get?_push_size s.heap rfl
 have e2 : ((s.heap.push W.emptyDict).push (W.instObj C s.heap.objs.size)).get? (s.heap.objs.size + 1) = some (W.instObj C s.heap.objs.size) := by
  have := Heap.get?_push_size (s.heap.push W.emptyDict) (o := W.instObj C s.heap.objs.size) rfl
  rwa [Heap.size_push] at this
 have e3 : (s.heap.push W.emptyDict).Ns s.heap.objs.size (fun _ => none) := ⟨W.emptyDict, #[], _, e1, rfl, (fun e he => absurd he (by simp)), fun _ => rfl⟩
 have I1 := I.laid (a := s.heap.objs.size) (o := .own (s.heap.objs.size + 1)) (h' := s.heap.push W.emptyDict) (t' := s.toks) (fun b u q => Heap.get?_push_of_some _ q) (Nat.le_refl _) ⟨_, e1⟩
 refine I1.laid (a := s.heap.objs.size + 1) (o := .ins C s.heap.objs.size []) (t' := s.toks) (fun b u q => Heap.get?_push_of_some _ q) (Nat.le_of_eq (Heap.size_push _ _)) ?_
 have ne : s.heap.objs.size ≠ s.heap.objs.size + 1 := Nat.ne_of_lt (Nat.lt_succ_self _)
 refine ⟨by rw [upd_ne ne, upd_same], Nat.zero_le _, ne, e2, fun _ => none, (Heap.Ns1.of_empty e3).at fun o q => Heap.get?_push_of_some _ q, fun _ => True.intro, fun y hy => absurd rfl hy⟩
theorem attr_of {prog : Program} {w : World} {env : Env} {e : Expr} {f : Str} {pos : Pos} {s : Shared} {Q : Value → Shared → Prop} (hb : attributeBase e f env (eval e env) = eval e env)
  (h : wpAny (model prog w) A (eval e env) (fun o s₁ => wpAny (model prog w) A (getAttr o f true) Q E s₁) E s) : wpAny (model prog w) A (eval (.Attribute e f pos) env) Q E s :=
 Attribute_any_ h (by rw [arm_eval_Attribute, hb])
end
def tFld (K : W.Frag) (ta : TE) (f : Str) : TE := fun σ H Q => ta σ H fun x H1 => ∃ a C dx fs v, x = .ref a ∧ H1 a = some (.ins C dx fs) ∧ Cls K C ∧ NoAttr K C f ∧ fs.lookup f = some v ∧ Q v H1
def sFld (K : W.Frag) (ta tv : TE) (f : Str) : TS := fun D σ H => tv σ H fun y H1 => ta σ H1 fun x H2 => ∃ a C dx fs, x = .ref a ∧ H2 a = some (.ins C dx fs) ∧ Cls K C ∧ NoAttr K C f ∧ fs.length < 1000 ∧
 D.nx σ (upd H2 a (.ins C dx (putF f y fs)))
section
variable {X : Cx} {o e value : Expr} {f : Str} {pos pos' tpos : Pos} {ta tv : TE}
theorem pe_fld (he : PE X e ta) (hb : attributeBase e f X.env (eval e X.env) = eval e X.env) : PE X (.Attribute e f pos) (tFld X.K ta f) := by
 intro pins s σ H Q I h
 refine attr_of hb (thn (he pins s σ H _ I h) fun u s1 ⟨x, H1, I1, rx, a, C, dx, fs, v, ex, ea, c, n, l, q⟩ => ?_)
 subst ex
 obtain rfl : u = Value.ref a := rx
 exact getattr_ok I1 ea c n l fun u' s2 I2 ru => ⟨v, H1, I2, ru, q⟩
theorem ps_fld (ha : PE X o ta) (hv : PE X value tv) (hs : swapsWith value (some (.Attribute o f pos')) pos.line X.env = pure false) : PS X (.Assign [.Attribute o f pos'] value pos) (sFld X.K ta tv f) := by
 intro pins s σ H D I h
 refine plainObj_wpAny_Assign_Attribute (thn (hv pins s σ H _ I h) fun u s1 ⟨y, H1, I1, ry, q⟩ => thn (ha pins s1 σ H1 _ I1 q) fun ov s2 ⟨x, H2, I2, rx, a, C, dx, fs, ex, ea, c, n, l, q2⟩ => ?_) hs
 subst ex
 obtain rfl : ov = Value.ref a := rx
 exact setattr_ok I2 ea c n l ry fun s3 I3 => ⟨σ, _, I3, q2⟩
end
section
variable {X : Cx} {pins : List (Addr × Obj)} {σ : St} {H : Hp} {s : Shared} {A : Around} {E : Value → Shared → Prop} {Q : Value → Shared → Prop} {c : Value} {b : Bool}
inductive TyOf (K : W.Frag) (H : Hp) : V → Value → Prop where
 | non : TyOf K H .non (.type "NoneType")
 | bl (x : Bool) : TyOf K H (.bl x) (.type "bool")
 | int (i : Int) : TyOf K H (.int i) (.type "int")
 | str (x : Str) : TyOf K H (.str x) (.type "str")
 | flt (x : UInt64) : TyOf K H (.flt x) (.type "float")
 | lst {a : Addr} {xs : List V} (e : H a = some (.lst xs)) : TyOf K H (.ref a) (.type "list")
 | frz {a : Addr} {o : Obj} {xs : List V} (e : H a = some (.frz o (.lst xs))) : TyOf K H (.ref a) (.type "list")
 | tup {a : Addr} {xs : List V} (e : H a = some (.tup xs)) : TyOf K H (.ref a) (.type "tuple")
 | dK {a : Addr} {kvs : List (Key × V)} (e : H a = some (.dK kvs)) : TyOf K H (.ref a) (.type "dict")
 | dT {a : Addr} {kvs : List (List Key × V)} (e : H a = some (.dT kvs)) : TyOf K H (.ref a) (.type "dict")
 | ins {a C dx : Addr} {fs : List (Str × V)} (e : H a = some (.ins C dx fs)) (cl : Cls K C) (ha : W.findIn K (.ref C) "__class__" = some (some (.builtin "object.__class__")))
  (hn : W.specialIn K (.builtin "object.__class__") "__get__" = some (some (.builtin "getset_descriptor.__get__"))) (htk : W.takesIn K (.builtin "object.__class__") = some true)
  (hm : W.mroIn K C (.type "object") = some true) : TyOf K H (.ref a) (.ref C)
theorem isinst_ok {x : V} {u t : Value} (I : Inv X pins σ H s) (rx : RelV x u) (ty : TyOf X.K H x t) (e : W.kitOne X.K t c = some b) (h : ∀ tk, Q (.bool b) { s with toks := tk }) :
  wpAny (model X.prog X.w) A (call (.builtin "isinstance") [u, c]) Q E s := by
 cases ty with
 | non => cases (show u = Value.none from rx); exact W.kia_one W.kitx_none I.kIn True.intro e (fun z => nomatch z) h
 | bl y => cases (show u = Value.bool y from rx); exact W.kia_one W.kitx_bool I.kIn True.intro e (fun z => nomatch z) h
 | int i => obtain ⟨t, q⟩ := (show ∃ t, u = Value.int i t from rx); cases q; exact W.kia_one W.kitx_int I.kIn True.intro e (fun z => nomatch z) h
 | str y => obtain ⟨t, q⟩ := (show ∃ t, u = Value.str y t from rx); cases q; exact W.kia_one W.kitx_str I.kIn True.intro e (fun z => nomatch z) h
 | flt y => obtain ⟨t, q⟩ := (show ∃ t, u = Value.float y t from rx); cases q; exact W.kia_one W.kitx_float I.kIn True.intro e (fun z => nomatch z) h
 |
  @lst a xs ea =>
  cases (show u = Value.ref a from rx)
  obtain ⟨_, _, n, _, h1⟩ := (show ObjOk X.prog X.w H s.heap a (.lst xs) from I.hok a _ ea)
  exact W.kia_one W.kitx_list I.kIn ⟨_, h1, rfl⟩ e (fun z => nomatch z) h
 |
  @frz a ob xs ea =>
  cases (show u = Value.ref a from rx)
  obtain ⟨_, _, _, n, _, h1⟩ := (show ObjOk X.prog X.w H s.heap a (.frz ob (.lst xs)) from I.hok a _ ea)
  exact W.kia_one W.kitx_list I.kIn ⟨_, h1, rfl⟩ e (fun z => nomatch z) h
 |
  @tup a xs ea =>
  cases (show u = Value.ref a from rx)
  obtain ⟨_, _, _, p⟩ := (show ObjOk X.prog X.w H s.heap a (.tup xs) from I.hok a _ ea)
  obtain ⟨o, h1, h2, _⟩ := p
  exact W.kia_one W.kitx_tuple I.kIn ⟨o, h1, h2⟩ e (fun z => nomatch z) h
 |
  @dK a kvs ea =>
  cases (show u = Value.ref a from rx)
  obtain ⟨_, _, vs, _, p⟩ := (show ObjOk X.prog X.w H s.heap a (.dK kvs) from I.hok a _ ea)
  obtain ⟨o, es, ep, h1, h2, _⟩ := p
  exact W.kia_one W.kitx_dict I.kIn ⟨o, h1, h2.1⟩ e (fun z => nomatch z) h
 |
  @dT a kvs ea =>
  cases (show u = Value.ref a from rx)
  obtain ⟨_, _, xs, _, o, es, ep, h1, h2, _⟩ := (show ObjOk X.prog X.w H s.heap a (.dT kvs) from I.hok a _ ea)
  exact W.kia_one W.kitx_dict I.kIn ⟨o, h1, h2.1⟩ e (fun z => nomatch z) h
 |
  @ins a C dx fs ea cl ha hn htk hm =>
  cases (show u = Value.ref a from rx)
  obtain ⟨mA, O, _⟩ := ins_get I.hok ea
  obtain ⟨od, J, _⟩ := O.look
  exact W.kia_one (W.kitx_own (cl.get _) cl.hd ha hn htk hm) I.kIn J e (fun z => nomatch z) h
end
end L2
namespace L2
open PySem PySem.Spec PyProof.Rows
structure Room (cm : Bool) (k : Nat) (A : Around) : Prop where
 hd : cm = true → A.handled = none
 dp : A.depth + 3 * k + 5 < recursionLimit
 un : A.units + 16 * k + 200 < cLine
theorem Room.mono {cm : Bool} {j k : Nat} {A : Around} (r : Room cm k A) (h : j ≤ k) : Room cm j A := ⟨r.hd, by have := r.dp; omega, by have := r.un; omega⟩
theorem Room.deeper {cm : Bool} {k : Nat} {A : Around} (r : Room cm (k + 1) A) (env : Env) : Room cm k (A.deeper env) :=
 ⟨r.hd, by have := r.dp; show A.depth + 1 + 3 * k + 5 < _; omega, by have := r.un; show A.units + 3 + 16 * k + 200 < _; omega⟩
theorem Room.in1 {cm : Bool} {k : Nat} {A : Around} (r : Room cm (k + 1) A) : Room cm k A.in1 :=
 ⟨r.hd, by have := r.dp; show A.depth + 3 * k + 5 < _; omega, by have := r.un; show A.units + 1 + 16 * k + 200 < _; omega⟩
theorem make_depth {A : Around} {C : Addr} {us : List Value} {kw : List (Str × Value)} : (A.under (.builtin "type.__call__" ⟨.ref C :: us, kw⟩)).depth = A.depth + 1 := by
 first | rfl | simp [Around.under, Code.weight, Code.isCreation, Code.isGuard, Code.isCaller, Code.frames, Code.isFrame, guardIds]
theorem make_units {A : Around} {C : Addr} {us : List Value} {kw : List (Str × Value)} : (A.under (.builtin "type.__call__" ⟨.ref C :: us, kw⟩)).units = A.units + 1 := by
 first | rfl | simp [Around.under, Code.cUnits, Code.frames, Code.isFrame]
theorem Room.make {cm : Bool} {k : Nat} {A : Around} (r : Room cm (k + 1) A) (C : Addr) (us : List Value) (kw : List (Str × Value)) : Room cm k (A.under (.builtin "type.__call__" ⟨.ref C :: us, kw⟩)) :=
 ⟨r.hd, by have := r.dp; rw [make_depth]; omega, by have := r.un; rw [make_units]; omega⟩
theorem Room.depth {cm : Bool} {k : Nat} {A : Around} (r : Room cm k A) : A.depth < recursionLimit := by have := r.dp; omega
theorem Room.units {cm : Bool} {k : Nat} {A : Around} (r : Room cm k A) : A.units + 64 < cLine := by have := r.un; omega
def tNil : TA := fun _ H Q => Q [] H
def tCons (ta : TE) (tr : TA) : TA := fun σ H Q => ta σ H fun x H1 => tr σ H1 fun xs H2 => Q (x :: xs) H2
section
variable {X : Cx} {e : Expr} {es : List Expr} {te : TE} {t : TA} {pos : Pos}
theorem pa_nil : PA X [] tNil := fun _ _ _ _ H Q I h => Calls.spliced_nil ⟨[], H, I, .nil, h⟩
theorem pa_cons (ha : PE X e te) (hr : PA X es t) (hs : starEach (e :: es) X.env = (false, eval e X.env) :: starEach es X.env := by rfl) : PA X (e :: es) (tCons te t) := by
 intro pos pins s σ H Q I h
 rw [hs]
 show wpAny _ _ (spliced ((false, eval e X.env) :: backTo pos (starEach es X.env))) _ _ s
 refine Calls.spliced_cons (thn (ha pins s σ H _ I h) fun u s1 ⟨x, H1, I1, r1, q1⟩ => ?_)
 exact thn (hr pos pins s1 σ H1 _ I1 q1) fun us s2 ⟨xs, H2, I2, r2, q2⟩ => ⟨x :: xs, H2, I2, .cons r1 r2, q2⟩
def tTup (t : TA) : TE := fun σ H Q => t σ H fun xs H1 => xs.length ≤ sizeLine ∧ ∀ p, H1 p = none → Q (.ref p) (upd H1 p (.tup xs))
def tLst (t : TA) : TE := fun σ H Q => t σ H fun xs H1 => xs.length ≤ sizeLine ∧ ∀ p, H1 p = none → Q (.ref p) (upd H1 p (.lst xs))
theorem pe_tup {x1} (h : PA X es t) : PE X (.Tuple es x1 pos) (tTup t) := by
 intro pins s σ H Q I hq
 refine wpAny_Tuple_spliced (thn (h pos pins s σ H _ I hq) fun us s1 ⟨xs, H1, I1, r, z, q⟩ => ⟨by rw [← r.length]; exact z, ?_⟩)
 have hf : H1 s1.heap.objs.size = none := I1.hok.fresh (Nat.le_refl _)
 refine ⟨.ref s1.heap.objs.size, upd H1 s1.heap.objs.size (.tup xs), I1.laid (t' := s1.toks) (fun b u e => Heap.get?_push_of_some _ e) (Nat.le_refl _) ?_, rfl, q _ hf⟩
 exact ⟨z, us, r, ⟨_, Heap.get?_push_size _ rfl, rfl, _, rfl⟩⟩
theorem pe_lst (h : PA X es t) : PE X (.List es pos) (tLst t) := by
 intro pins s σ H Q I hq
 refine wpAny_List_spliced (thn (h pos pins s σ H _ I hq) fun us s1 ⟨xs, H1, I1, r, z, q⟩ => ⟨by rw [← r.length]; exact z, ?_⟩)
 have hf : H1 s1.heap.objs.size = none := I1.hok.fresh (Nat.le_refl _)
 refine ⟨.ref s1.heap.objs.size, upd H1 s1.heap.objs.size (.lst xs), I1.laid (t' := s1.toks) (fun b u e => Heap.get?_push_of_some _ e) (Nat.le_refl _) ?_, rfl, q _ hf⟩
 exact ⟨z, us, 0, r, Heap.get?_push_size _ rfl⟩
end
abbrev Sp := List V → Hp → VK → XK → Prop
abbrev CXT := List Env → Hp → Shared → XK → Value → Shared → Prop
structure Env0 (P : Program) (w : World) (K : W.Frag) (mg : Str → Option Value) (base : Heap) (A : Around) (outer : List Env) (s : Shared) (H : Hp) : Prop where
 frames : A.frames = some outer
 mod : Mod K mg base
 bs : ∀ b o, base.get? b = some o → s.heap.get? b = some o ∧ H b = none
 bsz : base.objs.size ≤ s.heap.objs.size
 funs : s.heap.FunFrames base outer
 frf : ∀ b ∈ frs outer, H b = none
 hok : HOk P w H s.heap
 bare : AllBare s.gens
def CE (outer : List Env) (P : Program) (w : World) (H : Hp) (s : Shared) (Q : VK) (u : Value) (s' : Shared) : Prop :=
 ∃ v H', s'.os = s.os ∧ AllBare s'.gens ∧ Un (frs outer) [] H H' s.heap s'.heap ∧ HOk P w H' s'.heap ∧ RelV v u ∧ Q v H'
def CR (CX : CXT) (outer : List Env) (P : Program) (w : World) (H : Hp) (s : Shared) (Q : VK) (E : XK) (r : Result) (s' : Shared) : Prop :=
 match r with
 | .ok (.ret u) => CE outer P w H s Q u s'
 | .ok _ => False
 | .error e => CX outer H s E e s'
structure FnOk (P : Program) (w : World) (K : W.Frag) (mg : Str → Option Value) (base : Heap) (CX : CXT) (cm : Bool) (k : Nat) (f : Addr) (fd : FuncData) (ps : List Str) (sp : Sp) : Prop where
 len : ∀ vs H Q E, sp vs H Q E → vs.length = ps.length
 run : ∀ (A : Around) (outer : List Env) (s : Shared) (H : Hp) (args : Args) (us : List Value) (vs : List V) (Q : VK) (E : XK), Room cm k A → Env0 P w K mg base A outer s H → BindsTo s fd args (ps.zip us) → Vals vs us → sp vs H Q E →
  codeAny (model P w) A (.call (.ref f) args) (CR CX outer P w H s Q E) s
theorem FnOk.mono {cm : Bool} {P : Program} {w : World} {K : W.Frag} {mg : Str → Option Value} {base : Heap} {CX : CXT} {j k : Nat} {f : Addr} {fd : FuncData} {ps : List Str} {sp : Sp} (F : FnOk P w K mg base CX cm j f fd ps sp) (h : j ≤ k) :
 FnOk P w K mg base CX cm k f fd ps sp := ⟨F.len, fun A outer s H args us vs Q E hr => F.run A outer s H args us vs Q E (hr.mono h)⟩
theorem FnOk.imp {cm : Bool} {P : Program} {w : World} {K : W.Frag} {mg : Str → Option Value} {base : Heap} {CX : CXT} {k : Nat} {f : Addr} {fd : FuncData} {ps : List Str} {sp sp' : Sp} (F : FnOk P w K mg base CX cm k f fd ps sp)
  (h : ∀ vs H Q E, sp' vs H Q E → sp vs H Q E) : FnOk P w K mg base CX cm k f fd ps sp' :=
 ⟨fun vs H Q E q => F.len vs H Q E (h _ _ _ _ q), fun A outer s H args us vs Q E hr he hb hv hs => F.run A outer s H args us vs Q E hr he hb hv (h _ _ _ _ hs)⟩
theorem Env0.make {P : Program} {w : World} {K : W.Frag} {mg : Str → Option Value} {base : Heap} {A : Around} {outer : List Env} {s : Shared} {H : Hp} (e : Env0 P w K mg base A outer s H) (C : Addr) (us : List Value) (kw : List (Str × Value)) :
 Env0 P w K mg base (A.under (.builtin "type.__call__" ⟨.ref C :: us, kw⟩)) outer s H := ⟨by first | exact e.frames | (simpa [Around.under, Code.envs, Code.isFrame, pushEnvs] using e.frames), e.mod, e.bs, e.bsz, e.funs, e.frf, e.hok, e.bare⟩
theorem Env0.in1 {P : Program} {w : World} {K : W.Frag} {mg : Str → Option Value} {base : Heap} {A : Around} {outer : List Env} {s : Shared} {H : Hp} (e : Env0 P w K mg base A outer s H) :
 Env0 P w K mg base A.in1 outer s H := ⟨e.frames, e.mod, e.bs, e.bsz, e.funs, e.frf, e.hok, e.bare⟩
section
variable {X : Cx} {pins : List (Addr × Obj)} {σ : St} {H : Hp} {s s' : Shared}
theorem Inv.env0 (I : Inv X pins σ H s) : Env0 X.prog X.w X.K X.mg X.base X.A X.stack s H :=
 ⟨I.ok.frames, I.ok.mod, I.bs, Nat.le_trans I.ok.bsz I.sz, I.stack, I.stkFree, I.hok, I.bare⟩
theorem Inv.after {Q : VK} {u : Value} (I : Inv X pins σ H s) (h : CE X.stack X.prog X.w H s Q u s') : EP X pins σ Q u s' := by
 obtain ⟨v, H', os, bare, un, hok, r, q⟩ := h
 obtain ⟨hh, g, d, t, os'⟩ := s'
 obtain rfl : os' = s.os := os
 exact ⟨v, H', I.call (h' := hh) (g' := g) (d' := d) (t' := t) (ch := []) un hok bare (fun b z => absurd z (by simp)), r, q⟩
end
def tCall (sp : Sp) (dvs : List V) (E : XK) (t : TA) : TE := fun σ H Q => t σ H fun vs H1 => sp (vs ++ dvs) H1 Q E
def tMake (C : Addr) (sp : Sp) (dvs : List V) (E : XK) (t : TA) : TE := fun σ H Q => t σ H fun vs H1 => ∀ x dx, H1 x = none → H1 dx = none → dx ≠ x →
 sp (.ref x :: (vs ++ dvs)) (upd (upd H1 dx (.own x)) x (.ins C dx [])) (fun v H2 => v = .non ∧ Q (.ref x) H2) E
def Binds (K : W.Frag) (fd : FuncData) (ps : List Str) (ds : List Value) : Prop :=
 ∀ (s : Shared) (us : List Value), K.In s.heap → (us ++ ds).length = ps.length → BindsTo s fd ⟨us, []⟩ (ps.zip (us ++ ds))
theorem Binds.all {K : W.Frag} {fd : FuncData} {ps : List Str} (h : ∀ us : List Value, us.length = ps.length → bindArgs fd ⟨us, []⟩ = pure (ps.zip us)) : Binds K fd ps [] := fun s us _ hl => by
 rw [List.append_nil] at hl ⊢
 exact .of_eq (h us hl)
def Passes (CX : CXT) (X : Cx) (E : XK) : Prop := ∀ (pins : List (Addr × Obj)) (σ : St) (H : Hp) (s : Shared) (e : Value) (s' : Shared), Inv X pins σ H s → CX X.stack H s E e s' → X.xe e s'
section
variable {X : Cx} {CX : CXT} {cm : Bool} {k : Nat} {f C : Addr} {fd : FuncData} {ps : List Str} {sp : Sp} {dvs : List V} {ds : List Value} {E : XK} {x m : Str} {p pos apos : Pos} {e o : Expr} {es : List Expr} {ta : TE} {t : TA}
theorem run_fn {pins : List (Addr × Obj)} {σ : St} {H : Hp} {s : Shared} {Q : VK} {us : List Value} {vs : List V} (F : FnOk X.prog X.w X.K X.mg X.base CX cm k f fd ps sp) (hr : Room cm k X.A) (hb : Binds X.K fd ps ds) (hd : Vals dvs ds) (hx : Passes CX X E)
  (I : Inv X pins σ H s) (r : Vals vs us) (h : sp (vs ++ dvs) H Q E) : wpAny (model X.prog X.w) X.A (call (.ref f) us) (EP X pins σ Q) X.xe s := by
 have r2 : Vals (vs ++ dvs) (us ++ ds) := r.append hd
 have hl : (us ++ ds).length = ps.length := by rw [← r2.length]; exact F.len _ _ _ _ h
 refine wpAny_call (codeAny_mono (F.run X.A X.stack s H ⟨us, []⟩ (us ++ ds) (vs ++ dvs) Q E hr I.env0 (hb s us I.kIn hl) r2 h) fun r s' hq => ?_)
 cases r with
 | error e => exact hx pins σ H s e s' I hq
 |
  ok fl =>
  cases fl with
  | ret u => exact I.after hq
  | next => exact False.elim hq
  | brk => exact False.elim hq
  | cont => exact False.elim hq
theorem pe_call (F : FnOk X.prog X.w X.K X.mg X.base CX cm k f fd ps sp) (hr : Room cm k X.A) (hg : Gl X x) (hm : X.mg x = some (.ref f)) (hk : W.keepIn X.K (.ref f) = true) (hb : Binds X.K fd ps ds) (hd : Vals dvs ds) (hx : Passes CX X E)
  (ha : PA X (e :: es) t) (hdb : (x == ("__debug__" : Str)) = false := by decide) (he : starEach (e :: es) X.env = (false, eval e X.env) :: starEach es X.env := by rfl) (hpl : (backTo pos (starEach es X.env)).any (·.1) = false := by rfl) :
  PE X (.Call (.Name x p) (e :: es) [] pos) (tCall sp dvs E t) := by
 intro pins s σ H Q I h
 refine wpAny_Call_Name_kw (ld_glob I hg hm ?_ hdb)
 refine W.callWith_K (h₀ := X.base) I.ok.mod.kin hk (thn (ha pos pins s σ H _ I h) fun us s1 ⟨vs, H1, I1, r, q⟩ => ⟨I1.kIn, ?_⟩) he hpl
 exact run_fn F hr hb hd hx I1 r q
structure Mk (K : W.Frag) (C f : Addr) : Prop where
 makes : W.makesIn K C = true
 init : W.findIn K (.ref C) "__init__" = some (some (.ref f))
 fn : W.isFn K (.ref f) = true
 kp : W.keepIn K (.ref C) = true
theorem run_make {pins : List (Addr × Obj)} {σ : St} {H : Hp} {s : Shared} {Q : VK} {us : List Value} {vs : List V} (M : Mk X.K C f) (F : FnOk X.prog X.w X.K X.mg X.base CX cm k f fd ps sp) (hr : Room cm (k + 1) X.A) (hb : Binds X.K fd ps ds) (hd : Vals dvs ds)
  (hx : Passes CX X E) (I : Inv X pins σ H s) (r : Vals vs us)
  (h : ∀ x dx, H x = none → H dx = none → dx ≠ x → sp (.ref x :: (vs ++ dvs)) (upd (upd H dx (.own x)) x (.ins C dx [])) (fun v H2 => v = .non ∧ Q (.ref x) H2) E) :
  wpAny (model X.prog X.w) X.A (call (.ref C) us) (EP X pins σ Q) X.xe s := by
 have hq := h (s.heap.objs.size + 1) s.heap.objs.size (I.hok.fresh (Nat.le_succ _)) (I.hok.fresh (Nat.le_refl _)) (Nat.ne_of_lt (Nat.lt_succ_self _))
 have I2 := Inv.made (C := C) I
 have r2 : Vals (V.ref (s.heap.objs.size + 1) :: (vs ++ dvs)) (Value.ref (s.heap.objs.size + 1) :: (us ++ ds)) := .cons rfl (r.append hd)
 have hl : (Value.ref (s.heap.objs.size + 1) :: us ++ ds).length = ps.length := by
  have e := r2.length
  rw [F.len _ _ _ _ hq] at e
  exact e.symm
 refine wpAny_call (make_map (f := f) I.kIn M.makes M.init (beq_iff_eq.mp M.fn) (codeAny_mono (F.run _ X.stack _ _ ⟨Value.ref (s.heap.objs.size + 1) :: us, []⟩ (Value.ref (s.heap.objs.size + 1) :: (us ++ ds)) _ _ E (hr.make C us [])
  (I2.env0.make C us []) (hb _ (Value.ref (s.heap.objs.size + 1) :: us) I2.kIn hl) r2 hq) fun r s' hq' => ?_))
 cases r with
 | error e => exact hx pins σ _ _ e s' I2 hq'
 |
  ok fl =>
  cases fl with
  |
   ret u =>
   obtain ⟨v, H', I3, rv, ev, q3⟩ := I2.after hq'
   subst ev
   exact ⟨rv, ⟨V.ref (s.heap.objs.size + 1), H', I3, rfl, q3⟩⟩
  | next => exact False.elim hq'
  | brk => exact False.elim hq'
  | cont => exact False.elim hq'
theorem pe_make (M : Mk X.K C f) (F : FnOk X.prog X.w X.K X.mg X.base CX cm k f fd ps sp) (hr : Room cm (k + 1) X.A) (hg : Gl X x) (hm : X.mg x = some (.ref C)) (hb : Binds X.K fd ps ds) (hd : Vals dvs ds) (hx : Passes CX X E)
  (ha : PA X (e :: es) t) (hdb : (x == ("__debug__" : Str)) = false := by decide) (he : starEach (e :: es) X.env = (false, eval e X.env) :: starEach es X.env := by rfl) (hpl : (backTo pos (starEach es X.env)).any (·.1) = false := by rfl) :
  PE X (.Call (.Name x p) (e :: es) [] pos) (tMake C sp dvs E t) := by
 intro pins s σ H Q I h
 refine wpAny_Call_Name_kw (ld_glob I hg hm ?_ hdb)
 refine W.callWith_K (h₀ := X.base) I.ok.mod.kin M.kp (thn (ha pos pins s σ H _ I h) fun us s1 ⟨vs, H1, I1, r, q⟩ => ⟨I1.kIn, ?_⟩) he hpl
 exact run_make M F hr hb hd hx I1 r q
theorem pe_make0 (M : Mk X.K C f) (F : FnOk X.prog X.w X.K X.mg X.base CX cm k f fd ps sp) (hr : Room cm (k + 1) X.A) (hg : Gl X x) (hm : X.mg x = some (.ref C)) (hb : Binds X.K fd ps ds) (hd : Vals dvs ds) (hx : Passes CX X E)
  (hdb : (x == ("__debug__" : Str)) = false := by decide) : PE X (.Call (.Name x p) [] [] pos) (tMake C sp dvs E tNil) := by
 intro pins s σ H Q I h
 refine wpAny_Call_Name_kw (ld_glob I hg hm ?_ hdb)
 exact W.callWith_K0 I.kIn M.kp (run_make (us := []) M F hr hb hd hx I .nil h)
end
def PK (X : Cx) (kws : List Keyword) (t : TA) : Prop :=
 ∀ (pos : Pos) (pins : List (Addr × Obj)) (s : Shared) (σ : St) (H : Hp) (Q : List V → Hp → Prop), Inv X pins σ H s → t σ H Q → wpAny (model X.prog X.w) X.A (evalAll ((backToKw pos (keywordEach kws X.env)).map (·.2))) (AP X pins σ Q) X.xe s
section
variable {X : Cx} {CX : CXT} {cm : Bool} {k : Nat} {f C : Addr} {fd : FuncData} {ps ks : List Str} {sp : Sp} {E : XK} {x m : Str} {p pos apos kpos : Pos} {e o : Expr} {es : List Expr} {kws : List Keyword} {te ta : TE} {t tk : TA} {nm : Option Str}
theorem pk_nil : PK X [] tNil := fun _ _ _ _ H Q I h => wpAny_evalAll_nil ⟨[], H, I, .nil, h⟩
theorem pk_cons (ha : PE X e te) (hr : PK X kws t) : PK X (⟨nm, e, kpos⟩ :: kws) (tCons te t) := by
 intro pos pins s σ H Q I h
 show wpAny _ _ (evalAll ((do let v ← eval e X.env; standAt pos; pure v) :: (backToKw pos (keywordEach kws X.env)).map (·.2))) _ _ s
 refine wpAny_evalAll_cons (wpAny_bind (thn (ha pins s σ H _ I h) fun u s1 ⟨x, H1, I1, r1, q1⟩ => wpAny_bind (wpAny_standAt (wpAny_pure ?_))))
 exact thn (hr pos pins s1 σ H1 _ I1 q1) fun us s2 ⟨xs, H2, I2, r2, q2⟩ => ⟨x :: xs, H2, I2, .cons r1 r2, q2⟩
structure KBinds (K : W.Frag) (fd : FuncData) (ps ks : List Str) (g : List Value → List Value → List Value) (gV : List V → List V → List V) : Prop where
 to : ∀ (s : Shared) (us ws : List Value), K.In s.heap → (g us ws).length = ps.length → BindsTo s fd ⟨us, ks.zip ws⟩ (ps.zip (g us ws))
 rel : ∀ {vs : List V} {us : List Value} {zs : List V} {ws : List Value}, Vals vs us → Vals zs ws → Vals (gV vs zs) (g us ws)
variable {g : List Value → List Value → List Value} {gV : List V → List V → List V}
end
structure FnScope (N P : List Str) (sc : Scope) : Prop where
 kind : sc.kind = .function
 co : sc.isCoroutine = false
 gen : sc.isGenerator = false
 nd : N.Nodup
 pre : N.take P.length = P
 par : ∀ x ∈ P, sc.names.lookup x = some .local ∨ sc.names.lookup x = some .cell
 nofree : ∀ y ∈ sc.names, y.2 ≠ .free
theorem bindL_out {kindOf : Str → Option NameKind} {x : Str} : ∀ {binds : List (Str × Value)} {m : Str → Option Value}, (∀ v, (x, v) ∉ binds) → bindL kindOf binds m x = m x
 | [], _, _ => rfl
 |
  (n, v) :: r, m, h => by
  unfold bindL
  rw [bindL_out fun w hw => h w (List.mem_cons_of_mem _ hw)]
  split
  ·
   have : x ≠ n := by rintro rfl; exact h v List.mem_cons_self
   simp [this]
  · rfl
theorem bindC_out {kindOf : Str → Option NameKind} {x : Str} : ∀ {binds : List (Str × Value)} {m : Str → Option Value}, (∀ v, (x, v) ∉ binds) → bindC kindOf binds m x = m x
 | [], _, _ => rfl
 |
  (n, v) :: r, m, h => by
  unfold bindC
  rw [bindC_out fun w hw => h w (List.mem_cons_of_mem _ hw)]
  split
  · rfl
  ·
   have : x ≠ n := by rintro rfl; exact h v List.mem_cons_self
   simp [this]
theorem bindL_get {kindOf : Str → Option NameKind} {x : Str} {v : Value} : ∀ {P : List Str} {vs : List Value} {i : Nat} {m : Str → Option Value}, P.Nodup → P[i]? = some x → vs[i]? = some v → kindOf x = some .local →
  bindL kindOf (P.zip vs) m x = some v
 | [], _, _, _, _, h, _, _ => by simp at h
 | _ :: _, [], _, _, _, _, h, _ => by simp at h
 |
  p :: P, w :: vs, 0, m, nd, h1, h2, hk => by
  simp at h1 h2; subst h1; subst h2
  show bindL kindOf ((p, w) :: P.zip vs) m p = _
  unfold bindL
  rw [bindL_out fun v hv => (List.nodup_cons.mp nd).1 (List.of_mem_zip hv).1, if_pos hk]
  simp
 |
  p :: P, w :: vs, i + 1, m, nd, h1, h2, hk => by
  show bindL kindOf ((p, w) :: P.zip vs) m x = _
  unfold bindL
  exact bindL_get (i := i) (List.nodup_cons.mp nd).2 (by simpa using h1) (by simpa using h2) hk
theorem bindC_get {kindOf : Str → Option NameKind} {x : Str} {v : Value} : ∀ {P : List Str} {vs : List Value} {i : Nat} {m : Str → Option Value}, P.Nodup → P[i]? = some x → vs[i]? = some v → kindOf x ≠ some .local →
  bindC kindOf (P.zip vs) m x = some v
 | [], _, _, _, _, h, _, _ => by simp at h
 | _ :: _, [], _, _, _, _, h, _ => by simp at h
 |
  p :: P, w :: vs, 0, m, nd, h1, h2, hk => by
  simp at h1 h2; subst h1; subst h2
  show bindC kindOf ((p, w) :: P.zip vs) m p = _
  unfold bindC
  rw [bindC_out fun v hv => (List.nodup_cons.mp nd).1 (List.of_mem_zip hv).1, if_neg hk]
  simp
 |
  p :: P, w :: vs, i + 1, m, nd, h1, h2, hk => by
  show bindC kindOf ((p, w) :: P.zip vs) m x = _
  unfold bindC
  exact bindC_get (i := i) (List.nodup_cons.mp nd).2 (by simpa using h1) (by simpa using h2) hk
def start (N : List Str) (vs : List V) : St := vs.map some ++ List.replicate (N.length - vs.length) none
def cxOf (CX : CXT) (cm : Bool) (P : Program) (w : World) (K : W.Frag) (mg : Str → Option Value) (base : Heap) (N : List Str) (qual : Str) (scope : Scope) (f : Addr) (cd : Value) (A : Around) (outer : List Env) (s : Shared) (H : Hp) (E : XK) : Cx where
 prog := P
 w := w
 K := K
 mg := mg
 base := base
 A := A.deeper (envOfC qual scope s.heap.objs.size f cd)
 N := N
 s₀ := s
 H₀ := H
 env := envOfC qual scope s.heap.objs.size f cd
 outer := outer
 stack := envOfC qual scope s.heap.objs.size f cd :: outer
 ex := []
 calm := cm
 fn := fun _ => true
 pn := []
 xe := fun e s' => wpAny (model P w) (A.deeper (envOfC qual scope s.heap.objs.size f cd)) (leaving (envOfC qual scope s.heap.objs.size f cd) e) (fun _ s'' => CX outer H s E e s'') (fun e' s'' => CX outer H s E e' s'') s'
theorem cell_has {sc : Scope} {n : Nat} {x : Str} (h : sc.names.lookup x = some .cell) : ∃ c, (cellsFrom n sc.names []).lookup x = some c := by
 have q := W.cellsFrom_some sc.names n [] (.inl h)
 exact Option.isSome_iff_exists.mp q
theorem inv_start {cm : Bool} {CX : CXT} {P : Program} {w : World} {K : W.Frag} {mg : Str → Option Value} {base : Heap} {N ps : List Str} {qual : Str} {scope : Scope} {f : Addr} {cd : Value} {A : Around} {outer : List Env} {s s1 : Shared} {H : Hp} {E : XK} {us : List Value} {vs : List V}
  (S : FnScope N ps scope) (hd : cm = true → A.handled = none) (e0 : Env0 P w K mg base A outer s H) (hl : vs.length = ps.length) (r : Vals vs us)
  (x : InCallC s s.heap.objs.size (bindL (envOfC qual scope s.heap.objs.size f cd).kindOf (ps.zip us) fun _ => none) (cellsFrom (s.heap.objs.size + 1) scope.names []) (bindC (envOfC qual scope s.heap.objs.size f cd).kindOf (ps.zip us) fun _ => none) s1) :
  Inv (cxOf CX cm P w K mg base N qual scope f cd A outer s H E) [] (start N vs) H s1 := by
 have hpl : ps.length ≤ N.length := by have := congrArg List.length S.pre; rw [List.length_take] at this; omega
 obtain ⟨h1, tk, rfl, hk⟩ := x.done
 have noA : ∀ b : Addr, b ∉ (cxOf CX cm P w K mg base N qual scope f cd A outer s H E).ex := fun b z => absurd (show b ∈ ([] : List Addr) from z) (by simp)
 refine ⟨⟨e0.mod, S.kind, rfl, rfl, Nat.le_refl _, fun y z c h1 h2 => ?_, fun y hy => ?_, fun y c _ h => ?_, hd, Around.frames_deeper e0.frames, .inr ⟨rfl, rfl⟩, fun b z => absurd z (noA b), e0.bs, e0.bsz, fun b _ _ => noA b, fun b z => absurd z (noA b), e0.funs, e0.frf⟩,
  rfl, e0.bare, Un.kept hk, ⟨_, x.toInCall.ns, fun i y v h1 h2 h3 => ?_⟩, fun y c h => ⟨_, x.cell y c h⟩, e0.hok.fresh (Nat.le_refl _), fun y c h => ?_, fun p hp => absurd (show p ∈ ([] : List (Addr × Obj)) from hp) (by simp), e0.hok.kept hk, ?_⟩
 · exact name_of_addr x.apart (PySem.mem_of_lookup h1) (PySem.mem_of_lookup h2)
 ·
  have hy : scope.names.lookup y = some .cell ∨ scope.names.lookup y = some .free := hy
  rcases hy with hy | hy
  · exact cell_has hy
  · exact absurd rfl (S.nofree _ (PySem.mem_of_lookup hy))
 · exact Nat.le_of_lt (x.above y c (PySem.mem_of_lookup h))
 ·
  have hi : i < vs.length := by
   unfold start at h2
   by_cases hi : i < vs.length
   · exact hi
   ·
    rw [List.getElem?_append_right (by simpa using hi)] at h2
    rw [List.getElem?_replicate] at h2
    split at h2 <;> cases h2
  have ha : vs[i]? = some v := by
   unfold start at h2
   rw [List.getElem?_append_left (by simpa using hi), List.getElem?_map] at h2
   cases e : vs[i]? with
   | none => rw [e] at h2; cases h2
   | some a => rw [e] at h2; cases h2; rfl
  obtain ⟨u, hu, rv⟩ := r.get ha
  have hp : ps[i]? = some y := by
   rw [← S.pre, List.getElem?_take_of_lt (by omega)]; exact h1
  have ndP : ps.Nodup := by rw [← S.pre]; exact S.nd.sublist (List.take_sublist _ _)
  refine ⟨u, rv, ?_⟩
  rcases S.par y (List.mem_of_getElem? hp) with k | k
  · exact .inl ⟨k, bindL_get ndP hp hu k⟩
  ·
   obtain ⟨c, e⟩ := cell_has (n := s.heap.objs.size + 1) k
   refine .inr ⟨.inl k, c, e, ?_⟩
   have q := x.cell y c e
   rw [bindC_get ndP hp hu (by show scope.names.lookup y ≠ _; rw [k]; decide)] at q
   exact q
 · exact e0.hok.fresh (Nat.le_of_lt (x.above y c (PySem.mem_of_lookup h)))
 ·
  unfold start
  show _ = N.length
  rw [List.length_append, List.length_map, List.length_replicate]
  omega
theorem fn_of {cm : Bool} {CX : CXT} {P : Program} {w : World} {K : W.Frag} {mg : Str → Option Value} {base : Heap} {k : Nat} {f : Addr} {name qual : Str} {params : Arguments} {body : List Stmt} {scope : Scope} {dV kV doc pm cdv ct oc : Value} {an od : Option Addr}
  {osl : Array (Option Value)} {N ps : List Str} {sp : Sp} (lk : K.lookup f = some ⟨oc, od, .func (W.fnOf name qual params body scope dV kV doc pm an cdv ct), osl⟩) (hcd : W.codeIn K cdv qual = true) (S : FnScope N ps scope)
  (len : ∀ vs H Q E, sp vs H Q E → vs.length = ps.length)
  (hbody : ∀ (A : Around) (outer : List Env) (s : Shared) (H : Hp) (vs : List V) (Q : VK) (E : XK), Room cm k (A.deeper (envOfC qual scope s.heap.objs.size f cdv)) → sp vs H Q E →
   ∃ t, PSs (cxOf CX cm P w K mg base N qual scope f cdv A outer s H E) body t ∧ t { nx := fun _ H' => Q .non H', rt := fun _ => Q } (start N vs) H) :
  FnOk P w K mg base CX cm (k + 1) f (W.fnOf name qual params body scope dV kV doc pm an cdv ct) ps sp := by
 refine ⟨len, fun A outer s H args us vs Q E hr e0 hb r hsp => ?_⟩
 have hl := len _ _ _ _ hsp
 have KX : K.In s.heap := e0.mod.kin.keeps fun b o e => (e0.bs b o e).1
 have lim : s.heap.NoLimit := e0.mod.nolimit.keeps fun b o e => (e0.bs b o e).1
 have hkind : ∀ y ∈ ps.zip us, scope.names.lookup y.1 = some .local ∨ (scope.names.lookup y.1 = some .cell ∧ ((cellsFrom (s.heap.objs.size + 1) scope.names []).lookup y.1).isSome = true) := fun ⟨n, v⟩ hy => by
  rcases S.par n (List.of_mem_zip hy).1 with q | q
  · exact .inl q
  · exact .inr ⟨q, W.cellsFrom_some _ _ _ (.inl q)⟩
 refine codeAny_call_function hr.depth (KX _ _ lk) rfl S.co S.gen rfl (W.codeRec_of KX hcd) (hb _ _ _ _ ?_)
 refine wpAny_newFunctionEnv_cells S.kind hkind fun env he s1 x => ?_
 subst he
 refine ⟨lim.keeps x.toInCall.keep, codeAny_func ?_⟩
 obtain ⟨t, ht, hq⟩ := hbody A outer s H vs Q E (hr.deeper _) hsp
 have I : Inv (cxOf CX cm P w K mg base N qual scope f cdv A outer s H E) [] (start N vs) H s1 := inv_start S hr.hd e0 hl r x
 refine wpAny_mono (ht [] s1 (start N vs) H _ I hq) (fun fl s' hs => ?_) fun e s' hs => hs
 have fin : ∀ {σ' : St} {H' : Hp} {v : V} {u : Value}, Inv (cxOf CX cm P w K mg base N qual scope f cdv A outer s H E) [] σ' H' s' → RelV v u → Q v H' → CE outer P w H s Q u s' :=
  fun {σ' H' v u} J rv q => ⟨v, H', J.os, J.bare, J.base, J.hok, rv, q⟩
 cases fl with
 |
  ret u =>
  obtain ⟨v, σ', H', J, rv, q⟩ := hs
  exact fin J rv q
 |
  next =>
  obtain ⟨σ', H', J, q⟩ := hs
  exact fin (v := V.non) (u := Value.none) J rfl q
 |
  brk =>
  obtain ⟨_, _, _, q⟩ := hs
  exact False.elim q
 |
  cont =>
  obtain ⟨_, _, _, q⟩ := hs
  exact False.elim q
end L2
namespace L2
open PySem PySem.Spec PyProof.Rows
section
variable {X : Cx} {x : Str} {p pos : Pos} {e : Expr} {es : List Expr} {t : TA} {id T : String} {r : List V → Hp → VK → Prop}
def tCB (r : List V → Hp → VK → Prop) (t : TA) : TE := fun σ H Q => t σ H fun vs H1 => r vs H1 Q
theorem pe_callB (hc : CallR X (.builtin id) r) (hg : Gl X x) (hm : X.mg x = none) (hv : bootBuiltins x = some (.builtin id)) (ha : PA X (e :: es) t) (hn : x ≠ "__name__" := by decide) (hdb : (x == ("__debug__" : Str)) = false := by decide)
  (he : starEach (e :: es) X.env = (false, eval e X.env) :: starEach es X.env := by rfl) (hpl : (backTo pos (starEach es X.env)).any (·.1) = false := by rfl) : PE X (.Call (.Name x p) (e :: es) [] pos) (tCB r t) := by
 intro pins s σ H Q I h
 refine wpAny_Call_Name_kw (ld_blt I hg hm hv ?_ hn hdb)
 exact PyProof.Rows.callWith_builtin1 (thn (ha pos pins s σ H _ I h) fun us s1 ⟨vs, H1, I1, r1, q1⟩ => hc pins s1 σ H1 vs us Q I1 r1 q1) he hpl
theorem pe_callTy (hc : CallR X (.type T) r) (hg : Gl X x) (hm : X.mg x = none) (hv : bootBuiltins x = some (.type T)) (ha : PA X (e :: es) t) (hn : x ≠ "__name__" := by decide) (hdb : (x == ("__debug__" : Str)) = false := by decide)
  (he : starEach (e :: es) X.env = (false, eval e X.env) :: starEach es X.env := by rfl) (hpl : (backTo pos (starEach es X.env)).any (·.1) = false := by rfl) : PE X (.Call (.Name x p) (e :: es) [] pos) (tCB r t) := by
 intro pins s σ H Q I h
 refine wpAny_Call_Name_kw (ld_blt I hg hm hv ?_ hn hdb)
 exact PyProof.Rows.callWith_type1 (thn (ha pos pins s σ H _ I h) fun us s1 ⟨vs, H1, I1, r1, q1⟩ => hc pins s1 σ H1 vs us Q I1 r1 q1) he hpl
end
end L2
namespace HT
open PySem PyProof.Rows
section
open PySem.SeqAt
open PySem.AutoSeq1 (wpAny_loadPart')
open PySem.MeetsSeq PySem.MeetsSeq2 PySem.MeetsSeq3
end
section
variable {prog : Program} {w : World} {A : Around} {E : Value → Shared → Prop} {s : Shared}
def sIx (n d : Nat) : Option Int → Nat
 | none => d
 | some v => if v < 0 then (v + (n : Int)).toNat else min v.toNat n
theorem sIx_le (n d : Nat) (hd : d ≤ n) (o : Option Int) : sIx n d o ≤ n := by
 cases o with
 | none => exact hd
 |
  some v =>
  show (if v < 0 then (v + (n : Int)).toNat else min v.toNat n) ≤ n
  by_cases hv : v < 0
  · rw [if_pos hv]; omega
  · rw [if_neg hv]; exact Nat.min_le_right _ _
theorem clip_eq (v : Int) (n d : Nat) : (if v < 0 then max (v + (n : Int)) 0 else min v (n : Int)) = ((sIx n d (some v) : Nat) : Int) := by
 show (if v < 0 then max (v + (n : Int)) 0 else min v (n : Int)) = (((if v < 0 then (v + (n : Int)).toNat else min v.toNat n) : Nat) : Int)
 by_cases hv : v < 0
 · simp only [if_pos hv]; omega
 · simp only [if_neg hv]; omega
theorem adjust_gen (lo hi : Option Int) (n : Nat) : Builtin.Slice.sliceAdjust lo hi 1 (n : Int) = (((sIx n 0 lo : Nat) : Int), ((sIx n n hi : Nat) : Int)) := by
 have h1 : ¬ ((1 : Int) < 0) := by omega
 unfold Builtin.Slice.sliceAdjust
 simp only [h1, if_false]
 refine Prod.ext ?_ ?_
 ·
  cases lo with
  | none => rfl
  | some v => exact clip_eq v n 0
 ·
  cases hi with
  | none => rfl
  | some v => exact clip_eq v n n
theorem places_gen (i j : Nat) : Builtin.Slice.slicePlaces (i : Int) (j : Int) 1 = j - i := by
 unfold Builtin.Slice.slicePlaces
 have h1 : (1 : Int) > 0 := by omega
 simp only [h1, if_true, Int.ediv_one]
 split <;> omega
theorem slicePart_ {v : Value} {o : Option Int} {Q : Option Int → Shared → Prop} (p : IsPart v o) (h : Q o s) : wpAny (model prog w) A (Builtin.Slice.slicePartIndex v) Q E s := by
 cases p with
 | none => exact slicePart_none h
 | int i t => exact slicePart_int h
theorem sliceApplied_gen {sl : Addr} {vl vu : Value} {lo hi : Option Int} {n : Nat} {Q : Int × Int × Nat → Shared → Prop} (hs : s.heap.IsSliceOf sl vl vu .none) (pl : IsPart vl lo) (pu : IsPart vu hi)
  (h : Q (((sIx n 0 lo : Nat) : Int), 1, sIx n n hi - sIx n 0 lo) s) : wpAny (model prog w) A (Builtin.Slice.sliceApplied (.ref sl) (pure (n : Int))) Q E s := by
 obtain ⟨os, hos, hcs, hds⟩ := id hs
 unfold Builtin.Slice.sliceApplied Builtin.Slice.sliceFields
 refine wpAny_bind (wpAny_bind (wpAny_field hos hds (x := vl) rfl (wpAny_bind (wpAny_field hos hds (x := vu) rfl (wpAny_bind (wpAny_field hos hds (x := .none) rfl (wpAny_pure ?_)))))))
 refine wpAny_bind (slicePart_none ?_)
 show wpAny _ _ (if ((1 : Int) == 0) = true then _ else _) _ _ s
 rw [if_neg (by decide)]
 refine wpAny_bind (slicePart_ pl (wpAny_bind (slicePart_ pu (wpAny_bind (wpAny_pure ?_)))))
 show wpAny _ _ (match Builtin.Slice.sliceAdjust lo hi 1 (n : Int) with | (lo, hi) => pure (lo, (1 : Int), Builtin.Slice.slicePlaces lo hi 1)) _ _ s
 rw [adjust_gen lo hi n]
 show wpAny _ _ (pure (((sIx n 0 lo : Nat) : Int), (1 : Int), Builtin.Slice.slicePlaces ((sIx n 0 lo : Nat) : Int) ((sIx n n hi : Nat) : Int) 1)) _ _ s
 rw [places_gen]
 exact wpAny_pure h
theorem pick_gen (xs : Array Value) (i k : Nat) : ((List.range k).filterMap fun (m : Nat) => xs[((i : Int) + (m : Int) * 1).toNat]?).toArray = ((xs.toList.drop i).take k).toArray := by
 have e : (fun (m : Nat) => xs[((i : Int) + (m : Int) * 1).toNat]?) = fun m => xs[i + m]? := by
  funext m
  have : ((i : Int) + (m : Int) * 1).toNat = i + m := by omega
  rw [this]
 rw [e]
 have := pick_run xs i k
 rw [List.filterMap_map] at this
 have e2 : ((fun x => xs[x]?) ∘ fun x => i + x) = fun m => xs[i + m]? := rfl
 rw [e2] at this
 rw [this]
theorem getItem_tuple_cut {t sl : Addr} {items : Array Value} {vl vu : Value} {lo hi : Option Int} {Q : Value → Shared → Prop} (ht : IsTup s.heap t items) (hs : s.heap.IsSliceOf sl vl vu .none) (pl : IsPart vl lo) (pu : IsPart vu hi)
  (hw : ¬ (sIx items.size 0 lo = 0 ∧ sIx items.size items.size hi = items.size))
  (h : Q (.ref s.heap.objs.size) { s with heap := s.heap.push { cls := .type "tuple", data := .seq ((items.toList.drop (sIx items.size 0 lo)).take (sIx items.size items.size hi - sIx items.size 0 lo)).toArray } })
  (hsz : items.size ≤ sizeLine) : wpAny (model prog w) A (getItem (.ref t) (.ref sl)) Q E s := by
 have htake : sizeOk (.seq ((items.toList.drop (sIx items.size 0 lo)).take (sIx items.size items.size hi - sIx items.size 0 lo)).toArray) := by
  show ((items.toList.drop (sIx items.size 0 lo)).take (sIx items.size items.size hi - sIx items.size 0 lo)).toArray.size ≤ sizeLine
  rw [List.size_toArray, List.length_take, List.length_drop, Array.length_toList]
  omega
 have hj : sIx items.size items.size hi ≤ items.size := sIx_le _ _ (Nat.le_refl _) hi
 obtain ⟨os, hos, hcs, hds⟩ := id hs
 have hTs : s.TypeIs (.ref sl) "slice" := ⟨os, hos, hcs⟩
 unfold getItem
 try with_reducible refine wpAny_holding ?_
 first | refine wpAny_bind (wpAny_pure ?_) | skip
 refine wpAny_bind (wpAny_sequenceKey ht.typeIs (by decide) ?_)
 refine wpAny_bind (wpAny_callSpecial?_slot (name := Str.ofString "__getitem__") ht.typeIs PyProof.Rows.slot_tuple_getitem
  (wpAny_call_entry PyProof.Rows.slot_tuple_getitem ht.typeIs entry_tuple_getitem ?_ (args_tuple_getitem _ _)))
 show wpAny _ _ (Builtin.Tuple.tupleItemsOf (.ref t) >>= _) _ _ s
 refine wpAny_bind (tupleItemsOf_ ht ?_)
 refine wpAny_bind (wpAny_typeOf hTs ?_)
 rw [if_pos (by decide)]
 refine wpAny_bind (sliceApplied_gen hs pl pu ?_)
 have hno : ¬ ((((sIx items.size 0 lo : Nat) : Int) == 0 && (1 : Int) == 1 && (sIx items.size items.size hi - sIx items.size 0 lo) == items.size) = true) := by
  intro q
  rw [Bool.and_eq_true, Bool.and_eq_true] at q
  have q1 : ((sIx items.size 0 lo : Nat) : Int) = 0 := eq_of_beq q.1.1
  have q2 : sIx items.size items.size hi - sIx items.size 0 lo = items.size := eq_of_beq q.2
  exact hw ⟨by omega, by omega⟩
 show wpAny _ _ (if (((sIx items.size 0 lo : Nat) : Int) == 0 && (1 : Int) == 1 && (sIx items.size items.size hi - sIx items.size 0 lo) == items.size) = true then _ else _) _ _ s
 rw [if_neg hno, pick_gen]
 first
  | exact wpAny_bind (m := Builtin.Tuple.tupleExact _) (wpAny_newObj_type (wpAny_pure ⟨_, rfl, wpAny_pure h⟩) htake)
  | exact wpAny_bind (m := Builtin.Tuple.tupleExact _) (wpAny_newObj_type (wpAny_bind (wpAny_pure (wpAny_pure ⟨_, rfl, wpAny_pure h⟩))) htake)
  | exact wpAny_bind (wpAny_bind (m := Builtin.Tuple.tupleExact _) (wpAny_newObj_type (wpAny_pure (wpAny_pure ⟨_, rfl, wpAny_pure h⟩)) htake))
  | exact wpAny_bind (wpAny_bind (m := Builtin.Tuple.tupleExact _) (wpAny_newObj_type (wpAny_pure ⟨_, rfl, wpAny_pure h⟩) htake))
end
end HT
namespace L2
open PySem PySem.Spec PyProof.Rows
abbrev TO := St → Hp → (Option Int → Hp → Prop) → Prop
def PO (X : Cx) (e : Option Expr) (t : TO) : Prop :=
 ∀ (pins : List (Addr × Obj)) (s : Shared) (σ : St) (H : Hp) (Q : Option Int → Hp → Prop), Inv X pins σ H s → t σ H Q →
  wpAny (model X.prog X.w) X.A (evalPart e X.env) (fun u s' => ∃ o H', Inv X pins σ H' s' ∧ IsPart u o ∧ Q o H') X.xe s
def tNoPart : TO := fun _ H Q => Q none H
def tPart (t : TE) : TO := fun σ H Q => t σ H fun x H1 => ∃ i, x = .int i ∧ Q (some i) H1
theorem intsAre_of {ns : List Int} : ∀ {us : List Value}, Vals (ns.map V.int) us → IntsAre us ns := by
 induction ns with
 | nil => intro us r; rw [List.map_nil] at r; cases r; exact .nil
 |
  cons n ns ih =>
  intro us r
  rw [List.map_cons] at r
  cases r with
  |
   cons r1 r2 =>
   obtain ⟨t, e⟩ := r1
   subst e
   exact .cons n t (ih r2)
section
variable {X : Cx} {e : Expr} {te : TE} {lo hi : Option Expr} {tl th : TO} {pos p2 : Pos}
theorem po_none : PO X none tNoPart := by
 intro pins s σ H Q I h
 rw [evalPart_none]
 exact wpAny_pure ⟨none, H, I, .none, h⟩
theorem po_some (h : PE X e te) : PO X (some e) (tPart te) := by
 intro pins s σ H Q I hw
 rw [evalPart_some]
 refine thn (h pins s σ H _ I hw) fun u s1 ⟨x, H1, I1, r1, q1⟩ => ?_
 obtain ⟨i, rfl, q⟩ := q1
 obtain ⟨t, rfl⟩ := r1
 exact ⟨some i, H1, I1, .int i t, q⟩
def SlR (X : Cx) (r : V → Option Int → Option Int → Hp → VK → Prop) : Prop :=
 ∀ (pins : List (Addr × Obj)) (s : Shared) (σ : St) (H : Hp) (x : V) (v vl vu : Value) (lo hi : Option Int) (sl : Addr) (Q : VK), Inv X pins σ H s → RelV x v → s.heap.IsSliceOf sl vl vu .none → IsPart vl lo → IsPart vu hi → r x lo hi H Q →
  ∃ T id, typeLookup (.type T) "__getitem__" = pure (some (.builtin id)) ∧ s.TypeIs v T ∧ wpAny (model X.prog X.w) X.A (getItem v (.ref sl)) (EP X pins σ Q) X.xe s
theorem SlR.or {r r' : V → Option Int → Option Int → Hp → VK → Prop} (h : SlR X r) (h' : SlR X r') : SlR X (fun x lo hi H Q => r x lo hi H Q ∨ r' x lo hi H Q) := by
 intro pins s σ H x v vl vu lo hi sl Q I rx hs pl pu q
 rcases q with q | q
 · exact h pins s σ H x v vl vu lo hi sl Q I rx hs pl pu q
 · exact h' pins s σ H x v vl vu lo hi sl Q I rx hs pl pu q
def tSl (r : V → Option Int → Option Int → Hp → VK → Prop) (te : TE) (tl th : TO) : TE := fun σ H Q => te σ H fun x H1 => tl σ H1 fun l H2 => th σ H2 fun u H3 => r x l u H3 Q
theorem pe_slice {r : V → Option Int → Option Int → Hp → VK → Prop} (hr : SlR X r) (he : PE X e te) (hl : PO X lo tl) (hu : PO X hi th) : PE X (.Subscript e (.Slice lo hi none p2) pos) (tSl r te tl th) := by
 intro pins s σ H Q I h
 refine Subscript_ (thn (he pins s σ H _ I h) fun v s1 ⟨x, H1, I1, r1, q1⟩ => ?_)
 refine wpAny_Slice (thn (hl pins s1 σ H1 _ I1 q1) fun vl s2 ⟨l, H2, I2, pl, q2⟩ => thn (hu pins s2 σ H2 _ I2 q2) fun vu s3 ⟨u, H3, I3, pu, q3⟩ => ?_)
 rw [evalPart_none]
 refine wpAny_pure ?_
 have I4 : Inv X pins σ H3 { s3 with heap := s3.heap.push { cls := .type "slice", data := .fields #[vl, vu, .none] } } := I3.kept (t' := s3.toks) fun b ob q => Heap.get?_push_of_some _ q
 obtain ⟨T, id, hT, ht, hg⟩ := hr pins { s3 with heap := s3.heap.push { cls := .type "slice", data := .fields #[vl, vu, .none] } } σ H3 x v vl vu l u s3.heap.objs.size Q I4 r1 (Heap.IsSliceOf.new ..) pl pu q3
 show wpAny (model X.prog X.w) X.A (subscriptTail e (.Slice lo hi none p2) v (.ref s3.heap.objs.size)) (EP X pins σ Q) X.xe { s3 with heap := s3.heap.push { cls := .type "slice", data := .fields #[vl, vu, .none] } }
 exact tail_any (ops := [.ref s3.heap.objs.size, v]) ht hT hg (by with_unfolding_all rfl)
def cutV (xs : List V) (lo hi : Option Int) : List V := (xs.drop (HT.sIx xs.length 0 lo)).take (HT.sIx xs.length xs.length hi - HT.sIx xs.length 0 lo)
theorem cutV_length (xs : List V) (lo hi : Option Int) : (cutV xs lo hi).length ≤ xs.length := by
 unfold cutV
 rw [List.length_take, List.length_drop]
 omega
def rSlT (K : W.Frag) : V → Option Int → Option Int → Hp → VK → Prop := fun x lo hi H Q => ∃ a xs, x = .ref a ∧ SqT K H a xs ∧
 ¬ (HT.sIx xs.length 0 lo = 0 ∧ HT.sIx xs.length xs.length hi = xs.length) ∧ ∀ p, H p = none → Q (.ref p) (upd H p (.tup (cutV xs lo hi)))
theorem sl_tup : SlR X (rSlT X.K) := by
 intro pins s σ H x v vl vu lo hi sl Q I rx hs pl pu h
 obtain ⟨a, xs, rfl, hx, hw, q⟩ := h
 cases rx
 obtain ⟨its, r, ht, hz⟩ := I.tuple hx
 have hlen : its.toArray.size = xs.length := by rw [List.size_toArray]; exact r.length.symm
 refine ⟨"tuple", _, PyProof.Rows.slot_tuple_getitem.lookup, ht.typeIs, ?_⟩
 refine HT.getItem_tuple_cut ht hs pl pu (by rw [hlen]; exact hw) ?_ (by rw [hlen]; exact hz)
 rw [hlen]
 refine ⟨.ref s.heap.objs.size, _, I.laid (t' := s.toks) (o := .tup (cutV xs lo hi)) (fun b ob q => Heap.get?_push_of_some _ q) (Nat.le_refl _) ?_, rfl, q _ (I.hok.fresh (Nat.le_refl _))⟩
 exact ⟨Nat.le_trans (cutV_length xs lo hi) hz, _, (r.drop (HT.sIx xs.length 0 lo)).take (HT.sIx xs.length xs.length hi - HT.sIx xs.length 0 lo), IsTup.new _ _⟩
end
end L2
namespace L2
open PySem PySem.Spec PyProof.Rows
def ixN (n : Nat) (i : Int) : Option Nat := if 0 ≤ i then (if i < n then some i.toNat else none) else if -(n : Int) ≤ i then some (i + n).toNat else none
def atI {α : Type} (xs : List α) (i : Int) : Option α := (ixN xs.length i).bind fun j => xs[j]?
theorem ixN_seq {n : Nat} {i : Int} {j : Nat} (h : ixN n i = some j) : seqIndex? i n = some j ∧ j < n ∧ -(n : Int) ≤ i ∧ i < n := by
 unfold ixN at h
 by_cases h0 : 0 ≤ i
 ·
  rw [if_pos h0] at h
  by_cases h1 : i < n
  ·
   rw [if_pos h1] at h
   have e : i.toNat = j := Option.some.inj h
   exact ⟨by rw [seqIndex_of h0 h1, e], by omega, by omega, h1⟩
  · rw [if_neg h1] at h; cases h
 ·
  rw [if_neg h0] at h
  by_cases h1 : -(n : Int) ≤ i
  ·
   rw [if_pos h1] at h
   have e : (i + n).toNat = j := Option.some.inj h
   exact ⟨by rw [seqIndex_neg (by omega) h1, e], by omega, h1, by omega⟩
  · rw [if_neg h1] at h; cases h
theorem atI_get {α : Type} {xs : List α} {i : Int} {v : α} (h : atI xs i = some v) : ∃ j, seqIndex? i xs.length = some j ∧ xs[j]? = some v ∧ j < xs.length ∧ -(xs.length : Int) ≤ i ∧ i < xs.length := by
 unfold atI at h
 cases e : ixN xs.length i with
 | none => rw [e] at h; cases h
 |
  some j =>
  rw [e] at h
  obtain ⟨h1, h2, h3, h4⟩ := ixN_seq e
  exact ⟨j, h1, h, h2, h3, h4⟩
theorem atI_nat {α : Type} {xs : List α} {j : Nat} {v : α} (h : xs[j]? = some v) : atI xs (j : Int) = some v := by
 have hj : j < xs.length := (List.getElem?_eq_some_iff.mp h).1
 have e : ixN xs.length (j : Int) = some j := by
  unfold ixN
  rw [if_pos (by omega), if_pos (by omega)]; simp
 unfold atI; rw [e]; exact h
theorem atI_last {α : Type} (xs : List α) (v : α) : atI (xs ++ [v]) (-1) = some v := by
 have hl : (xs ++ [v]).length = xs.length + 1 := by simp
 have e : ixN (xs ++ [v]).length (-1) = some xs.length := by
  unfold ixN
  rw [hl, if_neg (by decide), if_pos (by omega)]
  congr 1
  omega
 unfold atI
 rw [e]
 show (xs ++ [v])[xs.length]? = some v
 simp
def PlainIx (b : Expr) : Prop := ∀ o i, subscripted b false o i = operate [o, i] (getItem o i)
def IxR (X : Cx) (r : R2) : Prop :=
 ∀ (value slice : Expr) (pins : List (Addr × Obj)) (s : Shared) (σ : St) (H : Hp) (x y : V) (v u : Value) (Q : VK), Inv X pins σ H s → RelV x v → RelV y u → r x y H Q →
  subscripted slice false v u = operate [v, u] (getItem v u) → wpAny (model X.prog X.w) X.A (subscriptTail value slice v u) (EP X pins σ Q) X.xe s
def MtR (X : Cx) (id : String) (r : V → List V → Hp → VK → Prop) : Prop :=
 ∀ (pins : List (Addr × Obj)) (s : Shared) (σ : St) (H : Hp) (x : V) (xs : List V) (v : Value) (us : List Value) (Q : VK), Inv X pins σ H s → RelV x v → Vals xs us → r x xs H Q →
  wpAny (model X.prog X.w) X.A (call (.builtin id) (v :: us)) (EP X pins σ Q) X.xe s
section
variable {X : Cx} {a b : Expr} {ta tb : TE} {pos : Pos}
theorem IxR.or {r r' : R2} (h : IxR X r) (h' : IxR X r') : IxR X (fun x y H Q => r x y H Q ∨ r' x y H Q) := by
 intro value slice pins s σ H x y v u Q I rx ry q hs
 rcases q with q | q
 · exact h value slice pins s σ H x y v u Q I rx ry q hs
 · exact h' value slice pins s σ H x y v u Q I rx ry q hs
theorem MtR.or {id : String} {r r' : V → List V → Hp → VK → Prop} (h : MtR X id r) (h' : MtR X id r') : MtR X id (fun x xs H Q => r x xs H Q ∨ r' x xs H Q) := by
 intro pins s σ H x xs v us Q I rx rs q
 rcases q with q | q
 · exact h pins s σ H x xs v us Q I rx rs q
 · exact h' pins s σ H x xs v us Q I rx rs q
theorem pe_ix {r : R2} (hr : IxR X r) (ha : PE X a ta) (hb : PE X b tb) (hs : PlainIx b) : PE X (.Subscript a b pos) (tOp r ta tb) := by
 intro pins s σ H Q I h
 exact Subscript_ (binT ha hb I h fun v u s2 x y H2 I2 rx ry q => hr a b pins s2 σ H2 x y v u Q I2 rx ry q (hs _ _))
def rIxL (K : W.Frag) : R2 := fun x y H Q => ∃ p xs i v, x = .ref p ∧ y = .int i ∧ SqL K H p xs ∧ atI xs i = some v ∧ Q v H
def rIxT (K : W.Frag) : R2 := fun x y H Q => ∃ p xs i v, x = .ref p ∧ y = .int i ∧ SqT K H p xs ∧ atI xs i = some v ∧ Q v H
def rIxS : R2 := fun x y H Q => ∃ z i c, x = .str z ∧ y = .int i ∧ z.length ≤ sizeLine ∧ atI z.cps.toList i = some c ∧ Q (.str ⟨#[c]⟩) H
theorem ix_list : IxR X (rIxL X.K) := by
 intro value slice pins s σ H x y v u Q I rx ry h hs
 obtain ⟨p, xs, i, z, rfl, rfl, hq, he, q⟩ := h
 cases rx
 obtain ⟨t, rfl⟩ := ry
 obtain ⟨its, r, pl, hz⟩ := I.list hq
 obtain ⟨j, h1, h2, h3, h4, h5⟩ := atI_get he
 obtain ⟨w, ew, rw'⟩ := r.get h2
 have hl := r.length
 have hn := line63
 have fin : EP X pins σ Q w s := ⟨z, H, I, rw', q⟩
 by_cases h0 : 0 ≤ i
 ·
  have hj : i.toNat = j := by
   rw [seqIndex_of h0 h5] at h1
   exact Option.some.inj h1
  exact item_listR pl.isList h0 (by omega) (by rw [hj]; simpa using ew) fin hs
 ·
  have hj : (i + (its.toArray.size : Int)).toNat = j := by
   rw [seqIndex_neg (by omega) h4] at h1
   rw [List.size_toArray, ← hl]
   exact Option.some.inj h1
  exact subscriptTail_builtinR (x := w) pl.isList.typeIs slot_list_getitem.lookup
   (wpAny_getItem_list_neg (Q := fun r s' => r = w ∧ EP X pins σ Q r s') pl.isList (by omega) (by rw [List.size_toArray] <;> omega) (by omega) (by rw [hj]; simpa using ew) ⟨rfl, fin⟩) hs
theorem ix_tup : IxR X (rIxT X.K) := by
 intro value slice pins s σ H x y v u Q I rx ry h hs
 obtain ⟨p, xs, i, z, rfl, rfl, hq, he, q⟩ := h
 cases rx
 obtain ⟨t, rfl⟩ := ry
 obtain ⟨its, r, pl, hz⟩ := I.tuple hq
 obtain ⟨j, h1, h2, h3, h4, h5⟩ := atI_get he
 obtain ⟨w, ew, rw'⟩ := r.get h2
 have hl := r.length
 have hn := line63
 have fin : EP X pins σ Q w s := ⟨z, H, I, rw', q⟩
 exact subscriptTail_builtinR (x := w) pl.typeIs slot_tuple_getitem.lookup
  (getItem_tuple (j := j) (Q := fun r s' => r = w ∧ EP X pins σ Q r s') pl (by omega) (by omega) (by rw [List.size_toArray, ← hl]; exact h1) (by simpa using ew) ⟨rfl, fin⟩) hs
theorem ix_str : IxR X rIxS := by
 intro value slice pins s σ H x y v u Q I rx ry h hs
 obtain ⟨z, i, c, rfl, rfl, hz, he, q⟩ := h
 obtain ⟨t, rfl⟩ := rx
 obtain ⟨t', rfl⟩ := ry
 obtain ⟨j, h1, h2, h3, h4, h5⟩ := atI_get he
 have hl : z.cps.toList.length = z.length := by simp [Str.length]
 rw [hl] at h1 h4 h5
 have hn := line63
 exact tail_any (typeIs_str s z t) slot_str_getitem.lookup (getItem_str (c := c) (by
  have e1 : decide (i < -(2 ^ 63 : Int)) = false := decide_eq_false (by omega)
  have e2 : decide (i ≥ 2 ^ 63) = false := decide_eq_false (by omega)
  rw [e1, e2, Bool.or_false]) (by rw [h1]; simpa using h2) ⟨.str ⟨#[c]⟩, H, I.tok _, ⟨_, rfl⟩, q⟩) hs
def rIx (K : W.Frag) : R2 := fun x y H Q => rIxL K x y H Q ∨ rIxT K x y H Q ∨ rIxS x y H Q
theorem ix_seq : IxR X (rIx X.K) := ix_list.or (ix_tup.or ix_str)
theorem Inv.lst {pins : List (Addr × Obj)} {σ : St} {H : Hp} {s : Shared} {p : Addr} {xs : List V} (I : Inv X pins σ H s) (h : H p = some (.lst xs)) :
  ∃ (its : List Value) (n : Nat), Vals xs its ∧ s.heap.get? p = some { cls := .type "list", data := .seq its.toArray n } ∧ xs.length ≤ sizeLine := by
 obtain ⟨z, its, n, r, e⟩ := I.hok p _ h
 exact ⟨its, n, r, e, z⟩
theorem slice_bounds (lo hi : Option Int) (n : Nat) : (sliceBounds lo hi none n).1 = ((HT.sIx n 0 lo : Nat) : Int) ∧ (sliceBounds lo hi none n).2.1 = ((HT.sIx n n hi : Nat) : Int) ∧ (sliceBounds lo hi none n).2.2 = 1 := by
 refine ⟨?_, ?_, rfl⟩
 ·
  cases lo with
  | none => simp [sliceBounds, HT.sIx]
  |
   some i =>
   simp only [sliceBounds, HT.sIx, Option.getD_none, show (1 : Int) > 0 by decide, if_true]
   by_cases h : i < 0
   · simp only [h, if_true] <;> omega
   · simp only [h, if_false] <;> omega
 ·
  cases hi with
  | none => simp [sliceBounds, HT.sIx]
  |
   some i =>
   simp only [sliceBounds, HT.sIx, Option.getD_none, show (1 : Int) > 0 by decide, if_true]
   by_cases h : i < 0
   · simp only [h, if_true] <;> omega
   · simp only [h, if_false] <;> omega
theorem slicePick_cut (its : List Value) (lo hi : Option Int) : slicePick its.toArray lo hi none = ((its.drop (HT.sIx its.length 0 lo)).take (HT.sIx its.length its.length hi - HT.sIx its.length 0 lo)).toArray := by
 obtain ⟨h1, h2, h3⟩ := slice_bounds lo hi its.toArray.size
 unfold slicePick
 rw [h1, h2, h3]
 simp only [sliceRange_one, pick_run, List.size_toArray] <;> rfl
def rSlL (K : W.Frag) : V → Option Int → Option Int → Hp → VK → Prop := fun x lo hi H Q => ∃ a xs, x = .ref a ∧ SqL K H a xs ∧ ∀ p, H p = none → Q (.ref p) (upd H p (.lst (cutV xs lo hi)))
theorem sl_list : SlR X (rSlL X.K) := by
 intro pins s σ H x v vl vu lo hi sl Q I rx hs pl pu h
 obtain ⟨a, xs, rfl, hx, q⟩ := h
 cases rx
 obtain ⟨its, r, ht, hz⟩ := I.list hx
 have hlen := r.length
 refine ⟨"list", _, slot_list_getitem.lookup, ht.isList.typeIs, ?_⟩
 refine wpAny_getItem_list_slice ht.isList hs pl pu .none (by simp) ?_ (by rw [List.size_toArray] <;> omega)
 rw [slicePick_cut, ← hlen]
 refine ⟨.ref s.heap.objs.size, _, I.laid (t' := s.toks) (o := .lst (cutV xs lo hi)) (fun b ob q => Heap.get?_push_of_some _ q) (Nat.le_refl _) ?_, rfl, q _ (I.hok.fresh (Nat.le_refl _))⟩
 exact ⟨Nat.le_trans (cutV_length xs lo hi) hz, _, 0, (r.drop (HT.sIx xs.length 0 lo)).take (HT.sIx xs.length xs.length hi - HT.sIx xs.length 0 lo), Heap.get?_push_size _ rfl⟩
def flatV : V → Bool
 | .non => true
 | .bl _ => true
 | .int _ => true
 | .str _ => true
 | _ => false
def eqV : V → V → Bool
 | .non, .non => true
 | .bl a, .bl b => a == b
 | .bl a, .int b => (if a then 1 else 0) == b
 | .int a, .bl b => a == (if b then 1 else 0)
 | .int a, .int b => a == b
 | .str a, .str b => a == b
 | _, _ => false
theorem eqAt_V {A : Around} {s : Shared} {y x : V} {u v : Value} (ry : RelV y u) (rx : RelV x v) (fy : flatV y = true) (fx : flatV x = true) : SeqAt.EqAt A s u v (eqV y x) := by
 cases y with
 |
  non =>
  cases ry
  cases x with
  | non => cases rx; exact SeqAt.EqAt.same _
  | bl b => cases rx; exact SeqAt.EqAt.none_bool b
  | int b => obtain ⟨t, rfl⟩ := rx; exact SeqAt.EqAt.none_int b t
  | str b => obtain ⟨t, rfl⟩ := rx; exact SeqAt.EqAt.none_str b t
  | _ => exact absurd (show false = true from fx) Bool.false_ne_true
 |
  bl a =>
  cases ry
  cases x with
  | non => cases rx; exact SeqAt.EqAt.bool_none a
  | bl b => cases rx; exact SeqAt.EqAt.bool_bool a b
  | int b => obtain ⟨t, rfl⟩ := rx; exact SeqAt.EqAt.bool_int a b t
  | str b => obtain ⟨t, rfl⟩ := rx; exact SeqAt.EqAt.bool_str a b t
  | _ => exact absurd (show false = true from fx) Bool.false_ne_true
 |
  int a =>
  obtain ⟨t', rfl⟩ := ry
  cases x with
  | non => cases rx; exact SeqAt.EqAt.int_none a t'
  | bl b => cases rx; exact SeqAt.EqAt.int_bool a t' b
  | int b => obtain ⟨t, rfl⟩ := rx; exact SeqAt.EqAt.int_int a t' b t
  | str b => obtain ⟨t, rfl⟩ := rx; exact SeqAt.EqAt.int_str a t' b t
  | _ => exact absurd (show false = true from fx) Bool.false_ne_true
 |
  str a =>
  obtain ⟨t', rfl⟩ := ry
  cases x with
  | non => cases rx; exact SeqAt.EqAt.str_none a t'
  | bl b => cases rx; exact SeqAt.EqAt.str_bool a t' b
  | int b => obtain ⟨t, rfl⟩ := rx; exact SeqAt.EqAt.str_int a t' b t
  | str b => obtain ⟨t, rfl⟩ := rx; exact SeqAt.EqAt.str_str a t' b t
  | _ => exact absurd (show false = true from fx) Bool.false_ne_true
 | _ => exact absurd (show false = true from fy) Bool.false_ne_true
def eqU (x : V) (u : Value) : Bool := match u with
 | .none => eqV .non x
 | .bool b => eqV (.bl b) x
 | .int i _ => eqV (.int i) x
 | .str z _ => eqV (.str z) x
 | _ => false
theorem eqU_of {x y : V} {u : Value} (r : RelV y u) (f : flatV y = true) : eqU x u = eqV y x := by
 cases y with
 | non => cases r; rfl
 | bl b => cases r; rfl
 | int i => obtain ⟨t, rfl⟩ := r; rfl
 | str z => obtain ⟨t, rfl⟩ := r; rfl
 | _ => exact absurd (show false = true from f) Bool.false_ne_true
theorem any_eqU {x : V} : ∀ {xs : List V} {us : List Value}, Vals xs us → xs.all flatV = true → us.any (eqU x) = xs.any fun y => eqV y x
 | _, _, .nil, _ => rfl
 |
  y :: xs, u :: us, .cons r t, f => by
  rw [List.all_cons, Bool.and_eq_true] at f
  rw [List.any_cons, List.any_cons, eqU_of r f.1, any_eqU t f.2]
theorem mem_eqAt {A : Around} {s : Shared} {x : V} {v : Value} (rx : RelV x v) (fx : flatV x = true) : ∀ {xs : List V} {us : List Value}, Vals xs us → xs.all flatV = true → ∀ u ∈ us, SeqAt.EqAt A s u v (eqU x u)
 | _, _, .nil, _ => fun u hu => by cases hu
 |
  y :: xs, u :: us, .cons r t, f => fun u' hu => by
  rw [List.all_cons, Bool.and_eq_true] at f
  rcases List.mem_cons.mp hu with rfl | hu
  · rw [eqU_of r f.1]; exact eqAt_V r rx f.1 fx
  · exact mem_eqAt rx fx t f.2 u' hu
def inV (x : V) (xs : List V) : Bool := xs.any fun y => eqV y x
def rIn (K : W.Frag) (neg : Bool) : R2 := fun x y H Q => ∃ p xs, y = .ref p ∧ (SqL K H p xs ∨ SqT K H p xs) ∧ flatV x = true ∧ xs.all flatV = true ∧ Q (.bl (if neg then !inV x xs else inV x xs)) H
theorem op_in_seq : OpR X (compareOp .In) (rIn X.K false) := by
 intro pins s σ H x y v u Q I rx ry h
 obtain ⟨p, xs, rfl, hq, fx, fs, q⟩ := h
 cases ry
 rcases hq with hq | hq
 ·
  obtain ⟨its, r, pl, hz⟩ := I.list hq
  refine SeqAt.in_listAt (eqU x) pl.isList (fun w hw => mem_eqAt rx fx r fs w (by simpa using hw)) ⟨.bl _, H, I, rfl, ?_⟩
  rw [show its.toArray.any (eqU x) = its.any (eqU x) by simp, any_eqU r fs]
  exact q
 ·
  obtain ⟨its, r, pl, hz⟩ := I.tuple hq
  refine SeqAt.in_tupleAt (eqU x) pl (fun w hw => mem_eqAt rx fx r fs w (by simpa using hw)) ⟨.bl _, H, I, rfl, ?_⟩
  rw [show its.toArray.any (eqU x) = its.any (eqU x) by simp, any_eqU r fs]
  exact q
theorem op_notIn_seq : OpR X (compareOp .NotIn) (rIn X.K true) := by
 intro pins s σ H x y v u Q I rx ry h
 obtain ⟨p, xs, rfl, hq, fx, fs, q⟩ := h
 cases ry
 rcases hq with hq | hq
 ·
  obtain ⟨its, r, pl, hz⟩ := I.list hq
  refine SeqAt.notIn_listAt (eqU x) pl.isList (fun w hw => mem_eqAt rx fx r fs w (by simpa using hw)) ⟨.bl _, H, I, rfl, ?_⟩
  rw [show its.toArray.any (eqU x) = its.any (eqU x) by simp, any_eqU r fs]
  exact q
 ·
  obtain ⟨its, r, pl, hz⟩ := I.tuple hq
  refine SeqAt.notIn_tupleAt (eqU x) pl (fun w hw => mem_eqAt rx fx r fs w (by simpa using hw)) ⟨.bl _, H, I, rfl, ?_⟩
  rw [show its.toArray.any (eqU x) = its.any (eqU x) by simp, any_eqU r fs]
  exact q
theorem call_len_seq : CallR X (.builtin "len") (fun xs H Q => ∃ p ys, xs = [.ref p] ∧ (SqL X.K H p ys ∨ SqT X.K H p ys) ∧ Q (.int ys.length) H) := by
 intro pins s σ H xs us Q I r h
 obtain ⟨p, ys, rfl, hq, q⟩ := h
 obtain ⟨u, rfl, rx⟩ := vals1 r
 cases rx
 have hn := line63
 rcases hq with hq | hq
 ·
  obtain ⟨its, r', pl, hz⟩ := I.list hq
  have hlen := r'.length
  exact Calls.call_len_list pl.isList (by simp only [List.size_toArray] <;> omega) ⟨.int ys.length, H, I.tok _, ⟨s.toks + 1, by rw [List.size_toArray, hlen]⟩, q⟩
 ·
  obtain ⟨its, r', pl, hz⟩ := I.tuple hq
  have hlen := r'.length
  exact len_tuple pl (by simp only [List.size_toArray] <;> omega) ⟨.int ys.length, H, I.tok _, ⟨s.toks + 1, by rw [List.size_toArray, hlen]⟩, q⟩
theorem call_len_str : CallR X (.builtin "len") (fun xs H Q => ∃ z, xs = [.str z] ∧ z.length ≤ sizeLine ∧ Q (.int z.length) H) := by
 intro pins s σ H xs us Q I r h
 obtain ⟨z, rfl, hz, q⟩ := h
 obtain ⟨u, rfl, t, rfl⟩ := vals1 r
 have hn := line63
 exact len_str (by omega) ⟨.int z.length, H, I.tok _, ⟨_, rfl⟩, q⟩
theorem CallR.or {f : Value} {r r' : List V → Hp → VK → Prop} (h : CallR X f r) (h' : CallR X f r') : CallR X f (fun xs H Q => r xs H Q ∨ r' xs H Q) := by
 intro pins s σ H xs us Q I rs q
 rcases q with q | q
 · exact h pins s σ H xs us Q I rs q
 · exact h' pins s σ H xs us Q I rs q
theorem call_tuple_of : CallR X (.type "tuple") (fun xs H Q => ∃ p ys, xs = [.ref p] ∧ ((SqL X.K H p ys ∧ ∀ l, H l = none → Q (.ref l) (upd H l (.tup ys))) ∨ (SqT X.K H p ys ∧ Q (.ref p) H))) := by
 intro pins s σ H xs us Q I r h
 obtain ⟨p, ys, rfl, h⟩ := h
 obtain ⟨u, rfl, rx⟩ := vals1 r
 cases rx
 rcases h with ⟨hq, q⟩ | ⟨hq, q⟩
 ·
  obtain ⟨its, r', pl, hz⟩ := I.list hq
  have hlen := r'.length
  refine call_tuple_list pl.isList (fun h' kp => ?_) (by simp only [List.size_toArray] <;> omega)
  have I1 : Inv X pins σ H { s with heap := h' } := I.kept (t' := s.toks) kp
  have I2 : Inv X pins σ (upd H h'.objs.size (.tup ys)) { s with heap := h'.push { cls := .type "tuple", data := .seq its.toArray } } :=
   I1.laid (t' := s.toks) (fun b o e => Heap.get?_push_of_some _ e) (Nat.le_refl _) (show ObjOk X.prog X.w _ _ _ (.tup ys) from ⟨hz, its, r', IsTup.new _ _⟩)
  exact ⟨.ref h'.objs.size, _, I2, rfl, q _ (I1.hok.fresh (Nat.le_refl _))⟩
 ·
  obtain ⟨its, r', pl, hz⟩ := I.tuple hq
  exact call_tuple_same pl ⟨.ref p, H, I, rfl, q⟩
def tyV (K : W.Frag) (T : String) (x : V) (H : Hp) : Prop := match x with
 | .str _ => T = "str"
 | .int _ => T = "int"
 | .ref p => (T = "list" ∧ ∃ xs, SqL K H p xs) ∨ (T = "tuple" ∧ ∃ o, K.lookup p = some o ∧ o.cls = .type "tuple" ∧ o.dict = none) ∨
  (T = "dict" ∧ ((∃ kvs, H p = some (.dK kvs)) ∨ ∃ kvs, H p = some (.dT kvs))) ∨ (T = "set" ∧ ∃ S n, H p = some (.set S n))
 | _ => False
theorem tyV_is {pins : List (Addr × Obj)} {σ : St} {H : Hp} {s : Shared} {T : String} {x : V} {v : Value} (I : Inv X pins σ H s) (r : RelV x v) (ty : tyV X.K T x H) :
  s.TypeIs v T ∧ ∀ a, v = .ref a → ∃ ob, s.heap.get? a = some ob ∧ ob.dict = none := by
 cases x with
 |
  str z =>
  obtain ⟨t, rfl⟩ := r
  cases (show T = "str" from ty)
  exact ⟨typeIs_str s z t, fun _ e => nomatch e⟩
 |
  int i =>
  obtain ⟨t, rfl⟩ := r
  cases (show T = "int" from ty)
  exact ⟨typeIs_int s i t, fun _ e => nomatch e⟩
 |
  ref p =>
  cases r
  rcases ty with ⟨rfl, xs, hq⟩ | ⟨rfl, o, hk, hc, hd⟩ | ⟨rfl, hk⟩ | ⟨rfl, S, n, hk⟩
  ·
   obtain ⟨its, _, pl, _⟩ := I.list hq
   refine ⟨pl.isList.typeIs, fun a e => ?_⟩
   cases e
   obtain ⟨o, n, e, c, hd, _⟩ := pl
   exact ⟨o, e, hd⟩
  ·
   refine ⟨⟨o, I.kIn p o hk, hc⟩, fun a e => ?_⟩
   cases e
   exact ⟨o, I.kIn _ o hk, hd⟩
  ·
   have z : ∃ o, s.heap.get? p = some o ∧ o.ExactDict := by
    rcases hk with ⟨kvs, hk⟩ | ⟨kvs, hk⟩
    ·
     obtain ⟨_, _, _, _, o, _, _, e, ex, _⟩ := I.hok p _ hk
     exact ⟨o, e, ex⟩
    ·
     obtain ⟨_, _, _, _, o, _, _, e, ex, _⟩ := I.hok p _ hk
     exact ⟨o, e, ex⟩
   obtain ⟨o, e, ex⟩ := z
   refine ⟨⟨o, e, ex.1⟩, fun a e2 => ?_⟩
   cases e2
   exact ⟨o, e, ex.2.1⟩
  ·
   obtain ⟨o, _, _, _, e, ex, _⟩ := I.hok p _ hk
   refine ⟨⟨o, e, ex.1⟩, fun a e2 => ?_⟩
   cases e2
   exact ⟨o, e, ex.2.1⟩
 | _ => exact False.elim ty
def tBM (K : W.Frag) (T : String) (r : V → List V → Hp → VK → Prop) (to : TE) (t : TA) : TE := fun σ H Q => to σ H fun x H1 => tyV K T x H1 ∧ t σ H1 fun xs H2 => r x xs H2 Q
variable {o e : Expr} {es : List Expr} {to : TE} {t : TA} {name : Str} {apos cpos : Pos} {T id : String} {r : V → List V → Hp → VK → Prop}
theorem pe_bm (pa : PlainAttrs T) (slot : Slot T name id) (hty : typeOf (.builtin id) = pure (.type "method_descriptor")) (hm : MtR X id r) (ho : PE X o to) (ha : PA X (e :: es) t)
  (hbase : attributeBase o name X.env (eval o X.env) = eval o X.env := by rfl)
  (hfew : ((backTo cpos (starEach (e :: es) X.env)).all (fun x => !x.1) && (backToKw cpos (keywordEach [] X.env)).all (fun x => x.1.isSome)
   && decide ((e :: es).length + ([] : List Keyword).length + (if ([] : List Keyword).isEmpty then 0 else 1) < 30)) = true := by rfl)
  (hline : (apos.endLine == cpos.line) = true := by rfl) (hs : starEach (e :: es) X.env = (false, eval e X.env) :: starEach es X.env := by rfl) (hplain : (backTo cpos (starEach es X.env)).any (·.1) = false := by rfl) :
  PE X (.Call (.Attribute o name apos) (e :: es) [] cpos) (tBM X.K T r to t) := by
 intro pins s σ H Q I h
 refine wpAny_Call_method_late hbase hfew hline rfl (thn (ho pins s σ H _ I h) fun v s1 ⟨x, H1, I1, r1, ty, q1⟩ => ?_)
 obtain ⟨h1, h2⟩ := tyV_is I1 r1 ty
 refine ⟨T, id, pa, slot, hty, h1, h2, ?_⟩
 have hA := ha cpos pins s1 σ H1 _ I1 q1
 rw [hs] at hA ⊢
 refine Calls.callWith_builtin (by show (false || (backTo cpos (starEach es X.env)).any (·.1)) = false; rw [hplain] <;> rfl) (Calls.evalArgs_plain ?_)
 exact thn hA fun us s2 ⟨vs, H2, I2, r2, q2⟩ => hm pins s2 σ H2 x vs v us Q I2 r1 r2 q2
end
end L2
namespace L2
open PySem PySem.Spec PyProof.Rows
def MtM (X : Cx) (id : String) (r : V → List V → Hp → VK → Prop) : Prop :=
 ∀ (pins : List (Addr × Obj)) (s : Shared) (σ : St) (H : Hp) (x : V) (xs : List V) (v : Value) (us : List Value) (Q : VK), Inv X pins σ H s → RelV x v → Vals xs us → r x xs H Q →
  wpAny (model X.prog X.w) X.A (call (.builtin id) (v :: us)) (EP X pins σ Q) X.xe s
theorem Vals.one : ∀ {x : V} {us : List Value}, Vals [x] us → ∃ u, us = [u] ∧ RelV x u
 | _, _, .cons r .nil => ⟨_, rfl, r⟩
theorem Vals.two : ∀ {x y : V} {us : List Value}, Vals [x, y] us → ∃ u v, us = [u, v] ∧ RelV x u ∧ RelV y v
 | _, _, _, .cons r (.cons q .nil) => ⟨_, _, rfl, r, q⟩
theorem Vals.zero : ∀ {us : List Value}, Vals [] us → us = []
 | _, .nil => rfl
theorem Vals.reverse {xs : List V} {us : List Value} (h : Vals xs us) : Vals xs.reverse us.reverse := by
 induction h with
 | nil => exact .nil
 | cons r t ih => rw [List.reverse_cons, List.reverse_cons]; exact Vals.append ih (.cons r .nil)
section
variable {X : Cx} {pins : List (Addr × Obj)} {σ : St} {H : Hp} {s : Shared} {l b : Addr} {xs ys zs : List V}
theorem Inv.lset {its its' : List Value} {n : Nat} {f : Array Value → Array Value} {t' : Nat} (I : Inv X pins σ H s) (hH : H l = some (.lst xs))
  (e : s.heap.get? l = some { cls := .type "list", data := .seq its.toArray n }) (hf : f its.toArray = its'.toArray) (hv : Vals ys its') (hz : ys.length ≤ sizeLine) :
  Inv X pins σ (upd H l (.lst ys)) { s with heap := s.heap.update l (Obj.mapSeq f), toks := t' } := by
 have q := PySem.IsL.update e f
 rw [hf] at q
 refine I.write (x := l) (e := l) (by rw [hH]; exact trivial) (.inl rfl) (fun b' u hb hu => (Heap.get?_update_other s.heap (Obj.mapSeq f) (Ne.symm hb)).trans hu) ⟨_, q⟩ ?_
 exact ⟨hz, its', _, hv, q⟩
theorem Inv.lnew {its : List Value} {t' : Nat} (I : Inv X pins σ H s) (hv : Vals ys its) (hz : ys.length ≤ sizeLine) :
  Inv X pins σ (upd H s.heap.objs.size (.lst ys)) { s with heap := s.heap.push { cls := .type "list", data := .seq its.toArray }, toks := t' } :=
 I.laid (fun _ _ q => Heap.get?_push_of_some _ q) (Nat.le_refl _) ⟨hz, its, 0, hv, Heap.get?_push_size _ rfl⟩
theorem Inv.fresh (I : Inv X pins σ H s) : H s.heap.objs.size = none := I.hok.fresh (Nat.le_refl _)
theorem Inv.lstM (I : Inv X pins σ H s) (hH : H l = some (.lst xs)) : xs.length ≤ sizeLine ∧ ∃ (its : List Value) (n : Nat), Vals xs its ∧ xs.length = its.length ∧ s.heap.get? l = some { cls := .type "list", data := .seq its.toArray n } := by
 obtain ⟨z, its, n, r, e⟩ := I.hok l _ hH
 exact ⟨z, its, n, r, r.length, e⟩
end
section
variable {X : Cx}
def rAppend : V → List V → Hp → VK → Prop := fun x vs H Q => ∃ l xs y, x = .ref l ∧ vs = [y] ∧ H l = some (.lst xs) ∧ xs.length < sizeLine ∧ Q .non (upd H l (.lst (xs ++ [y])))
theorem mt_append : MtM X "list.append" rAppend := by
 intro pins s σ H x vs v us Q I rx rv h
 obtain ⟨l, xs, y, rfl, rfl, hH, hz, q⟩ := h
 cases rx
 obtain ⟨u, rfl, ru⟩ := rv.one
 obtain ⟨z, its, n, r, hl, e⟩ := I.lstM hH
 refine call_meets F.slot_list_append ⟨_, e, rfl⟩ F.entry_list_append (F.args_list_append_2 _ _) (PySem.list_append l its.toArray n u (by rw [List.size_toArray]; omega)) ⟨e, ?_⟩
 refine ⟨.non, _, I.lset (its' := its ++ [u]) hH e (by simp) (r.append (.cons ru .nil)) ?_, rfl, q⟩
 rw [List.length_append, List.length_singleton]
 omega
end
section
variable {prog : Program} {w : World} {A : Around} {E : Value → Shared → Prop} {s : Shared}
end
section
variable {X : Cx}
end
end L2
namespace Att
open PySem PySem.W PySem.Calls PyProof.Rows
theorem ints_of_wellAll {P : Params} {h : Heap} : ∀ (ns : List Int) (vs : List Value), WellAll P h vs (ns.map WData.int) → IntsAre vs ns := by
 intro ns
 induction ns with
 |
  nil =>
  intro vs w
  rw [List.map_nil] at w
  cases w
  exact .nil
 |
  cons n ns ih =>
  intro vs w
  rw [List.map_cons] at w
  cases w with
  |
   cons a b =>
   cases a
   exact .cons _ _ (ih _ b)
theorem script_of {l : OpenLaw} {n : Nat} (hn : l.most = some n) {P : Params} {h : Heap} {args : List WData} {vals : List Value}
  (hpre : l.row.toRowW.claim.pre args = true) (hwl : WellAll P h vals args) :
  ∃ a vs ns, vals = [Value.ref a] ∧ args = [WData.list (ns.map WData.int)] ∧ h.get? a = some { cls := .type "list", data := .seq vs.toArray } ∧ IntsAre vs ns ∧ ns.length ≤ n := by
 have hsh : WShape.hasAll [] args [.list .int] = true := (pre_splitW hpre).1
 have hc : l.pre.holds [] { args := args } = true := (pre_splitW hpre).2
 obtain ⟨d, r, rfl, h1, h2⟩ := hasAllW_cons hsh
 obtain rfl := hasAllW_nil h2
 obtain ⟨xs, rfl, h3⟩ := hasW_list h1
 obtain ⟨ns, rfl⟩ := items_int h3
 have hlen : ns.length ≤ n := by
  unfold OpenLaw.pre at hc
  have h4 : (WTm.not (.lt (.lit (.int (n : Int))) (.len (.arg 0)))).holds [] { args := [.list (ns.map .int)] } = true := by
   have h4 := (holds_andW hc).1
   rw [hn] at h4
   exact h4
  have h5 := condW_of h4 (w_not (w_lt w_lit (w_len_list (w_arg rfl))))
  rw [List.length_map] at h5
  refine Nat.le_of_not_lt fun q => ?_
  have q' : (n : Int) < ((ns.length : Nat) : Int) := by omega
  first
   | (rw [decide_eq_true q'] at h5; exact absurd h5 (by decide))
   | (simp at h5; omega)
 cases hwl with
 |
  cons w1 w2 =>
  cases w2
  cases w1 with
  | list ho hall => exact ⟨_, _, ns, rfl, rfl, ho, ints_of_wellAll ns _ hall, hlen⟩
theorem post_true (l : OpenLaw) (args : List WData) : l.row.toRowW.claim.post args (.bool true) args = true :=
 postW_of (r := l.row.toRowW) (X := (true == true))
  (show WShape.has [] (.bool true) .bool = true by first | rfl | decide | simp [WShape.has, WShape.arms, WShape.armsAll])
  (show (WTm.eq .res (.lit (.bool true))).value [] { args := args, res := some (.bool true), after := args } = some (.bool (true == true)) from w_eq_bool (w_res rfl) w_lit) rfl
theorem attach_call {l : OpenLaw} {n : Nat} {q : Program} {loose : List Str} {XP : (Str → Option Value) → Heap → Prop} {YP : World → Heap → Prop} {d : DefRec}
  (hn : l.most = some n) (hdf : d.params.defaults = [])
  (call : ∀ (w : World) (s₀ s₁ : Shared) (mg mb : Str → Option Value) (fa : Addr) (o : Obj) (pm cd doc : Value) (a : Addr) (vs : List Value) (ns : List Int),
   Ground q loose [] XP w s₀ mg mb s₁.heap → YP w s₁.heap →
   s₁.heap.get? fa = some o → o.data = .func (docDef d.name d.params d.body d.scope pm cd doc) → s₁.heap.CodeRec cd d.name → mg d.name = some (.ref fa) →
   s₁.heap.get? a = some { cls := .type "list", data := .seq vs.toArray } → IntsAre vs ns → ns.length ≤ n → s₁.gens = #[] →
   codeAny (model l.prog w) callerA (.call (.ref fa) ⟨[.ref a], []⟩) (fun r s' => r = .ok (.ret (.bool true)) ∧ OldK s₁.heap s'.heap ∧ s'.os = s₁.os ∧ AllBare s'.gens) s₁) :
  WalkO q loose XP YP l.row.toRowW d [] (fun f vs => PySem.call f vs) := by
 intro w s₀ s₁ mg mb G Y fa o pm cd doc dV kV ho hd hcd hD hmg hg args vals as hpre hlay hrd hwl hlo
 obtain rfl : dV = .none := Dflts.none hD hdf
 obtain rfl : kV = .none := Dflts.noKw hD
 obtain ⟨a, vs, ns, rfl, rfl, hobj, hints, hlen⟩ := script_of hn hpre hwl
 refine enter_call (codeAny_mono (call w s₀ s₁ mg mb fa o pm cd doc a vs ns G Y ho (fd_plain hd) hcd hmg hobj hints hlen hg) fun r s' hq => ?_)
 obtain ⟨rfl, h2, h3, h4⟩ := hq
 exact ⟨.inl ⟨.bool true, .bool true, [], rfl, fun _ => rfl, .bool true, post_true l _, fun _ => ⟨List.Pairwise.nil, fun _ hm => (nomatch hm)⟩⟩, h2, h3, h4⟩
section
variable {prog : Program} {w : World} {A : Around} {E : Value → Shared → Prop} {s : Shared} {K : Frag}
def ledger (h : Heap) (L d : Addr) : List (Addr × Obj) := (List.range h.objs.size).filterMap fun a => if a = L ∨ a = d then none else (h.get? a).map fun o => (a, o)
end
end Att
namespace L2
open PySem PySem.Spec PyProof.Rows
theorem vals_ints : ∀ {vs : List Value} {ns : List Int}, IntsAre vs ns → Vals (ns.map V.int) vs
 | _, _, .nil => .nil
 | _, _, .cons n t h => .cons ⟨t, rfl⟩ (vals_ints h)
def Only (H : Hp) : Prop := ∀ b, H b = none ∨ ∃ o xs, H b = some (.frz o (.lst xs))
theorem law_call {cm : Bool} {P : Program} {w : World} {K : W.Frag} {mg mb : Str → Option Value} {CX : CXT} {k : Nat} {fa a : Addr} {fd : FuncData} {x : Str} {sp : Sp} {s₁ : Shared} {vs : List Value} {ns : List Int}
  (KX : K.In s₁.heap) (hns : s₁.heap.Ns mainGlobals mg) (hb : s₁.heap.Ns builtinsNs mb) (hbb : ∀ x : Str, x ≠ "__name__" → mb x = bootBuiltins x) (hlim : s₁.heap.NoLimit) (hg : s₁.gens = #[])
  (ha : s₁.heap.get? a = some { cls := .type "list", data := .seq vs.toArray }) (hi : IntsAre vs ns) (hl : ns.length ≤ sizeLine) (hr : Room cm k callerA)
  (F : ∀ base : Heap, K.In base → base.Ns mainGlobals mg → FnOk P w K mg base CX cm k fa fd [x] sp) (hbind : ∀ (s : Shared) (u : Value), BindsTo s fd ⟨[u], []⟩ [(x, u)])
  (hsp : ∀ H : Hp, Only H → SqL K H a (ns.map V.int) → sp [.ref a] H (fun v _ => v = .bl true) fun _ _ _ => False)
  (hCX : ∀ H e s', CX [] H s₁ (fun _ _ _ => False) e s' → False) :
  codeAny (model P w) callerA (.call (.ref fa) ⟨[.ref a], []⟩) (fun r s' => r = .ok (.ret (.bool true)) ∧ OldK s₁.heap s'.heap ∧ s'.os = s₁.os ∧ AllBare s'.gens) s₁ := by
 have rv := vals_ints hi
 have lenV := hi.length
 -- from an abstract heap in which nothing but the script may be tracked
 have core : ∀ H : Hp, Only H → SqL K H a (ns.map V.int) → HOk P w H s₁.heap → (∀ b, H b ≠ none → b = a) → (H a ≠ none → K.lookup a = none) →
   codeAny (model P w) callerA (.call (.ref fa) ⟨[.ref a], []⟩) (fun r s' => r = .ok (.ret (.bool true)) ∧ OldK s₁.heap s'.heap ∧ s'.os = s₁.os ∧ AllBare s'.gens) s₁ := by
  intro H hO hS hok hA hK
  have base_of : ∀ {b : Addr} {o : Obj}, s₁.heap.get? b = some o → H b = none → (hidT s₁.heap H).get? b = some o := fun e n => hidT_get e n
  have noA : ∀ {b : Addr} {o : Obj} {es : Array DictEntry} {ep : Nat}, s₁.heap.get? b = some o → o.data = .dict es ep → H b = none := fun {b o es ep} e d => by
   cases q : H b with
   | none => rfl
   |
    some u =>
    have e' : b = a := hA b (by rw [q]; simp)
    subst e'
    rw [ha] at e; cases e
    have d' : Data.seq vs.toArray _ = Data.dict es ep := d
    cases d'
  have nsK : ∀ {b : Addr} {m : Str → Option Value}, s₁.heap.Ns b m → (hidT s₁.heap H).Ns b m := fun {b m} ⟨o, es, ep, e, d, r⟩ => ⟨o, es, ep, base_of e (noA e d), d, r⟩
  have hKb : K.In (hidT s₁.heap H) := fun b o e => base_of (KX b o e) (by
   cases q : H b with
   | none => rfl
   |
    some u =>
    have e' : b = a := hA b (by rw [q]; simp)
    subst e'
    rw [hK (by rw [q]; simp)] at e; cases e)
  have hM : Mod K mg (hidT s₁.heap H) := ⟨hKb, nsK hns, ⟨mb, nsK hb, hbb⟩, let ⟨mc, h1, h2⟩ := hlim; ⟨mc, nsK h1, h2⟩⟩
  have e0 : Env0 P w K mg (hidT s₁.heap H) callerA [] s₁ H := ⟨rfl, hM, fun b o e => of_hidT e, Nat.le_of_eq (hidT_size _ _), trivial, fun b hb => absurd (show b ∈ ([] : List Addr) from hb) (by simp), hok, .of_eq hg⟩
  refine codeAny_mono ((F _ hKb (nsK hns)).run callerA [] s₁ H ⟨[.ref a], []⟩ [.ref a] [.ref a] _ _ hr e0 (hbind s₁ (.ref a)) (.cons rfl .nil) (hsp H hO hS)) fun r s' h => ?_
  cases r with
  | error e => exact (hCX H e s' h).elim
  |
   ok fl =>
   cases fl with
   | next => exact False.elim h
   | brk => exact False.elim h
   | cont => exact False.elim h
   |
    ret u =>
    obtain ⟨v, H', os, bare, un, hok', r', q⟩ := h
    have q' : v = .bl true := q
    subst q'
    obtain rfl : u = Value.bool true := r'
    refine ⟨rfl, OldK.of_keep fun b o e => ?_, os, bare⟩
    cases q : H b with
    | none => exact un.keep b o e q (by intro z; exact absurd (show b ∈ ([] : List Addr) from z) (by simp)) (by simp)
    |
     some u =>
     rcases hO b with z | ⟨ob, xs, z⟩
     · rw [q] at z; cases z
     ·
      have z2 := un.frzs b ob _ z
      obtain ⟨e1, _⟩ := hok b _ z
      obtain ⟨e2, _⟩ := hok' b _ z2
      rw [e] at e1; cases e1
      exact e2
 cases hk : K.lookup a with
 |
  some o =>
  -- the script is one of the module's own objects
  have e := KX a o hk
  rw [ha] at e
  cases e
  refine core (fun _ => none) (fun _ => .inl rfl) (.inr ⟨_, vs.toArray, _, hk, rfl, rfl, rfl, by rw [List.size_toArray, lenV]; exact hl, by simpa using rv⟩) (fun b u z => by have z' : (none : Option HO) = some u := z; cases z') (fun b z => absurd rfl z) fun z => absurd rfl z
 |
  none =>
  refine core (fun b => if b = a then some (.frz { cls := .type "list", data := .seq vs.toArray } (.lst (ns.map V.int))) else none) (fun b => ?_) (.inl (.inr ⟨{ cls := .type "list", data := .seq vs.toArray }, if_pos rfl⟩)) (fun b u z => ?_) (fun b z => ?_) fun _ => hk
  ·
   by_cases hb : b = a
   · exact .inr ⟨_, _, if_pos hb⟩
   · exact .inl (if_neg hb)
  ·
   by_cases hb : b = a
   ·
    have z' := (if_pos hb).symm.trans z
    cases z'
    subst hb
    exact ⟨ha, by rw [List.length_map]; exact hl, vs, _, rv, ha⟩
   ·
    have z' := (if_neg hb).symm.trans z
    cases z'
  ·
   by_cases hb : b = a
   · exact hb
   · exact absurd (if_neg hb) z
end L2
namespace L2
open PySem PySem.Spec PyProof.Rows
abbrev KOf {K : W.Frag} {h : Heap} (_ : K.In h) : W.Frag := K
theorem walk_of {cm : Bool} {l : W.OpenLaw} {n k : Nat} {q : Program} {loose : List Str} {XP : (Str → Option Value) → Heap → Prop} {YP : World → Heap → Prop} {d : DefRec} {K : Params → W.Frag} {CX : World → CXT} {sp : World → Sp} {x : Str}
  (hn : l.most = some n) (hn2 : n ≤ sizeLine) (hdf : d.params.defaults = []) (hr : Room cm k callerA)
  (hY : ∀ (w : World) (h : Heap), YP w h → (K w.params).In h)
  (F : ∀ (w : World) (mg : Str → Option Value) (fa : Addr) (h : Heap), (K w.params).In h → h.Ns mainGlobals mg → mg d.name = some (.ref fa) →
   ∃ fd : FuncData, (∀ (s : Shared) (u : Value), BindsTo s fd ⟨[u], []⟩ [(x, u)]) ∧
    ∀ base : Heap, (K w.params).In base → base.Ns mainGlobals mg → FnOk l.prog w (K w.params) mg base (CX w) cm k fa fd [x] (sp w))
  (hsp : ∀ (w : World) (H : Hp) (a : Addr) (ns : List Int), ns.length ≤ n → Only H → SqL (K w.params) H a (ns.map V.int) → sp w [.ref a] H (fun v _ => v = .bl true) fun _ _ _ => False)
  (hCX : ∀ (w : World) (H : Hp) (s : Shared) (e : Value) (s' : Shared), CX w [] H s (fun _ _ _ => False) e s' → False) :
  W.WalkO q loose XP YP l.row.toRowW d [] (fun f vs => PySem.call f vs) := by
 refine Att.attach_call hn hdf fun w s₀ s₁ mg mb fa o pm cd doc a vs ns G Y ho hd hcd hmg hobj hints hlen hg => ?_
 have KX := hY w _ Y
 obtain ⟨fd, hb, hF⟩ := F w mg fa _ KX G.T.g hmg
 exact law_call KX G.T.g G.T.b G.T.builtins G.T.nolimit hg hobj hints (Nat.le_trans hlen hn2) hr hF hb (fun H hO hS => hsp w H a ns hlen hO hS) fun H e s' => hCX w H s₁ e s'
end L2
namespace L2
open PySem PySem.Spec PyProof.Rows
def inClass (s : Stmt) (j : Nat) : Stmt := match s with
 | .ClassDef _ _ _ body _ _ _ _ _ _ _ => body.getD j (.Pass ⟨0, 0, 0, 0⟩)
 | _ => .Pass ⟨0, 0, 0, 0⟩
def defArgs (s : Stmt) : Arguments := match s with
 | .FunctionDef _ a _ _ _ _ _ _ _ _ => a
 | _ => { posonlyargs := [], args := [], vararg := none, kwonlyargs := [], kw_defaults := [], kwarg := none, defaults := [] }
def defBody (s : Stmt) : List Stmt := match s with
 | .FunctionDef _ _ b _ _ _ _ _ _ _ => b
 | _ => []
def defScope (s : Stmt) : Scope := match s with
 | .FunctionDef _ _ _ _ _ _ sc _ _ _ => sc
 | _ => { kind := .function, names := [], isGenerator := false, isCoroutine := false }
abbrev CX0 : CXT := fun _ _ _ _ _ _ => False
abbrev E0 : XK := fun _ _ _ => False
theorem pass0 {X : Cx} : Passes CX0 X E0 := fun _ _ _ _ _ _ _ h => h.elim
structure Fun (K : W.Frag) (x qual : Str) (st : Stmt) (f : Addr) (fd : FuncData) : Prop where
 ex : ∃ (oc : Value) (od : Option Addr) (kV doc pm : Value) (an : Option Addr) (cdv ct : Value) (osl : Array (Option Value)),
  fd = W.fnOf x qual (defArgs st) (defBody st) (defScope st) .none kV doc pm an cdv ct ∧ K.lookup f = some ⟨oc, od, .func fd, osl⟩ ∧ W.codeIn K cdv qual = true
 kp : W.keepIn K (.ref f) = true
section
variable {P : Program} {w : World} {K : W.Frag} {mg : Str → Option Value} {base : Heap}
theorem Fun.ok {cm : Bool} {x qual : Str} {st : Stmt} {f : Addr} {fd : FuncData} {N ps : List Str} {k : Nat} {sp : Sp} (F : Fun K x qual st f fd) (S : FnScope N ps (defScope st)) (len : ∀ vs H Q E, sp vs H Q E → vs.length = ps.length)
  (hbody : ∀ (cdv : Value) (A : Around) (outer : List Env) (s : Shared) (H : Hp) (vs : List V) (Q : VK) (E : XK), Room cm k (A.deeper (envOfC qual (defScope st) s.heap.objs.size f cdv)) → sp vs H Q E →
   ∃ t, PSs (cxOf CX0 cm P w K mg base N qual (defScope st) f cdv A outer s H E).nox (defBody st) t ∧ t { nx := fun _ H' => Q .non H', rt := fun _ => Q } (start N vs) H) : FnOk P w K mg base CX0 cm (k + 1) f fd ps sp := by
 obtain ⟨oc, od, kV, doc, pm, an, cdv, ct, osl, rfl, lk, hcd⟩ := F.ex
 refine fn_of lk hcd S len fun A outer s H vs Q E hr hsp => ?_
 obtain ⟨t, h, q⟩ := hbody cdv A outer s H vs Q E hr hsp
 exact ⟨t, h.nox, q⟩
theorem Fun.binds {x qual : Str} {st : Stmt} {f : Addr} {fd : FuncData} {ps : List Str} (F : Fun K x qual st f fd)
  (h : ∀ (kV doc pm : Value) (an : Option Addr) (cdv ct : Value) (us : List Value), us.length = ps.length → bindArgs (W.fnOf x qual (defArgs st) (defBody st) (defScope st) .none kV doc pm an cdv ct) ⟨us, []⟩ = pure (ps.zip us)) : Binds K fd ps [] := by
 obtain ⟨oc, od, kV, doc, pm, an, cdv, ct, osl, rfl, lk, hcd⟩ := F.ex
 exact .all (h kV doc pm an cdv ct)
theorem fun_mk {x qual : Str} {st : Stmt} {f : Addr} {oc : Value} {od an : Option Addr} {osl : Array (Option Value)} {kV doc pm cdv ct : Value} (l : K.lookup f = some ⟨oc, od, .func (W.fnOf x qual (defArgs st) (defBody st) (defScope st) .none kV doc pm an cdv ct), osl⟩)
 (c : W.codeIn K cdv qual = true) (k : W.keepIn K (.ref f) = true) : Fun K x qual st f (W.fnOf x qual (defArgs st) (defBody st) (defScope st) .none kV doc pm an cdv ct) := ⟨⟨oc, od, kV, doc, pm, an, cdv, ct, osl, rfl, l, c⟩, k⟩
end
theorem hu_of {cm : Bool} {A : Around} {k : Nat} (hr : Room cm k A) : A.units + 1 < cLine := Nat.lt_of_le_of_lt (Nat.add_le_add_left (by decide : 1 ≤ 64) _) hr.units
section
variable {X : Cx}
theorem pv (i : Nat) {x : Str} {pos : Pos} (hN : X.N[i]? = some x := by rfl) (hv : Vis X.env.scope x := by first | exact Or.inl rfl | exact Or.inr (Or.inl rfl) | exact Or.inr (Or.inr rfl)) (hd : (x == ("__debug__" : Str)) = false := by decide)
 (hcd : (x == ("__classdict__" : Str)) = false := by decide) : PE X (.Name x pos) (tVar i) := pe_var hN hv hd hcd
end
theorem iteF {A B : Prop} (h : B) : if false = true then A else B := by
 rw [if_neg Bool.false_ne_true]
 exact h
theorem iteT {A B : Prop} (h : A) : if true = true then A else B := by
 rw [if_pos rfl]
 exact h
theorem ite2 {c A B : Prop} [Decidable c] (h1 : c → A) (h2 : ¬ c → B) : if c then A else B := by
 by_cases h : c
 ·
  rw [if_pos h]
  exact h1 h
 ·
  rw [if_neg h]
  exact h2 h
theorem iteNS {c A B : Prop} [Decidable c] (hc : c) (h : B) : if (!decide c) = true then A else B := by
 rw [decide_eq_true hc]
 exact iteF h
def Same (H H' : Hp) : Prop := ∀ b o, H b = some o → H' b = some o
theorem Same.refl (H : Hp) : Same H H := fun _ _ h => h
theorem Same.trans {H H1 H2 : Hp} (a : Same H H1) (b : Same H1 H2) : Same H H2 := fun c o h => b c o (a c o h)
theorem Same.free {H H' : Hp} (e : Same H H') {l : Addr} (h : H' l = Option.none) : H l = Option.none := by
 cases q : H l with
 | none => rfl
 |
  some o =>
  rw [e l o q] at h
  cases h
theorem Same.seq {K : W.Frag} {H H' : Hp} {a : Addr} {xs : List V} (e : Same H H') (h : SqL K H a xs) : SqL K H' a xs := by
 rcases h with (h | ⟨o, h⟩) | h
 · exact .inl (.inl (e _ _ h))
 · exact .inl (.inr ⟨o, e _ _ h⟩)
 · exact .inr h
end L2
namespace L2
open PySem PySem.Spec PyProof.Rows
def clOf (env : Env) : List (Str × NameKind) → List (Str × Addr) → List (Str × Addr)
 | [], acc => acc
 | (n, k) :: r, acc => if k == .free then clOf env r ((n, (env.cells.lookup n).getD 0) :: acc) else clOf env r acc
theorem clOf_old {env : Env} {x : Str} {c : Addr} : ∀ {ns : List (Str × NameKind)} {acc : List (Str × Addr)}, (∃ c, acc.lookup x = some c) → ∃ c, (clOf env ns acc).lookup x = some c
 | [], _, h => h
 |
  (n, k) :: r, acc, h => by
  unfold clOf
  split
  ·
   refine clOf_old (c := c) ?_
   obtain ⟨c', e⟩ := h
   rw [List.lookup_cons]
   cases q : x == n
   · exact ⟨c', e⟩
   · exact ⟨_, rfl⟩
  · exact clOf_old (c := c) h
theorem clOf_has {env : Env} {x : Str} : ∀ {ns : List (Str × NameKind)} {acc : List (Str × Addr)}, (x, NameKind.free) ∈ ns → ∃ c, (clOf env ns acc).lookup x = some c
 |
  (n, k) :: r, acc, h => by
  unfold clOf
  rcases List.mem_cons.mp h with e | h
  ·
   cases e
   rw [if_pos (by rfl)]
   exact clOf_old (c := 0) ⟨_, by rw [List.lookup_cons, beq_self_eq_true]⟩
  ·
   split
   · exact clOf_has h
   · exact clOf_has h
theorem clOf_of {env : Env} {x : Str} {c : Addr} : ∀ {ns : List (Str × NameKind)} {acc : List (Str × Addr)}, (∀ y ∈ ns, y.2 = .free → ∃ d, env.cells.lookup y.1 = some d) → (∀ y d, acc.lookup y = some d → env.cells.lookup y = some d) →
  (clOf env ns acc).lookup x = some c → env.cells.lookup x = some c
 | [], _, _, ha, h => ha _ _ h
 |
  (n, k) :: r, acc, hn, ha, h => by
  unfold clOf at h
  have hr : ∀ y ∈ r, y.2 = .free → ∃ d, env.cells.lookup y.1 = some d := fun y hy => hn y (List.mem_cons_of_mem _ hy)
  split at h
  ·
   rename_i hk
   have hk' : k = .free := by simpa using hk
   obtain ⟨d, hd⟩ := hn (n, k) List.mem_cons_self hk'
   refine clOf_of hr (fun y d' hy => ?_) h
   rw [List.lookup_cons] at hy
   cases q : y == n
   ·
    rw [q] at hy
    exact ha y d' hy
   ·
    rw [q] at hy
    have e : y = n := by simpa using q
    subst e
    have hd' : env.cells.lookup y = some d := hd
    rw [hd'] at hy
    rw [hd']
    exact hy
  · exact clOf_of hr ha h
theorem mem_of_lookup_str {x : Str} {k : NameKind} : ∀ {ns : List (Str × NameKind)}, ns.lookup x = some k → (x, k) ∈ ns
 |
  (n, j) :: r, h => by
  rw [List.lookup_cons] at h
  cases q : x == n
  ·
   rw [q] at h
   exact List.mem_cons_of_mem _ (mem_of_lookup_str h)
  ·
   rw [q] at h
   have e : x = n := by simpa using q
   subst e
   cases h
   exact List.mem_cons_self
def cxComp (X : Cx) (N : List Str) (scope : Scope) (C : Addr) (s : Shared) (H : Hp) (fp : List Addr) : Cx where
 prog := X.prog
 w := X.w
 K := X.K
 mg := X.mg
 base := X.base
 A := X.A
 N := N
 s₀ := s
 H₀ := H
 env := compEnvC scope (clOf X.env scope.names []) C X.env
 outer := X.stack
 stack := X.stack
 ex := fp
 fn := fun _ => false
 calm := X.calm
 pn := []
 xe := fun _ _ => False
def capOk (sc scope : Scope) (N0 : List Str) : List (Option Nat) → List Str → Bool
 | [], _ => true
 | none :: r, _ :: n => capOk sc scope N0 r n
 | some j :: r, x :: n => decide (N0[j]? = some x) && decide (scope.names.lookup x = some .free) && decide (sc.names.lookup x = some .cell) && capOk sc scope N0 r n
 | _ :: _, [] => false
theorem capOk_get {sc scope : Scope} {N0 : List Str} : ∀ {cap : List (Option Nat)} {N : List Str} {i j : Nat}, capOk sc scope N0 cap N = true → cap[i]? = some (some j) →
  ∃ x, N[i]? = some x ∧ N0[j]? = some x ∧ scope.names.lookup x = some .free ∧ sc.names.lookup x = some .cell
 | [], _, _, _, _, e => by simp at e
 | o :: _, [], _, _, h, _ => by cases o <;> simp [capOk] at h
 |
  o :: r, y :: n, 0, j, h, e => by
  simp at e
  subst e
  unfold capOk at h
  simp only [Bool.and_eq_true, decide_eq_true_eq] at h
  exact ⟨y, rfl, h.1.1.1, h.1.1.2, h.1.2⟩
 |
  o :: r, y :: n, i + 1, j, h, e => by
  have h' : capOk sc scope N0 r n = true := by
   cases o with
   | none => exact h
   |
    some k =>
    unfold capOk at h
    simp only [Bool.and_eq_true] at h
    exact h.2
  obtain ⟨x, a, b⟩ := capOk_get (i := i) (j := j) h' (by simpa using e)
  exact ⟨x, by simpa using a, b⟩
structure CompScope (sc scope : Scope) (N0 N : List Str) (cap : List (Option Nat)) : Prop where
 kind : scope.kind = .function
 cell : ∀ y ∈ scope.names, y.2 ≠ .cell
 names : ∀ y ∈ scope.names, y.2 = .local → scope.names.lookup y.1 = some .local
 free : ∀ y ∈ scope.names, y.2 = .free → sc.names.lookup y.1 = some .cell
 nd : N.Nodup
 len : cap.length = N.length
 cap : capOk sc scope N0 cap N = true
def capt (cap : List (Option Nat)) (σ : St) : St := cap.map fun o => match o with
 | none => none
 | some j => (σ[j]?).join
theorem relabel_free {scope : Scope} {env : Env} (hk : env.scope.kind = .function) (hf : ∀ y ∈ scope.names, y.2 = .free → env.kindOf y.1 = some .cell) {x : Str} (h : scope.names.lookup x = some .free) :
  (relabel scope env).names.lookup x = some .cell := by
 have all : ∀ (ns : List (Str × NameKind)), (∀ y ∈ ns, y.2 = .free → env.kindOf y.1 = some .cell) → ns.lookup x = some .free →
   (ns.map fun (n, k) => if (k == .free && env.scope.kind == .function && env.kindOf n == some .cell) then (n, NameKind.cell) else (n, k)).lookup x = some .cell := by
  intro ns
  induction ns with
  | nil => intro _ h; simp at h
  |
   cons y r ih =>
   obtain ⟨n, k⟩ := y
   intro hf h
   rw [List.map_cons]
   rw [List.lookup_cons] at h
   cases q : x == n
   ·
    rw [q] at h
    have := ih (fun y hy => hf y (List.mem_cons_of_mem _ hy)) h
    show List.lookup x ((if (k == .free && env.scope.kind == .function && env.kindOf n == some .cell) = true then (n, NameKind.cell) else (n, k)) :: _) = _
    split <;> (rw [List.lookup_cons, q]; exact this)
   ·
    rw [q] at h
    cases h
    have e := hf (n, .free) List.mem_cons_self rfl
    show List.lookup x ((if (NameKind.free == .free && env.scope.kind == .function && env.kindOf n == some .cell) = true then (n, NameKind.cell) else (n, NameKind.free)) :: _) = _
    rw [if_pos (by rw [hk, e]; rfl), List.lookup_cons, q]
 exact all scope.names hf h
theorem relabel_back {scope : Scope} {env : Env} {x : Str} (hc : ∀ y ∈ scope.names, y.2 ≠ .cell) (h : (relabel scope env).names.lookup x = some .cell ∨ (relabel scope env).names.lookup x = some .free) : (x, NameKind.free) ∈ scope.names := by
 have all : ∀ (ns : List (Str × NameKind)), (∀ y ∈ ns, y.2 ≠ .cell) →
   (∀ k, (k = NameKind.cell ∨ k = NameKind.free) → (ns.map fun (n, k) => if (k == .free && env.scope.kind == .function && env.kindOf n == some .cell) then (n, NameKind.cell) else (n, k)).lookup x = some k → (x, NameKind.free) ∈ ns) := by
  intro ns
  induction ns with
  | nil => intro _ k _ h; simp at h
  |
   cons y r ih =>
   obtain ⟨n, j⟩ := y
   intro hc k hk h
   rw [List.map_cons] at h
   have hr : ∀ y ∈ r, y.2 ≠ NameKind.cell := fun y hy => hc y (List.mem_cons_of_mem _ hy)
   change List.lookup x ((if (j == .free && env.scope.kind == .function && env.kindOf n == some .cell) = true then (n, NameKind.cell) else (n, j)) :: _) = some k at h
   split at h
   ·
    rename_i hj
    rw [Bool.and_eq_true, Bool.and_eq_true] at hj
    have hj' : j = .free := by simpa using hj.1.1
    subst hj'
    rw [List.lookup_cons] at h
    cases q : x == n
    ·
     rw [q] at h
     exact List.mem_cons_of_mem _ (ih hr k hk h)
    ·
     have e : x = n := by simpa using q
     subst e
     exact List.mem_cons_self
   ·
    rw [List.lookup_cons] at h
    cases q : x == n
    ·
     rw [q] at h
     exact List.mem_cons_of_mem _ (ih hr k hk h)
    ·
     rw [q] at h
     cases h
     have e : x = n := by simpa using q
     subst e
     rcases hk with z | z
     · exact absurd z (hc (x, j) List.mem_cons_self)
     · rw [z]; exact List.mem_cons_self
 rcases h with h | h
 · exact all scope.names hc _ (.inl rfl) h
 · exact all scope.names hc _ (.inr rfl) h
section
variable {X : Cx} {pins : List (Addr × Obj)} {σ : St} {H : Hp} {s : Shared} {h₁ : Heap} {scope : Scope} {N : List Str} {cap : List (Option Nat)} {fp : List Addr} {t' : Nat}
theorem comp_start (S : CompScope X.env.scope scope X.N N cap) (I : Inv X pins σ H s) (hf : ∀ b ∈ fp, FpOk X pins H b) (hlt : ∀ b ∈ fp, b < s.heap.objs.size)
  (hns : h₁.Ns s.heap.objs.size (fun x => ([] : List (Str × Value)).reverse.lookup x)) (keep : ∀ b o, s.heap.get? b = some o → h₁.get? b = some o) :
  Inv (cxComp X N scope s.heap.objs.size s H fp) [] (capt cap σ) H { s with heap := h₁, toks := t' } := by
 have hkf : ∀ y ∈ scope.names, y.2 = .free → X.env.kindOf y.1 = some .cell := S.free
 have hcell : ∀ y ∈ scope.names, y.2 = .free → ∃ d, X.env.cells.lookup y.1 = some d := fun y hy e => I.ok.has _ (.inl (hkf y hy e))
 have hcl : ∀ x c, (clOf X.env scope.names []).lookup x = some c → X.env.cells.lookup x = some c := fun x c h => clOf_of hcell (fun y d h => by simp at h) h
 refine ⟨⟨I.ok.mod, S.kind, I.ok.glob, I.ok.blt, Nat.le_refl _, fun x y c h1 h2 => I.ok.inj x y c (hcl x c h1) (hcl y c h2), fun x h => clOf_has (relabel_back S.cell h), (fun x c h => nomatch h), I.ok.hd, I.ok.frames, .inl rfl,
  fun b hb => ⟨Nat.ne_of_lt (hlt b hb), fun x c h => (hf b hb).2.2.2.2.1 x c (hcl x c h)⟩, I.bs, Nat.le_trans I.ok.bsz I.sz, fun b o e hb => ?_, fun b hb h => ?_, I.stack, I.stkFree⟩,
  rfl, I.bare, Un.kept keep, ⟨_, hns, fun i x v e1 e2 e3 => ?_⟩, fun x c h => ?_, I.hok.fresh (Nat.le_refl _), fun x c h => I.freeC x c (hcl x c h), fun p hp => (by simp [cxComp] at hp), I.hok.kept keep, ?_⟩
 ·
  rcases (hf b hb).2.2.2.1 with z | z
  · exact I.ok.noex b o e z
  · exact absurd (Nat.lt_of_lt_of_le (Heap.lt_size (I.ok.bs b o e).1) z) (Nat.lt_irrefl _)
 ·
  rcases List.mem_cons.mp (I.stkSub b h) with z | z
  · exact (hf b hb).2.1 z
  · exact (hf b hb).2.2.1 z
 ·
  have e2' : (capt cap σ)[i]? = some (some v) := e2
  unfold capt at e2'
  rw [List.getElem?_map] at e2'
  cases q : cap[i]? with
  | none => rw [q] at e2'; cases e2'
  |
   some o =>
   cases o with
   | none => rw [q] at e2'; cases e2'
   |
    some j =>
    rw [q] at e2'
    obtain ⟨y, n1, n2, n3, n4⟩ := capOk_get S.cap q
    have e1' : N[i]? = some x := e1
    rw [n1] at e1'
    cases e1'
    have ej : σ[j]? = some (some v) := by
     have e3 : (σ[j]?).join = some v := Option.some.inj e2'
     cases r : σ[j]? with
     | none => rw [r] at e3; cases e3
     | some o => rw [r] at e3; rw [show o = some v from e3]
    obtain ⟨m, hn, hl⟩ := I.loc
    obtain ⟨u, ru, l⟩ := hl j x v n2 ej (.inr (.inl n4))
    refine ⟨u, ru, .inr ⟨.inl (relabel_free I.ok.kind hkf n3), ?_⟩⟩
    rcases l with ⟨hk, _⟩ | ⟨_, c, hc, z⟩
    ·
     have n4' : X.env.kindOf x = some .cell := n4
     rw [n4'] at hk; cases hk
    ·
     obtain ⟨c', hc'⟩ := clOf_has (env := X.env) (acc := []) (mem_of_lookup_str n3)
     have := hcl x c' hc'
     rw [hc] at this
     cases this
     exact ⟨c, hc', z.keeps keep⟩
 ·
  obtain ⟨v, z⟩ := I.cell x c (hcl x c h)
  exact ⟨v, z.keeps keep⟩
 ·
  show (capt cap σ).length = N.length
  unfold capt
  rw [List.length_map]
  exact S.len
theorem comp_end {pins' : List (Addr × Obj)} {σ' : St} {H' : Hp} {s' : Shared} {h' : Heap} (I : Inv X pins σ H s) (hf : ∀ b ∈ fp, FpOk X pins H b) (J : Inv (cxComp X N scope s.heap.objs.size s H fp) pins' σ' H' s')
  (sb : Heap.SameBut s.heap.objs.size s'.heap h') : Inv X pins σ H' { s' with heap := h' } := by
 have I1 : Inv X pins σ H' s' := I.call' J.os J.base J.hok J.bare fun b hb => ⟨(hf b hb).2.2.2.1, (hf b hb).2.1, (hf b hb).2.2.2.2.1, (hf b hb).2.2.2.2.2⟩
 have hfree : H' s.heap.objs.size = none := J.free
 refine I1.turned (t' := s'.toks) (it := s.heap.objs.size) (fun b o hb e => (sb.2 b hb).trans e) hfree (Nat.ne_of_gt I.lt) (.inr I.sz) (fun x c h z => ?_) fun p hp z => ?_
 ·
  obtain ⟨v, q⟩ := I.cell x c h
  have := q.lt
  rw [z] at this
  exact Nat.lt_irrefl _ this
 ·
  have := Heap.lt_size (I.pin p hp).1
  rw [z] at this
  exact Nat.lt_irrefl _ this
end
def PIfs (X : Cx) (ifs : List Expr) (t : TT) : Prop :=
 ∀ (pins : List (Addr × Obj)) (s : Shared) (σ : St) (H : Hp) (Q : Bool → Hp → Prop), Inv X pins σ H s → t σ H Q →
  wpAny (model X.prog X.w) X.A (forIn ifs true fun c r => if r = true then do let ok ← isTrue c X.env (eval c X.env); pure (ForInStep.yield ok) else pure (ForInStep.yield r)) (TP X pins σ Q) X.xe s
def tYes : TT := fun _ H Q => Q true H
theorem pf_none {X : Cx} : PIfs X [] tYes := fun pins s σ H Q I h => wpAny_tests_nil ⟨H, I, h⟩
theorem pf_one {X : Cx} {c : Expr} {t : TT} (h : PT X c t) : PIfs X [c] t := fun pins s σ H Q I hq => wpAny_tests_one (h pins s σ H Q I hq)
section
variable {prog : Program} {w : World} {A : Around} {R : Result → Shared → Prop} {s : Shared}
theorem compLoop_gen {elt target iter : Expr} {ifs : List Expr} {scope : Scope} {pos : Pos} {it acc : Value} {env : Env} (I : Nat → Shared → Prop)
  (turn : ∀ n s, I n s → wpAny (model prog w) A (pyNext it) (fun r s₁ => match r with
   | none => R (.ok .next) s₁
   | some v => wpAny (model prog w) A (letOwnedTupleGo target it v) (fun _ s₀ => wpAny (model prog w) A (assign target env v) (fun _ s₂ =>
    wpAny (model prog w) A (forIn ifs true fun c r => if r = true then do let ok ← isTrue c env (eval c env); pure (ForInStep.yield ok) else pure (ForInStep.yield r)) (fun ok s₃ =>
     if ok = true then wpAny (model prog w) A (eval elt env) (fun x s₄ =>
      wpAny (model prog w) A (call (.builtin "list.append") [acc, x]) (fun _ s₅ => ∃ m, m < n ∧ I m s₅) (fun _ _ => False) s₄) (fun _ _ => False) s₃
     else ∃ m, m < n ∧ I m s₃) (fun _ _ => False) s₂) (fun _ _ => False) s₀) (fun _ _ => False) s₁) (fun _ _ => False) s)
  (n : Nat) (h : I n s) : codeAny (model prog w) A (.compLoop (.ListComp elt [⟨target, iter, ifs, 0⟩] scope pos) 0 it acc env) R s := by
 refine codeAny_loop rfl I (fun n s hI => ?_) n h
 show wpAny _ A ((compTurn (.ListComp elt [⟨target, iter, ifs, 0⟩] scope pos) 0 it acc env).onRaise (fun x => do noteFrame x env; theTreesLotGoes x)) _ _ s
 refine wpAny_noted ?_
 rw [compTurn_list]
 refine wpAny_bind (wpAny_standAt (wpAny_bind (wpAny_mono (turn n s hI) (fun r s₁ h₁ => ?_) fun _ _ h' => h'.elim)))
 cases r with
 | none => exact wpAny_pure h₁
 |
  some v =>
  refine wpAny_bind (wpAny_mono h₁ (fun _ s₀ h₀ => ?_) fun _ _ h' => h'.elim)
  refine wpAny_bind (wpAny_mono h₀ (fun _ s₂ h₂ => wpAny_bind (wpAny_mono h₂ (fun ok s₃ h₃ => ?_) fun _ _ h' => h'.elim)) fun _ _ h' => h'.elim)
  cases ok with
  | false => exact wpAny_pure ⟨rfl, h₃⟩
  |
   true =>
   exact wpAny_bind (wpAny_bind (wpAny_mono h₃ (fun x s₄ h₄ => wpAny_bind (wpAny_mono h₄ (fun _ s₅ h₅ => wpAny_pure (wpAny_pure ⟨rfl, h₅⟩)) fun _ _ h' => h'.elim)) fun _ _ h' => h'.elim))
end
def compBody (J : It) (H1 : Hp) (cap : List (Option Nat)) (g : TG) (tt : TT) (te : TE) (σ : St) (Q : VK) : Prop := ∀ D, H1 D = none →
 ∃ W : Nat → Nat → List V → St → Hp → Prop, (∃ m, W 0 m [] (capt cap σ) (upd H1 D (.lst []))) ∧ ∀ i m ys σ' H', W i m ys σ' H' → H' D = some (.lst ys) ∧
  ((
   J.stop i H' ∧ Q (.ref D) H') ∨ (J.go i H' ∧ ∀ x H2, J.yld i H' x H2 → g x σ' H2 fun σ2 H3 => tt σ2 H3 fun b H4 =>
   if b = true then te σ2 H4 fun y H5 => H5 D = some (.lst ys) ∧ ys.length < sizeLine ∧ ∃ m', m' < m ∧ W (i + 1) m' (ys ++ [y]) σ2 (upd H5 D (.lst (ys ++ [y])))
   else ∃ m', m' < m ∧ W (i + 1) m' ys σ2 H4))
def tComp (wi : TI) (cap : List (Option Nat)) (g : TG) (tt : TT) (te : TE) : TE := fun σ H Q => wi σ H fun J H1 => compBody J H1 cap g tt te σ Q
theorem pe_comp {X : Cx} {elt tgt iter : Expr} {ifs : List Expr} {scope : Scope} {pos : Pos} {N : List Str} {cap : List (Option Nat)} {wi : TI} {g : TG} {tt : TT} {te : TE}
  (S : CompScope X.env.scope scope X.N N cap) (hc : X.calm = true) (hi : PI X tgt iter wi)
  (hb : ∀ (C : Addr) (s : Shared) (H : Hp) (fp : List Addr), PG (cxComp X N scope C s H fp) tgt g ∧ PIfs (cxComp X N scope C s H fp) ifs tt ∧ PE (cxComp X N scope C s H fp) elt te)
  (hclos : closureFor scope X.env = pure (clOf X.env scope.names []) := by with_unfolding_all rfl) (hs : ∀ x, foldedSetIterable iter X.env x = pure x := by intro _; rfl) :
  PE X (.ListComp elt [⟨tgt, iter, ifs, 0⟩] scope pos) (tComp wi cap g tt te) := by
 intro pins s σ H Q I h
 rw [eval_ListComp]
 refine wpAny_comprehension_free (use := none) (cl := clOf X.env scope.names []) rfl hs hclos S.kind S.names ?_
 refine thn (hi pins s σ H _ I h) fun v s1 h1 => thn h1 fun itv s2 h2 => ?_
 obtain ⟨it, fp, tn, J, H2, e, I2, T, st2, f2, k⟩ := h2
 subst e
 refine wpAny_newObj_type (wpAny_newFunctionEnv S.cell (by intro y hy; simp at hy) (fun h₁ hns₁ hsb₁ => ?_) S.kind)
 dsimp only at hns₁ hsb₁ ⊢
 have I3 : Inv X pins σ (upd H2 s2.heap.objs.size (.lst [])) { s2 with heap := s2.heap.push { cls := .type "list", dict := none, data := .seq ([] : List Value).toArray } } := I2.lnew (t' := s2.toks) .nil (Nat.zero_le _)
 obtain ⟨W, ⟨m0, w0⟩, turn⟩ := k s2.heap.objs.size I2.fresh
 generalize hD : s2.heap.objs.size = D at *
 generalize hsD : ({ s2 with heap := s2.heap.push { cls := .type "list", dict := none, data := .seq ([] : List Value).toArray } } : Shared) = sD at *
 have hsz : sD.heap.objs.size = D + 1 := by rw [← hsD, ← hD]; exact Heap.size_push ..
 have hheap : s2.heap.push { cls := .type "list", dict := none, data := .seq ([] : List Value).toArray } = sD.heap := by rw [← hsD]
 rw [hheap] at hns₁ hsb₁ ⊢
 have up : ∀ b o, s2.heap.get? b = some o → sD.heap.get? b = some o := fun b o e => by rw [← hheap]; exact Heap.get?_push_of_some _ e
 have keep : ∀ b o, sD.heap.get? b = some o → h₁.get? b = some o := fun b o e => hsb₁.extBut b o (Nat.ne_of_lt (Heap.lt_size e)) (Heap.get?_push_of_some _ e)
 have hfD : D ∉ fp := fun hm => by
  obtain ⟨o, e, _⟩ := T.obj _ _ st2 D hm
  have := Heap.lt_size e
  rw [hD] at this
  exact Nat.lt_irrefl _ this
 have f3 : ∀ b ∈ fp, FpOk X pins (upd H2 D (.lst [])) b := fun b hb => ⟨by rw [upd_ne (fun z => hfD (by rw [← z]; exact hb))]; exact (f2 b hb).1, (f2 b hb).2⟩
 have hlt : ∀ b ∈ fp, b < sD.heap.objs.size := fun b hb => by
  obtain ⟨o, e, _⟩ := T.obj _ _ st2 b hb
  exact Heap.lt_size (up b o e)
 have I4 := comp_start (t' := s2.toks + ([] : List (Str × Value)).length) S I3 f3 hlt hns₁ keep
 obtain ⟨hg, hif, hel⟩ := hb sD.heap.objs.size sD (upd H2 D (.lst [])) fp
 have st4 : tn 0 h₁ := T.keep _ _ _ st2 fun b hb o e => keep b o (up b o e)
 have stat : ∀ {H' : Hp}, (∀ b ∈ fp, H' b = none) → ∀ b ∈ fp, FpOk (cxComp X N scope sD.heap.objs.size sD (upd H2 D (.lst [])) fp) [] H' b := fun hn b hb =>
  ⟨hn b hb, (I4.ok.exf b hb).1, I4.ok.exfs b hb, .inl hb, fun x c h z => (I4.ok.exf b hb).2 x c h z, fun p hp => (by simp [cxComp] at hp)⟩
 have loop : codeAny (model X.prog X.w) X.A (.compLoop (.ListComp elt [⟨tgt, iter, ifs, 0⟩] scope pos) 0 (.ref it) (.ref D) (compEnvC scope (clOf X.env scope.names []) sD.heap.objs.size X.env))
   (compPost (model X.prog X.w) X.A X.xe none (EP X pins σ Q) (.ref D) sD.heap.objs.size) { sD with heap := h₁, toks := s2.toks + ([] : List (Str × Value)).length } := by
  refine compLoop_gen (fun n s' => ∃ i ys σ' H', Inv (cxComp X N scope sD.heap.objs.size sD (upd H2 D (.lst [])) fp) [] σ' H' s' ∧ tn i s'.heap ∧ (∀ b ∈ fp, H' b = none) ∧ W i n ys σ' H') ?_ m0
   ⟨0, [], capt cap σ, _, I4, st4, fun b hb => (f3 b hb).1, w0⟩
  rintro n s5 ⟨i, ys, σ5, H5, I5, st5, fr5, w5⟩
  obtain ⟨hD5, way⟩ := turn i n ys σ5 H5 w5
  rcases way with ⟨stop, q⟩ | ⟨go, step⟩
  ·
   refine thn (T.done (cxComp X N scope sD.heap.objs.size sD (upd H2 D (.lst [])) fp) rfl rfl rfl hc i [] s5 σ5 H5 (fun _ _ => False) I5 (stat fr5) st5 stop) fun r s6 ⟨hr, I6⟩ => ?_
   subst hr
   obtain ⟨m, hn, _⟩ := I6.loc
   exact ⟨m, hn, fun h' sb => ⟨.ref D, H5, comp_end I3 f3 I6 sb, rfl, q⟩⟩
  ·
   refine thn (T.item (cxComp X N scope sD.heap.objs.size sD (upd H2 D (.lst [])) fp) rfl rfl rfl hc i [] s5 σ5 H5 (fun _ _ => False) I5 (stat fr5) st5 go) fun r s6 ⟨u, hr, h6⟩ => ?_
   subst hr
   refine thn h6 fun _ s7 ⟨x, H7, I7, r7, y7, st7, fr7⟩ => ?_
   have I7' := I7.pinned (stat fr7) (T.obj _ _ st7)
   refine thn (hg _ s7 σ5 H7 x u _ I7' r7 (step x H7 y7)) fun _ s8 ⟨σ8, H8, I8, q8⟩ => ?_
   refine thn (hif _ s8 σ8 H8 _ I8 q8) fun b s9 ⟨H9, I9, q9⟩ => ?_
   have back : ∀ {σ' : St} {H' : Hp} {s' : Shared}, Inv (cxComp X N scope sD.heap.objs.size sD (upd H2 D (.lst [])) fp) ([] ++ pinsAt fp s7.heap) σ' H' s' → tn (i + 1) s'.heap ∧ ∀ b ∈ fp, H' b = none := fun {σ' H' s'} J' =>
    ⟨T.keep _ _ _ st7 fun b hb o e => (J'.pin (b, o) (List.mem_append_right _ (List.mem_append_right _ (mem_pinsAt hb e)))).1, fun b hb => by
     obtain ⟨o, e, d⟩ := T.obj _ _ st7 b hb
     exact (J'.pin (b, o) (List.mem_append_right _ (List.mem_append_right _ (mem_pinsAt hb e)))).2.1⟩
   cases b with
   |
    false =>
    obtain ⟨m', hm, w9⟩ := (show ∃ m', m' < n ∧ W (i + 1) m' ys σ8 H9 from q9)
    exact ⟨m', hm, i + 1, ys, σ8, H9, I9.unpinned, (back I9).1, (back I9).2, w9⟩
   |
    true =>
    refine thn (hel _ s9 σ8 H9 _ I9 (show te σ8 H9 _ from q9)) fun y s10 ⟨v10, H10, I10, r10, q10⟩ => ?_
    obtain ⟨hD10, hz, m', hm, w10⟩ := q10
    refine thn (mt_append (X := cxComp X N scope sD.heap.objs.size sD (upd H2 D (.lst [])) fp) _ s10 σ8 H10 (.ref D) [v10] (.ref D) [y] (fun _ H' => H' = upd H10 D (.lst (ys ++ [v10]))) I10 rfl (.cons r10 .nil) ⟨D, ys, v10, rfl, rfl, hD10, hz, rfl⟩) fun _ s11 ⟨v11, H11, I11, _, e11⟩ => ?_
    subst e11
    exact ⟨m', hm, i + 1, ys ++ [v10], σ8, _, I11.unpinned, (back I11).1, (back I11).2, w10⟩
 subst hsD
 subst hD
 exact codeAny_compStart_list loop (T.self _ 0 _ _ _ st4 loop)
end L2
namespace L2
open PySem PySem.Spec PyProof.Rows
section
variable {X : Cx} {x : Str} {pos : Pos} {tg : Expr}
theorem pe_globI {i : Int} (hg : Gl X x) (hm : ∃ t, X.mg x = some (.int i t)) (hd : (x == ("__debug__" : Str)) = false := by decide) : PE X (.Name x pos) (tC (.int i)) := by
 obtain ⟨t, e⟩ := hm
 exact pe_glob hg e ⟨t, rfl⟩ hd
theorem pe_globS {y : Str} (hg : Gl X x) (hm : ∃ t, X.mg x = some (.str y t)) (hd : (x == ("__debug__" : Str)) = false := by decide) : PE X (.Name x pos) (tC (.str y)) := by
 obtain ⟨t, e⟩ := hm
 exact pe_glob hg e ⟨t, rfl⟩ hd
theorem op_mul_str : OpR X (binaryOp .Mult) (fun x y H Q => ∃ z n, x = .str z ∧ y = .int n ∧ MulOk z n ∧ Q (.str (Txt.mul z n)) H) := by
 intro pins s σ H x y v u Q I rx ry h
 obtain ⟨z, n, rfl, rfl, ok, q⟩ := h
 obtain ⟨t, rfl⟩ := rx
 obtain ⟨t', rfl⟩ := ry
 exact SB.mul ok fun t' k => ⟨.str _, H, I.tok _, ⟨_, rfl⟩, q⟩
theorem call_isinst : CallR X (.builtin "isinstance") (fun xs H Q => ∃ x T t b, xs = [x, .ty T] ∧ TyOf X.K H x t ∧ W.kitOne X.K t (.type T) = some b ∧ Q (.bl b) H) := by
 intro pins s σ H xs us Q I r h
 obtain ⟨x, T, t, b, rfl, ty, e, q⟩ := h
 obtain ⟨u, v, rfl, ru, rv⟩ := r.two
 cases rv
 exact isinst_ok I ru ty e fun tk => ⟨.bl b, H, I.tok tk, rfl, q⟩
theorem bools_of : ∀ {bs : List Bool} {us : List Value}, Vals (bs.map V.bl) us → LSm.BoolsAre us bs
 | [], _, .nil => .nil
 | b :: bs, _, .cons r t => by cases r; exact .cons b (bools_of t)
theorem all_boolsL {prog : Program} {w : World} {A : Around} {E : Value → Shared → Prop} {s : Shared} {l : Addr} {vs : List Value} {bs : List Bool} {Q : Value → Shared → Prop} (hh : A.handled = none) (hl : s.heap.IsList l vs.toArray) (hb : LSm.BoolsAre vs bs)
  (h : ∀ h' tk, (∀ b o, s.heap.get? b = some o → h'.get? b = some o) → Q (.bool (bs.all id)) { s with heap := h', toks := tk }) : wpAny (model prog w) A (call (.builtin "all") [.ref l]) Q E s := by
 have hlt : l < s.heap.objs.size := by obtain ⟨_, e, _⟩ := hl; exact Heap.lt_size e
 refine call_all_walk (wpAny_pyIter_list hl ?_)
 refine ⟨s.heap.objs.size, [s.heap.objs.size, l], [s.heap.objs.size], vs.toArray.size, _, _, fun i => (bs[i]?).getD true, rfl, Walks.list (A := A.in1) hh _ l (Nat.ne_of_lt hlt) vs.toArray,
  ⟨⟨_, Heap.get?_push_size _ rfl, rfl, rfl⟩, hl.push _⟩, fun i v s' Q' E' hP hQ => ?_, fun h' tk hk => ?_⟩
 ·
  obtain ⟨b, e, rfl⟩ := hb.get i v (by simpa using hP)
  simp only [e, Option.getD_some] at hQ
  exact wpAny_truthy_bool hQ
 ·
  have e : ((List.range vs.toArray.size).all fun i => (bs[i]?).getD true) = bs.all id := by
   rw [List.size_toArray, hb.length]; exact LSm.range_all bs
  rw [e]
  exact h h' tk (LSm.kept_iter hk)
theorem call_all (hc : X.calm = true) : CallR X (.builtin "all") (fun xs H Q => ∃ (p : Addr) (bs : List Bool), xs = [.ref p] ∧ SqL X.K H p (bs.map V.bl) ∧ Q (.bl (bs.all id)) H) := by
 intro pins s σ H xs us Q I r h
 obtain ⟨p, bs, rfl, hq, q⟩ := h
 obtain ⟨u, rfl, ru⟩ := r.one
 cases ru
 obtain ⟨its, rv, pl, hz⟩ := I.list hq
 exact all_boolsL (I.ok.hd hc) pl.isList (bools_of rv) fun h' tk hk => ⟨.bl _, H, I.kept hk, rfl, q⟩
def Its (y : Str) : It := ⟨fun i _ => i < y.cps.size, fun i H x H' => H' = H ∧ ∃ c, y.cps[i]? = some c ∧ x = .str ⟨#[c]⟩, fun i _ => i = y.cps.size⟩
theorem walks_str {prog : Program} {w : World} {A : Around} (hh : A.handled = none) (I : Addr) (y : Str) (t : Tok) : Walks prog w A I [I] [I] y.cps.size (SignAt y) (fun i h => h.IsStrIter I (strIterType y) y t i) := by
 unfold strIterType
 split
 · exact Walks.strAscii hh I y t
 · exact Walks.strWide hh I y t
theorem turn_str {P : Program} {w : World} {K : W.Frag} (y : Str) (t : Tok) (it : Addr) : Turn P w K tg (Its y) [it] it (fun i h => h.IsStrIter it (strIterType y) y t i) where
 mem := by simp
 obj := fun i h st b hb => by
  have e : b = it := by simpa using hb
  subst e
  obtain ⟨o, e, c, d⟩ := st
  exact ⟨o, e, fun v z => by rw [d] at z; cases z⟩
 keep := fun i h h' st k => by
  obtain ⟨o, e, r⟩ := st
  exact ⟨o, k it (by simp) o e, r⟩
 item := by
  intro X hP hw hK hc i pins s σ H E I hf st hg
  subst hP hw hK
  obtain ⟨f0, f1, f2, f3, f4, f5⟩ := hf it (by simp)
  have W := walks_str (prog := X.prog) (w := X.w) (I.ok.hd hc) it y t
  refine W.item i s _ _ hg st fun v h' tk hv st' kk => ?_
  obtain ⟨c, t', hc', rfl⟩ := hv
  have I1 : Inv X pins σ H { s with heap := h', toks := tk } := I.turned (fun b o hb e => kk b o (by simpa using hb) e) f0 f1 f3 f4 f5
  obtain ⟨o, e, c1, d⟩ := id st'
  refine ⟨_, rfl, go_of (s := { s with heap := h', toks := tk }) (n := strIterType y) e c1 d ?_ ⟨.str ⟨#[c]⟩, H, I1, ⟨t', rfl⟩, ⟨rfl, c, hc', rfl⟩, st', fun b hb => (hf b hb).1⟩⟩
  unfold strIterType
  split <;> decide
 done := by
  intro X hP hw hK hc i pins s σ H E I hf st hg
  subst hP hw hK
  have hg' : i = y.cps.size := hg
  subst hg'
  obtain ⟨f0, f1, f2, f3, f4, f5⟩ := hf it (by simp)
  have W := walks_str (prog := X.prog) (w := X.w) (I.ok.hd hc) it y t
  exact W.done s _ _ st fun h' tk kk => ⟨rfl, I.turned (fun b o hb e => kk b o (by simpa using hb) e) f0 f1 f3 f4 f5⟩
 self := fun A i s Q E st h => by
  obtain ⟨o, e, c, d⟩ := id st
  revert st c
  unfold strIterType
  split
  · intro st c; exact wpAny_pyIter_striter_ascii st h
  · intro st c; exact wpAny_pyIter_striter_wide st h
def iStr (tl : TE) : TI := fun σ H R => tl σ H fun x H1 => ∃ y, x = .str y ∧ R (Its y) H1
theorem pi_str {l : Expr} {tl : TE} (hl : PE X l tl) : PI X tg l (iStr tl) := by
 intro pins s σ H R I h
 refine thn (hl pins s σ H _ I h) fun v s1 ⟨x, H1, I1, r1, q1⟩ => ?_
 obtain ⟨y, e, q⟩ := q1
 subst e
 obtain ⟨t, rfl⟩ := r1
 refine wpAny_pyIter_strU ?_
 refine ⟨s1.heap.objs.size, [s1.heap.objs.size], _, _, H1, rfl, I1.kept (t' := s1.toks) fun b o e => Heap.get?_push_of_some _ e, turn_str y t _, ⟨_, Heap.get?_push_size _ rfl, rfl, rfl⟩, fun b hb => ?_, q⟩
 have e : b = s1.heap.objs.size := by simpa using hb
 subst e
 exact I1.fpOk (Nat.le_refl _) (I1.hok.fresh (Nat.le_refl _))
end
end L2
namespace L2
open PySem PySem.Spec PyProof.Rows
structure FunD (K : W.Frag) (x qual : Str) (st : Stmt) (f : Addr) (fd : FuncData) : Prop where
 ex : ∃ (oc : Value) (od : Option Addr) (dV kV doc pm : Value) (an : Option Addr) (cdv ct : Value) (osl : Array (Option Value)),
  fd = W.fnOf x qual (defArgs st) (defBody st) (defScope st) dV kV doc pm an cdv ct ∧ K.lookup f = some ⟨oc, od, .func fd, osl⟩ ∧ W.codeIn K cdv qual = true
 kp : W.keepIn K (.ref f) = true
section
variable {P : Program} {w : World} {K : W.Frag} {mg : Str → Option Value} {base : Heap}
theorem FunD.ok {cm : Bool} {x qual : Str} {st : Stmt} {f : Addr} {fd : FuncData} {N ps : List Str} {k : Nat} {sp : Sp} (F : FunD K x qual st f fd) (S : FnScope N ps (defScope st)) (len : ∀ vs H Q E, sp vs H Q E → vs.length = ps.length)
  (hbody : ∀ (cdv : Value) (A : Around) (outer : List Env) (s : Shared) (H : Hp) (vs : List V) (Q : VK) (E : XK), Room cm k (A.deeper (envOfC qual (defScope st) s.heap.objs.size f cdv)) → sp vs H Q E →
   ∃ t, PSs (cxOf CX0 cm P w K mg base N qual (defScope st) f cdv A outer s H E).nox (defBody st) t ∧ t { nx := fun _ H' => Q .non H', rt := fun _ => Q } (start N vs) H) : FnOk P w K mg base CX0 cm (k + 1) f fd ps sp := by
 obtain ⟨oc, od, dV, kV, doc, pm, an, cdv, ct, osl, rfl, lk, hcd⟩ := F.ex
 exact fn_of lk hcd S len fun A outer s H vs Q E hr h => by
  obtain ⟨t, ht, q⟩ := hbody cdv A outer s H vs Q E hr h
  exact ⟨t, ht.nox, q⟩
end
end L2
namespace L2
open PySem PySem.Spec PyProof.Rows
def Seq (J : It) (H : Hp) (xs : List V) : Prop := ∀ H', Same H H' → (∀ (i : Nat) x, xs[i]? = some x → J.go i H' ∧ ∀ x' H2, J.yld i H' x' H2 → x' = x ∧ H2 = H') ∧ J.stop xs.length H'
theorem Seq.up {J : It} {H H' : Hp} {xs : List V} (h : Seq J H xs) (s : Same H H') : Seq J H' xs := fun H2 s2 => h H2 (s.trans s2)
theorem seq_str (y : Str) (H : Hp) : Seq (Its y) H (y.cps.toList.map fun c => .str ⟨#[c]⟩) := fun H' _ => by
 refine ⟨fun i x e => ?_, ?_⟩
 ·
  rw [List.getElem?_map] at e
  cases q : y.cps.toList[i]? with
  | none => rw [q] at e; cases e
  |
   some c =>
   rw [q] at e
   have q' : y.cps[i]? = some c := by simpa using q
   refine ⟨(Array.getElem?_eq_some_iff.mp q').1, fun x' H2 hy => ?_⟩
   obtain ⟨e1, c', e2, e3⟩ := hy
   rw [q'] at e2
   cases e2
   exact ⟨e3.trans (Option.some.inj e), e1⟩
 ·
  show _ = _
  simp
theorem seq_range (lo : Int) (n : Nat) (H : Hp) : Seq (Itr lo n) H ((List.range n).map fun (i : Nat) => V.int (lo + (i : Int))) := fun H' _ => by
 refine ⟨fun i x e => ?_, ?_⟩
 ·
  have hi : i < n := by
   have := (List.getElem?_eq_some_iff.mp e).1
   simpa using this
  refine ⟨hi, fun x' H2 hy => ?_⟩
  obtain ⟨e1, e2⟩ := hy
  rw [List.getElem?_map, List.getElem?_range hi] at e
  exact ⟨e2.trans (Option.some.inj e), e1⟩
 ·
  show n ≤ _
  simp
theorem seq_list {K : W.Frag} {H : Hp} {a : Addr} {xs : List V} (h : SqL K H a xs) : Seq (Itl K a) H xs := fun H' s => by
 have h' := s.seq h
 refine ⟨fun i x e => ⟨⟨xs, x, h', e⟩, fun x' H2 hy => ?_⟩, ⟨xs, h', Nat.le_refl _⟩⟩
 obtain ⟨e1, e2⟩ := hy
 have := e2 xs h'
 rw [e] at this
 exact ⟨(Option.some.inj this).symm, e1⟩
theorem Same.seqT {K : W.Frag} {H H' : Hp} {a : Addr} {xs : List V} (e : Same H H') (h : SqT K H a xs) : SqT K H' a xs := by
 rcases h with (h | ⟨o, h⟩) | h
 · exact .inl (.inl (e _ _ h))
 · exact .inl (.inr ⟨o, e _ _ h⟩)
 · exact .inr h
theorem seq_tup {K : W.Frag} {H : Hp} {a : Addr} {xs : List V} (h : SqT K H a xs) : Seq (Itt K a) H xs := fun H' s => by
 have h' := s.seqT h
 refine ⟨fun i x e => ⟨⟨xs, x, h', e⟩, fun x' H2 hy => ?_⟩, ⟨xs, h', Nat.le_refl _⟩⟩
 obtain ⟨e1, e2⟩ := hy
 have := e2 xs h'
 rw [e] at this
 exact ⟨(Option.some.inj this).symm, e1⟩
theorem same_upd {H : Hp} {p : Addr} {o : HO} (h : H p = none) : Same H (upd H p o) := fun b u e => by rw [upd_ne (ne_of_none e h)]; exact e
theorem for_seq {J : It} {xs : List V} {g : TG} {tb : TS} {D : Ends} {σ : St} {H0 H : Hp} (hJ : Seq J H0 xs) (Pv : Nat → St → Hp → Prop) (h0 : Pv 0 σ H) (hsm : ∀ i σ H, i ≤ xs.length → Pv i σ H → Same H0 H)
  (hs : ∀ (i : Nat) x σ H, xs[i]? = some x → Pv i σ H → g x σ H fun σ2 H2 => tb { D with nx := Pv (i + 1), ct := Pv (i + 1), bk := D.nx } σ2 H2) (hd : ∀ σ H, Pv xs.length σ H → D.nx σ H) :
  ∃ W : Nat → Nat → St → Hp → Prop, (∃ m, W 0 m σ H) ∧ ∀ i m σ H, W i m σ H →
   (J.stop i H ∧ D.nx σ H) ∨ (J.go i H ∧ ∃ N : St → Hp → Prop, (∀ σ' H', N σ' H' → ∃ m', m' < m ∧ W (i + 1) m' σ' H') ∧ ∀ x H', J.yld i H x H' → g x σ H' fun σ2 H2 => tb { D with nx := N, ct := N, bk := D.nx } σ2 H2) := by
 refine ⟨fun i m σ H => m = xs.length - i ∧ i ≤ xs.length ∧ Pv i σ H, ⟨xs.length, by simp, Nat.zero_le _, h0⟩, ?_⟩
 rintro i m σ H ⟨rfl, hi, p⟩
 obtain ⟨q1, q2⟩ := hJ H (hsm i σ H hi p)
 by_cases hlt : i < xs.length
 ·
  have e : xs[i]? = some xs[i] := by simp [hlt]
  obtain ⟨go, y⟩ := q1 i _ e
  refine .inr ⟨go, Pv (i + 1), fun σ' H' p' => ⟨xs.length - (i + 1), by omega, rfl, hlt, p'⟩, fun x H' hy => ?_⟩
  obtain ⟨rfl, rfl⟩ := y x H' hy
  exact hs i _ σ _ e p
 ·
  have e : i = xs.length := by omega
  subst e
  exact .inl ⟨q2, hd σ H p⟩
theorem comp_pure {J : It} {cap : List (Option Nat)} {tt : TT} {te : TE} {σ : St} {H1 : Hp} {Q : VK} {xs : List V} (hJ : Seq J H1 xs) (p : V → Bool) (f : V → V) (hsz : xs.length ≤ 100000)
  (hp : ∀ x ∈ xs, ∀ H', Same H1 H' → ∀ R : Bool → Hp → Prop, (∀ H'', Same H' H'' → R (p x) H'') → tt ((capt cap σ).set 0 (some x)) H' R)
  (he : ∀ x ∈ xs, p x = true → ∀ H', Same H1 H' → ∀ R : VK, (∀ H'', Same H' H'' → R (f x) H'') → te ((capt cap σ).set 0 (some x)) H' R)
  (k : ∀ D H', Same H1 H' → H1 D = none → H' D = some (.lst ((xs.filter p).map f)) → Q (.ref D) H') :
  compBody J H1 cap (gName 0) tt te σ Q := by
 intro D hD
 refine ⟨fun i m ys σ' H' => m = xs.length - i ∧ i ≤ xs.length ∧ (∀ v, σ'.set 0 v = (capt cap σ).set 0 v) ∧ H' D = some (.lst ys) ∧ Same H1 H' ∧ ys = ((xs.take i).filter p).map f,
  ⟨xs.length, by simp, Nat.zero_le _, fun _ => rfl, upd_same, same_upd hD, by simp⟩, ?_⟩
 rintro i m ys σ' H' ⟨rfl, hi, hσ, hl, sm, hys⟩
 refine ⟨hl, ?_⟩
 obtain ⟨q1, q2⟩ := hJ H' sm
 by_cases hlt : i < xs.length
 ·
  have e : xs[i]? = some xs[i] := by simp [hlt]
  obtain ⟨go, y⟩ := q1 i _ e
  refine .inr ⟨go, fun x H2 hy => ?_⟩
  obtain ⟨rfl, rfl⟩ := y x H2 hy
  have hm : xs[i] ∈ xs := List.getElem_mem hlt
  have etake : xs.take (i + 1) = xs.take i ++ [xs[i]] := by rw [List.take_add_one, e]; rfl
  show tt (σ'.set 0 (some xs[i])) _ _
  rw [hσ]
  refine hp _ hm _ sm _ fun H4 s4 => ?_
  have hss : ∀ v, ((capt cap σ).set 0 (some xs[i])).set 0 v = (capt cap σ).set 0 v := fun v => by rw [List.set_set]
  cases hb : p xs[i] with
  |
   false =>
   refine iteF ⟨xs.length - (i + 1), by omega, rfl, hlt, hss, s4 _ _ hl, sm.trans s4, ?_⟩
   rw [etake, List.filter_append, hys]
   simp [hb]
  |
   true =>
   refine iteT ?_
   refine he _ hm hb _ (sm.trans s4) _ fun H5 s5 => ?_
   have hl5 := s5 _ _ (s4 _ _ hl)
   refine ⟨hl5, ?_, xs.length - (i + 1), by omega, rfl, hlt, hss, upd_same, fun b o eb => ?_, ?_⟩
   ·
    have h1 : ys.length ≤ xs.length := by
     rw [hys, List.length_map]
     exact Nat.le_trans (List.length_filter_le _ _) (List.length_take_le' _ _)
    have h2 : (100000 : Nat) < sizeLine := by decide
    omega
   ·
    rw [upd_ne (ne_of_none eb hD)]
    exact s5 _ _ (s4 _ _ (sm _ _ eb))
   ·
    rw [etake, List.filter_append, hys]
    simp [hb]
 ·
  have e : i = xs.length := by omega
  subst e
  refine .inl ⟨q2, k D _ sm hD ?_⟩
  rw [hl, hys, List.take_length]
end L2
namespace L2
open PySem PySem.Spec PyProof.Rows
section
variable {X : Cx}
theorem op_in_chr : OpR X (compareOp .In) (fun x y H Q => ∃ c j, x = .str ⟨#[c]⟩ ∧ y = .str j ∧ Q (.bl (decide (c ∈ j.cps.toList))) H) := by
 intro pins s σ H x y v u Q I rx ry h
 obtain ⟨c, j, rfl, rfl, q⟩ := h
 refine op_in_str pins s σ H _ _ v u Q I rx ry ⟨_, j, rfl, rfl, ?_⟩
 rw [StrLaws.found_one]
 exact q
end
theorem atI_int {α : Type} {xs : List α} {i : Int} (h0 : 0 ≤ i) (h1 : i < xs.length) : atI xs i = some (xs[i.toNat]'(by omega)) := by
 have := atI_nat (xs := xs) (j := i.toNat) (v := xs[i.toNat]'(by omega)) (by simp)
 rw [show ((i.toNat : Nat) : Int) = i by omega] at this
 exact this
theorem atI_strs {ts : List Str} {i : Int} (h0 : 0 ≤ i) (h1 : i < ts.length) : ∃ t, t ∈ ts ∧ atI (ts.map V.str) i = some (.str t) := by
 refine ⟨ts[i.toNat]'(by omega), List.getElem_mem _, ?_⟩
 rw [atI_int h0 (by simpa using h1)]
 simp
theorem atI_ints {ts : List Int} {i : Int} (h0 : 0 ≤ i) (h1 : i < ts.length) : ∃ t, t ∈ ts ∧ atI (ts.map V.int) i = some (.int t) := by
 refine ⟨ts[i.toNat]'(by omega), List.getElem_mem _, ?_⟩
 rw [atI_int h0 (by simpa using h1)]
 simp
end L2
namespace L2
open PySem PySem.Spec PyProof.Rows
def litOf : Expr → Option V
 | .Constant (.int i) _ _ => some (.int i)
 | .Constant (.str x) _ _ => some (.str x)
 | .Constant (.bool b) _ _ => some (.bl b)
 | .Constant .none _ _ => some .non
 | .UnaryOp .USub (.Constant (.int i) _ _) _ => some (.int (-i))
 | _ => none
def litsOf : List Expr → Option (List V)
 | [] => some []
 |
  e :: r => match litOf e, litsOf r with
  | some v, some vs => some (v :: vs)
  | _, _ => none
theorem pe_lit {X : Cx} {e : Expr} {v : V} (h : litOf e = some v) : PE X e (tC v) ∧ ∀ es : List Expr, starEach (e :: es) X.env = (false, eval e X.env) :: starEach es X.env := by
 unfold litOf at h
 split at h
 · cases h; exact ⟨pe_int, fun _ => rfl⟩
 · cases h; exact ⟨pe_str, fun _ => rfl⟩
 · cases h; exact ⟨pe_bl, fun _ => rfl⟩
 · cases h; exact ⟨pe_non, fun _ => rfl⟩
 ·
  rename_i i j p q
  cases h
  refine ⟨fun pins s σ H Q I hq => pe_un un_neg pe_int pins s σ H Q I ⟨_, rfl, hq⟩, fun _ => rfl⟩
 · cases h
theorem pa_lits0 {X : Cx} : ∀ {es : List Expr} {vs : List V}, litsOf es = some vs → PA X es (fun _ H Q => Q vs H)
 | [], vs, h => by cases h; exact pa_nil
 |
  e :: r, vs, h => by
  unfold litsOf at h
  split at h
  ·
   rename_i v ws h1 h2
   cases h
   have p := pe_lit (X := X) h1
   exact pa_cons p.1 (pa_lits0 h2) (p.2 r)
  · cases h
def litsAre (es : List Expr) (vs : List V) : Bool := decide (litsOf es = some vs)
theorem pa_lits {X : Cx} {es : List Expr} (vs : List V) (h : litsAre es vs = true) : PA X es (fun _ H Q => Q vs H) := pa_lits0 (of_decide_eq_true h)
end L2
namespace L2
end L2
namespace L2
open PySem PySem.Spec PyProof.Rows
theorem HOk.tracked {P : Program} {w : World} {H : Hp} {h h' : Heap} (x : HOk P w H h) (k : ∀ b u o, H b = some u → h.get? b = some o → h'.get? b = some o) : HOk P w H h' := fun a o e =>
 (x a o e).stay (fun b u hb q => by
  rcases hb with hb | hb
  · subst hb; exact k _ _ _ e q
  · exact k _ _ _ hb q) (fun _ q => q) fun _ _ q => q
theorem HOk.there {P : Program} {w : World} {H : Hp} {h : Heap} {b : Addr} {v : HO} (ok : HOk P w H h) (e : H b = some v) : ∃ o', h.get? b = some o' := by
 have := ok b v e
 cases v with
 | lst xs => obtain ⟨_, _, _, _, z⟩ := this; exact ⟨_, z⟩
 | tup xs => obtain ⟨_, _, _, o, z, _⟩ := this; exact ⟨_, z⟩
 | dK kvs => obtain ⟨_, _, _, _, o, _, _, z, _⟩ := this; exact ⟨_, z⟩
 | dT kvs => obtain ⟨_, _, _, _, o, _, _, z, _⟩ := this; exact ⟨_, z⟩
 | set S n => obtain ⟨o, _, _, _, z, _⟩ := this; exact ⟨_, z⟩
 | ins C dx fs => obtain ⟨_, _, _, z, _⟩ := this; exact ⟨_, z⟩
 | own y => exact this
 | xd fs => obtain ⟨_, ⟨_, _, _, z, _⟩, _⟩ := this; exact ⟨_, z⟩
 | rng lo hi => obtain ⟨_, _, _, z⟩ := this; exact ⟨_, z⟩
 | frz ob u => obtain ⟨z, _⟩ := this; exact ⟨_, z⟩
 | tbl ps => exact ⟨_, this⟩
 | met f y => exact ⟨_, this⟩
 | ext φ => exact this.2.1
section
variable {X : Cx} {pins : List (Addr × Obj)} {σ : St} {H H' : Hp} {s : Shared} {h h2 B : Heap}
end
section
variable {cm : Bool} {P : Program} {w : World} {K : W.Frag} {mg : Str → Option Value} {base : Heap} {N : List Str} {qual : Str} {scope : Scope} {f : Addr} {cd : Value} {A : Around} {outer : List Env} {s : Shared} {H : Hp} {E : XK}
end
section
variable {X : Cx} {E : XK} {x : Str} {C : Addr} {np cpos pos : Pos} {e0 : Expr} {es : List Expr} {t : TA}
end
def Cx.hnd (X : Cx) (e : Value) : Cx := { X with A := X.A.mark (some e), calm := false, xe := fun _ _ => False }
theorem Inv.hnd {X : Cx} {pins : List (Addr × Obj)} {σ : St} {H : Hp} {s : Shared} (I : Inv X pins σ H s) (e : Value) : Inv (X.hnd e) pins σ H s :=
 ⟨⟨
  I.ok.mod, I.ok.kind, I.ok.glob, I.ok.blt, I.ok.above, I.ok.inj, I.ok.has, I.ok.cab, (fun z => nomatch z), I.ok.frames, I.ok.stk, I.ok.exf, I.ok.bs, I.ok.bsz, I.ok.noex, I.ok.exfs, I.ok.funs, I.ok.frf⟩,
  I.os, I.bare, I.base, I.loc, I.cell, I.free, I.freeC, I.pin, I.hok, I.len⟩
end L2
namespace L2
open PySem PySem.Spec PyProof.Rows
section
variable {X : Cx} {CX : CXT} {cm : Bool} {k : Nat} {f : Addr} {fd : FuncData} {ps : List Str} {sp : Sp} {dvs : List V} {ds : List Value} {E : St → XK} {x : Str} {p pos : Pos} {e : Expr} {es : List Expr} {t : TA}
end
structure Catch (K : W.Frag) (Cc : Addr) : Prop where
 ty : W.typeIn K (.ref Cc) = some (.type "type")
 mb : W.mroIn K Cc (.type "BaseException") = some true
theorem Catch.cls {K : W.Frag} {Cc : Addr} (c : Catch K Cc) : ∃ cd, W.clsIn K Cc = some cd := by
 obtain ⟨cd, a, _⟩ := Option.bind_eq_some_iff.mp c.mb
 exact ⟨cd, a⟩
section
variable {X : Cx} {pins pins' : List (Addr × Obj)} {σ : St} {H H' : Hp} {s : Shared} {Eb : Value → Shared → Prop} {h h2 B : Heap}
end
end L2
namespace L2
open PySem PySem.Spec PyProof.Rows
section
variable {X : Cx}
end
end L2
namespace L2
open PySem PySem.Spec PyProof.Rows
section
variable {X : Cx}
end
end L2
namespace L2
open PySem PySem.Spec PySem.Calls PyProof.Rows Builtin Builtin.ObjectAttr Builtin.Getset_descriptor
structure ExC (K : W.Frag) (C : Addr) : Prop where
 cs : (W.clsIn K C).isSome = true
 ga : W.findIn K (.ref C) "__getattribute__" = some (some (.builtin "BaseException.__getattribute__"))
 gn : W.findIn K (.ref C) "__getattr__" = some none
 ca : W.findIn K (.ref C) "__class__" = some (some (.builtin "object.__class__"))
 sg : W.specialIn K (.builtin "object.__class__") "__get__" = some (some (.builtin "getset_descriptor.__get__"))
 tk : W.takesIn K (.builtin "object.__class__") = some true
 mo : W.mroIn K C (.type "object") = some true
 mb : W.mroIn K C (.type "BaseException") = some true
def ExcAt (e C : Addr) (h : Heap) : Prop := ∃ oe, h.get? e = some oe ∧ oe.cls = .ref C
theorem ExcAt.type {M : Model} {e C : Addr} {h : Heap} (p : ExcAt e C h) : W.Looks M h (typeOf (.ref e)) (.ref C) := by
 obtain ⟨oe, a, b⟩ := p
 exact b ▸ (W.Looks.ld a).andThen .now
section
variable {prog : Program} {w : World} {K : W.Frag} {e C : Addr}
end
section
variable {X : Cx}
end
theorem Room.mark {cm : Bool} {k : Nat} {A : Around} (r : Room cm k A) (v : Option Value) : Room false k (A.mark v) := ⟨(fun z => nomatch z), r.dp, r.un⟩
section
variable {X : Cx} {pins pins' : List (Addr × Obj)} {σ : St} {H H' : Hp} {s : Shared} {h h2 B : Heap} {ea C : Addr}
end
end L2
namespace L2
open PySem PySem.Spec PyProof.Rows
section
variable {X : Cx} {K : W.Frag} (hK : X.K = K)
include hK
theorem ix_tupK : IxR X (rIxT K) := by subst hK; exact ix_tup
theorem ix_listK : IxR X (rIxL K) := by subst hK; exact ix_list
theorem sl_listK : SlR X (rSlL K) := by subst hK; exact sl_list
theorem op_in_seqK : OpR X (compareOp .In) (rIn K false) := by subst hK; exact op_in_seq
theorem op_notIn_seqK : OpR X (compareOp .NotIn) (rIn K true) := by subst hK; exact op_notIn_seq
theorem call_len_seqK : CallR X (.builtin "len") (fun xs H Q => ∃ p ys, xs = [.ref p] ∧ (SqL K H p ys ∨ SqT K H p ys) ∧ Q (.int ys.length) H) := by subst hK; exact call_len_seq
theorem call_tuple_ofK : CallR X (.type "tuple") (fun xs H Q => ∃ p ys, xs = [.ref p] ∧ ((SqL K H p ys ∧ ∀ l, H l = none → Q (.ref l) (upd H l (.tup ys))) ∨ (SqT K H p ys ∧ Q (.ref p) H))) := by subst hK; exact call_tuple_of
theorem call_isinstK : CallR X (.builtin "isinstance") (fun xs H Q => ∃ x T t b, xs = [x, .ty T] ∧ TyOf K H x t ∧ W.kitOne K t (.type T) = some b ∧ Q (.bl b) H) := by subst hK; exact call_isinst
theorem call_allK (hc : X.calm = true) : CallR X (.builtin "all") (fun xs H Q => ∃ (p : Addr) (bs : List Bool), xs = [.ref p] ∧ SqL K H p (bs.map V.bl) ∧ Q (.bl (bs.all id)) H) := by subst hK; exact call_all hc
theorem pi_listK {tg l : Expr} {tl : TE} (hl : PE X l tl) : PI X tg l (iList K tl) := by subst hK; exact pi_list hl
theorem pi_tupK {tg l : Expr} {tl : TE} (hl : PE X l tl) : PI X tg l (iTup K tl) := by subst hK; exact pi_tup hl
end
end L2
set_option maxHeartbeats 1000000
namespace L2
open PySem PySem.W PyProof.Rows
section
variable {O : KeyOrd} {key : Nat → O.α} {n : Nat} {cmp : Nat → Nat → (Bool → Shared → Prop) → Shared → Prop} {s : Shared}
def ka {O : KeyOrd} (key : Nat → O.α) (p : Array Nat) (i : Nat) : O.α := key (p.getD i 0)
def Up {O : KeyOrd} (key : Nat → O.α) (p : Array Nat) (k : Nat) : Prop := ∀ i j, i ≤ j → j < k → O.kle (ka key p i) (ka key p j)
def Down {O : KeyOrd} (key : Nat → O.α) (p : Array Nat) (k : Nat) : Prop := ∀ i j, i ≤ j → j < k → O.kle (ka key p j) (ka key p i)
def Rg (n : Nat) (p : Array Nat) : Prop := p.Perm (List.toArray (List.range n))
def Asks {O : KeyOrd} (key : Nat → O.α) (n : Nat) (cmp : Nat → Nat → (Bool → Shared → Prop) → Shared → Prop) (s : Shared) : Prop := ∀ i j C, i < n → j < n → C (O.blt (key i) (key j)) s → cmp i j C s
theorem Rg.size {p : Array Nat} (h : Rg n p) : p.size = n := by rw [Array.Perm.size_eq h]; simp
theorem Rg.at {p : Array Nat} (h : Rg n p) {i : Nat} (hi : i < n) : p.getD i 0 < n := by
 have hz := h.size
 have e : p.getD i 0 = p[i]'(by omega) := by simp [Array.getD, show i < p.size by omega]
 have hm : p[i]'(by omega) ∈ p.toList := by simp
 have := (Array.perm_iff_toList_perm.mp h).mem_iff.mp hm
 simp at this
 omega
theorem ka_congr {p q : Array Nat} {i j : Nat} (h : p[i]? = q[j]?) : ka key p i = ka key q j := by
 unfold ka
 rw [Array.getD_eq_getD_getElem?, Array.getD_eq_getD_getElem?, h]
theorem ka_rev {p : Array Nat} {i j : Nat} (hj : j ≤ p.size) (k : Nat) : ka key (kas_rev p i j) k = if i ≤ k ∧ k < j then ka key p (i + j - 1 - k) else ka key p k := by
 have e := getElem?_mirror_all (xs := p) (i := i) hj k
 by_cases h : i ≤ k ∧ k < j
 · rw [if_pos h] at e ⊢; exact ka_congr e
 · rw [if_neg h] at e ⊢; exact ka_congr e
theorem ka_revE {p : Array Nat} {i j : Nat} (hj : j ≤ p.size) (heq : ∀ k, i ≤ k → k < j → ka key p k = ka key p (j - 1)) (k : Nat) : ka key (kas_rev p i j) k = ka key p k := by
 rw [ka_rev hj]
 split
 · rw [heq _ (by omega) (by omega), heq k (by omega) (by omega)]
 · rfl
theorem Rg.rev {p : Array Nat} (h : Rg n p) (i j : Nat) : Rg n (kas_rev p i j) := (mirror_perm p i j _).trans h
theorem Rg.bub {p : Array Nat} (h : Rg n p) (k d : Nat) : Rg n (bubble p k d) := (bubble_perm p k d).trans h
theorem Up.more {p : Array Nat} {k : Nat} (h : Up key p k) (hk : O.blt (ka key p k) (ka key p (k - 1)) = false) : Up key p (k + 1) := by
 intro i j hij hj
 by_cases hjk : j < k
 · exact h i j hij hjk
 ·
  obtain rfl : j = k := by omega
  by_cases hi : i = j
  · rw [hi]; exact KeyOrd.kle_refl _
  · exact KeyOrd.kle_trans (h i (j - 1) (by omega) (by omega)) hk
theorem Down.more {p q : Array Nat} {k : Nat} (h : Down key p k) (e : ∀ i, ka key q i = ka key p i) (hk : O.kle (ka key p k) (ka key p (k - 1))) : Down key q (k + 1) := by
 intro i j hij hj
 rw [e, e]
 by_cases hjk : j < k
 · exact h i j hij hjk
 ·
  obtain rfl : j = k := by omega
  by_cases hi : i = j
  · rw [hi]; exact KeyOrd.kle_refl _
  · exact KeyOrd.kle_trans hk (h i (j - 1) (by omega) (by omega))
theorem asc_wp {p : Array Nat} (hc : Asks key n cmp s) (hp : Rg n p) {Q : Nat → Shared → Prop} : ∀ (f a : Nat), 1 ≤ a → a + f ≤ n → Up key p a →
  (∀ m, a ≤ m → m ≤ a + f → Up key p m → (m = a + f ∨ O.klt (ka key p m) (ka key p (m - 1))) → Q m s) → (kas_asc p f a).kasWp cmp Q s
 | 0, a, _, _, hu, h => h a (Nat.le_refl _) (Nat.le_refl _) hu (.inl rfl)
 |
  f + 1, a, h1, hz, hu, h => by
  refine hc _ _ _ (hp.at (by omega)) (hp.at (by omega)) ?_
  show (if O.blt (ka key p a) (ka key p (a - 1)) = true then KasT.ret a else kas_asc p f (a + 1)).kasWp cmp Q s
  cases e : O.blt (ka key p a) (ka key p (a - 1)) with
  | true => exact h a (Nat.le_refl _) (by omega) hu (.inr e)
  | false => exact asc_wp hc hp f (a + 1) (by omega) (by omega) (hu.more e) fun m m1 m2 m3 m4 => h m (by omega) (by omega) m3 (m4.imp_left fun z => by omega)
def Eqs {O : KeyOrd} (key : Nat → O.α) (p : Array Nat) (m q : Nat) : Prop := q + 1 ≤ m ∧ ∀ i, m - (q + 1) ≤ i → i < m → ka key p i = ka key p (m - 1)
theorem Eqs.zero {p : Array Nat} {m : Nat} (h : 1 ≤ m) : Eqs key p m 0 := ⟨by omega, fun i h1 h2 => by rw [show i = m - 1 by omega]⟩
theorem desc_wp (hc : Asks key n cmp s) {Q : Array Nat × Nat × Nat → Shared → Prop} : ∀ (f : Nat) (p : Array Nat) (a q : Nat), Rg n p → 1 ≤ a → a + f ≤ n → Down key p a → Eqs key p a q →
  (∀ p' m q', Rg n p' → a ≤ m → m ≤ a + f → Down key p' m → Eqs key p' m q' → Q (p', m, q') s) → (kas_desc f p a q).kasWp cmp Q s
 | 0, p, a, q, hp, _, _, hd, he, h => h p a q hp (Nat.le_refl _) (Nat.le_refl _) hd he
 |
  f + 1, p, a, q, hp, h1, hz, hd, he, h => by
  refine hc _ _ _ (hp.at (by omega)) (hp.at (by omega)) ?_
  show (if O.blt (ka key p a) (ka key p (a - 1)) = true then (if q > 0 then kas_desc f (kas_rev p (a - (q + 1)) a) (a + 1) 0 else kas_desc f p (a + 1) 0)
   else KasT.ask (p.getD (a - 1) 0) (p.getD a 0) fun d => if d = true then KasT.ret (p, a, q) else kas_desc f p (a + 1) (q + 1)).kasWp cmp Q s
  have hs := hp.size
  cases e : O.blt (ka key p a) (ka key p (a - 1)) with
  |
   true =>
   rw [if_pos rfl]
   by_cases hq : q > 0
   ·
    rw [if_pos hq]
    exact desc_wp hc f _ (a + 1) 0 (hp.rev _ _) (by omega) (by omega) (hd.more (ka_revE (by omega) he.2) (KeyOrd.kle_of_klt e)) (.zero (by omega)) fun p' m q' r1 r2 r3 r4 r5 => h p' m q' r1 (by omega) (by omega) r4 r5
   ·
    rw [if_neg hq]
    exact desc_wp hc f _ (a + 1) 0 hp (by omega) (by omega) (hd.more (fun _ => rfl) (KeyOrd.kle_of_klt e)) (.zero (by omega)) fun p' m q' r1 r2 r3 r4 r5 => h p' m q' r1 (by omega) (by omega) r4 r5
  |
   false =>
   rw [if_neg (by simp)]
   refine hc _ _ _ (hp.at (by omega)) (hp.at (by omega)) ?_
   show (if O.blt (ka key p (a - 1)) (ka key p a) = true then KasT.ret (p, a, q) else kas_desc f p (a + 1) (q + 1)).kasWp cmp Q s
   cases e2 : O.blt (ka key p (a - 1)) (ka key p a) with
   | true => exact h p a q hp (Nat.le_refl _) (by omega) hd he
   |
    false =>
    rw [if_neg (by simp)]
    have eq : ka key p a = ka key p (a - 1) := KeyOrd.kle_antisymm e2 e
    refine desc_wp hc f _ (a + 1) (q + 1) hp (by omega) (by omega) (hd.more (fun _ => rfl) (by rw [eq]; exact KeyOrd.kle_refl _)) ⟨by have := he.1; omega, fun i i1 i2 => ?_⟩ fun p' m q' r1 r2 r3 r4 r5 => h p' m q' r1 (by omega) (by omega) r4 r5
    rw [show a + 1 - 1 = a by omega]
    by_cases hi : i = a
    · rw [hi]
    · rw [eq]; exact he.2 i (by omega) (by omega)
theorem tail_wp (hc : Asks key n cmp s) {Q : Nat × Array Nat → Shared → Prop} {p : Array Nat} {a : Nat} (hp : Rg n p) (h1 : 1 ≤ a) (hz : a ≤ n) (hd : Down key p a)
  (h : ∀ m p', Rg n p' → 1 ≤ m → m ≤ n → Up key p' m → Q (m, p') s) : (kas_tail3 a n p).kasWp cmp Q s := by
 unfold kas_tail3
 rw [KasT.kasWp_bind]
 have hs := hp.size
 refine asc_wp hc (hp.rev 0 a) (n - a) a h1 (by omega) (fun i j hij hj => ?_) fun m m1 m2 m3 _ => h m _ (hp.rev 0 a) (by omega) (by omega) m3
 rw [ka_rev (by omega), ka_rev (by omega), if_pos (by omega), if_pos (by omega)]
 exact hd _ _ (by omega) (by omega)
theorem descPart_wp (hc : Asks key n cmp s) {Q : Nat × Array Nat → Shared → Prop} {p : Array Nat} {a : Nat} (hp : Rg n p) (hz : a + 1 ≤ n) (hd : Down key p (a + 1))
  (h : ∀ m p', Rg n p' → 1 ≤ m → m ≤ n → Up key p' m → Q (m, p') s) : (kas_descPart a n p).kasWp cmp Q s := by
 unfold kas_descPart
 rw [KasT.kasWp_bind]
 refine desc_wp hc _ p (a + 1) 0 hp (by omega) (by omega) hd (.zero (by omega)) fun p' m q r1 r2 r3 r4 r5 => ?_
 have hs := r1.size
 show (if q > 0 then kas_tail3 m n (kas_rev p' (m - (q + 1)) m) else kas_tail3 m n p').kasWp cmp Q s
 by_cases hq : q > 0
 ·
  rw [if_pos hq]
  refine tail_wp hc (r1.rev _ _) (by omega) (by omega) (fun i j hij hj => ?_) h
  rw [ka_revE (by omega) r5.2, ka_revE (by omega) r5.2]
  exact r4 i j hij hj
 ·
  rw [if_neg hq]
  exact tail_wp hc r1 (by omega) (by omega) r4 h
theorem count_wp (hc : Asks key n cmp s) {Q : Nat × Array Nat → Shared → Prop} {p : Array Nat} (hp : Rg n p) (h1 : 1 ≤ n) (h : ∀ m p', Rg n p' → 1 ≤ m → m ≤ n → Up key p' m → Q (m, p') s) : (kas_count n p).kasWp cmp Q s := by
 unfold kas_count
 rw [KasT.kasWp_bind]
 have hs := hp.size
 refine asc_wp hc hp (n - 1) 1 (Nat.le_refl _) (by omega) (fun i j hij hj => by rw [show i = j by omega]; exact KeyOrd.kle_refl _) fun m m1 m2 m3 m4 => ?_
 by_cases hmn : m = n
 ·
  rw [if_pos (by simpa using hmn)]
  exact h m p hp (by omega) (by omega) m3
 ·
  rw [if_neg (by simpa using hmn)]
  have hlt : O.klt (ka key p m) (ka key p (m - 1)) := m4.resolve_left (by omega)
  by_cases hg : m > 1
  ·
   rw [if_pos hg]
   refine hc _ _ _ (hp.at (by omega)) (hp.at (by omega)) ?_
   show (if O.blt (ka key p 0) (ka key p (m - 1)) = true then KasT.ret (m, p) else kas_descPart m n (kas_rev p 0 m)).kasWp cmp Q s
   cases e : O.blt (ka key p 0) (ka key p (m - 1)) with
   | true => exact h m p hp (by omega) (by omega) m3
   |
    false =>
    rw [if_neg (by simp)]
    have hall : ∀ k, 0 ≤ k → k < m → ka key p k = ka key p (m - 1) := fun k _ hk => KeyOrd.kle_antisymm (m3 k (m - 1) (by omega) (by omega)) (KeyOrd.kle_trans e (m3 0 k (by omega) hk))
    refine descPart_wp hc (hp.rev _ _) (by omega) (fun i j hij hj => ?_) h
    rw [ka_revE (by omega) hall, ka_revE (by omega) hall]
    by_cases hjm : j < m
    · rw [hall i (by omega) (by omega), hall j (by omega) hjm]; exact KeyOrd.kle_refl _
    ·
     obtain rfl : j = m := by omega
     by_cases hi : i = j
     · rw [hi]; exact KeyOrd.kle_refl _
     · rw [hall i (by omega) (by omega)]; exact KeyOrd.kle_of_klt hlt
  ·
   rw [if_neg hg]
   obtain rfl : m = 1 := by omega
   refine descPart_wp hc hp (by omega) (fun i j hij hj => ?_) h
   by_cases hi : i = j
   · rw [hi]; exact KeyOrd.kle_refl _
   ·
    obtain rfl : i = 0 := by omega
    obtain rfl : j = 1 := by omega
    exact KeyOrd.kle_of_klt hlt
theorem place_wp {p : Array Nat} {k : Nat} (hc : Asks key n cmp s) (hp : Rg n p) (hk : k < n) (hu : Up key p k) {Q : Nat → Shared → Prop}
  (h : ∀ l, l ≤ k → (∀ i, i < l → O.kle (ka key p i) (ka key p k)) → (∀ i, l ≤ i → i < k → O.klt (ka key p k) (ka key p i)) → Q l s) : ∀ (f l r : Nat), l ≤ r → r ≤ k → r - l ≤ f →
  (∀ i, i < l → O.kle (ka key p i) (ka key p k)) → (∀ i, r ≤ i → i < k → O.klt (ka key p k) (ka key p i)) → (kas_place p k f l r).kasWp cmp Q s
 | 0, l, r, hlr, hrk, hf, lo, hi => h l (by omega) lo (by rw [show l = r by omega]; exact hi)
 |
  f + 1, l, r, hlr, hrk, hf, lo, hi => by
  unfold kas_place
  by_cases hg : l ≥ r
  ·
   rw [if_pos hg]
   exact h l (by omega) lo (by rw [show l = r by omega]; exact hi)
  ·
   rw [if_neg hg]
   refine hc _ _ _ (hp.at hk) (hp.at (by omega)) ?_
   show (if O.blt (ka key p k) (ka key p ((l + r) / 2)) = true then kas_place p k f l ((l + r) / 2) else kas_place p k f ((l + r) / 2 + 1) r).kasWp cmp Q s
   cases e : O.blt (ka key p k) (ka key p ((l + r) / 2)) with
   |
    true =>
    rw [if_pos rfl]
    exact place_wp hc hp hk hu h f l _ (by omega) (by omega) (by omega) lo fun i i1 i2 => KeyOrd.klt_of_klt_of_kle e (hu _ _ i1 i2)
   |
    false =>
    rw [if_neg (by simp)]
    exact place_wp hc hp hk hu h f _ r (by omega) (by omega) (by omega) (fun i i1 => KeyOrd.kle_trans (hu i ((l + r) / 2) (by omega) (by omega)) e) hi
theorem ka_bub {p : Array Nat} {k d : Nat} (hk : k < p.size) (hd : d ≤ k) (i : Nat) : ka key (bubble p k d) i = if i = k - d then ka key p k else if k - d < i ∧ i ≤ k then ka key p (i - 1) else ka key p i := by
 have e := getElem?_bubble (xs := p) hk d hd i
 by_cases h1 : i = k - d
 · rw [if_pos h1] at e ⊢; exact ka_congr e
 ·
  rw [if_neg h1] at e ⊢
  by_cases h2 : k - d < i ∧ i ≤ k
  · rw [if_pos h2] at e ⊢; exact ka_congr e
  · rw [if_neg h2] at e ⊢; exact ka_congr e
theorem bin_wp (hc : Asks key n cmp s) {Q : Array Nat → Shared → Prop} (h : ∀ p', Rg n p' → Up key p' n → Q p' s) : ∀ (f : Nat) (p : Array Nat) (k : Nat), Rg n p → k + f = n → Up key p k → (kas_bin f p k).kasWp cmp Q s
 | 0, p, k, hp, hk, hu => h p hp (by rw [← hk]; exact hu)
 |
  f + 1, p, k, hp, hk, hu => by
  unfold kas_bin
  rw [KasT.kasWp_bind]
  have hs := hp.size
  refine place_wp hc hp (by omega) hu (fun l hl lo hi => ?_) k 0 k (Nat.zero_le _) (Nat.le_refl _) (by omega) (fun i hi => absurd hi (Nat.not_lt_zero _)) (fun i h1 h2 => by omega)
  refine bin_wp hc h f _ (k + 1) (hp.bub _ _) (by omega) fun i j hij hj => ?_
  rw [ka_bub (by omega) (by omega), ka_bub (by omega) (by omega), show k - (k - l) = l by omega]
  repeat' split
  all_goals first
   | (exfalso; omega)
   | exact KeyOrd.kle_refl _
   | exact lo _ (by omega)
   | exact KeyOrd.kle_of_klt (hi _ (by omega) (by omega))
   | exact hu _ _ (by omega) (by omega)
theorem sort_wp (hc : Asks key n cmp s) (h1 : 1 ≤ n) {Q : Array Nat → Shared → Prop} (h : ∀ p, Rg n p → Up key p n → Q p s) : (kas_sort n).kasWp cmp Q s := by
 unfold kas_sort
 rw [KasT.kasWp_bind]
 refine count_wp hc (Array.Perm.refl _) h1 fun m p hp h1 h2 hu => ?_
 show (if m < n then kas_bin (n - max m 1) p (max m 1) else KasT.ret p).kasWp cmp Q s
 rw [show max m 1 = m by omega]
 by_cases hm : m < n
 ·
  rw [if_pos hm]
  exact bin_wp hc h _ p m hp (by omega) hu
 ·
  rw [if_neg hm]
  exact h p hp (by rw [show n = m by omega]; exact hu)
end
abbrev RA := Addr × (Int × Int)
def refs (rs : List RA) : List V := rs.map fun x => V.ref x.1
def RowOk (H : Hp) (rs : List RA) : Prop := ∀ x ∈ rs, H x.1 = some (.tup [.int x.2.1, .int x.2.2])
def TupsH (h : Heap) (rs : List RA) : Prop := ∀ x ∈ rs, ∃ (o : Obj) (t u : Tok) (k : Nat), h.get? x.1 = some o ∧ o.cls = .type "tuple" ∧ o.data = .seq #[.int x.2.1 t, .int x.2.2 u] k
theorem Inv.pair {X : Cx} {pins : List (Addr × Obj)} {σ : St} {H : Hp} {s : Shared} (I : Inv X pins σ H s) {a : Addr} {i j : Int} (h : H a = some (.tup [.int i, .int j])) :
  ∃ (o : Obj) (t u : Tok) (k : Nat), s.heap.get? a = some o ∧ o.cls = .type "tuple" ∧ o.data = .seq #[.int i t, .int j u] k := by
 obtain ⟨its, r, ⟨o, ho, hc, k, hd⟩, _⟩ := I.tuple (SqT.of h)
 cases r with
 |
  cons r1 r =>
  cases r with
  |
   cons r2 r =>
   cases r
   obtain ⟨t, rfl⟩ := r1
   obtain ⟨u, rfl⟩ := r2
   exact ⟨o, t, u, k, ho, hc, hd⟩
theorem Inv.tups {X : Cx} {pins : List (Addr × Obj)} {σ : St} {H : Hp} {s : Shared} (I : Inv X pins σ H s) {rs : List RA} (h : RowOk H rs) : TupsH s.heap rs := fun x hx => I.pair (h x hx)
section
variable {prog : Program} {w : World} {A : Around} {E : Value → Shared → Prop} {s : Shared} {rs : List RA}
end
end L2
namespace L2
open PySem PySem.Spec PyProof.Rows PySem.SeqAt
def sps (rs : List RA) : List (Int × Int) := rs.map (·.2)
theorem hu2 {cm : Bool} {k : Nat} {A : Around} (hr : Room cm k A) : A.units + 2 < cLine := Nat.lt_of_le_of_lt (Nat.add_le_add_left (by decide : 2 ≤ 64) _) hr.units
theorem RowOk.up {H H' : Hp} {rs : List RA} (h : RowOk H rs) (s : Same H H') : RowOk H' rs := fun x hx => s _ _ (h x hx)
theorem RowOk.upd {H : Hp} {rs : List RA} {l : Addr} {xs : List V} {o : HO} (h : RowOk H rs) (hl : H l = some (.lst xs)) : RowOk (upd H l o) rs := fun x hx => by
 rw [upd_ne (fun e => by have := h x hx; rw [e, hl] at this; cases this)]
 exact h x hx
theorem RowOk.nil {H : Hp} : RowOk H [] := fun _ h => nomatch h
theorem RowOk.app {H : Hp} {rs : List RA} {a : Addr} {b e : Int} (h : RowOk H rs) (ha : H a = some (.tup [.int b, .int e])) : RowOk H (rs ++ [(a, b, e)]) := fun x hx => by
 rcases List.mem_append.mp hx with hx | hx
 · exact h x hx
 ·
  rw [List.mem_singleton] at hx
  subst hx
  exact ha
theorem RowOk.init {H : Hp} {rs : List RA} {y : RA} (h : RowOk H (rs ++ [y])) : RowOk H rs := fun x hx => h x (List.mem_append_left _ hx)
theorem refs_app (rs : List RA) (a : Addr) (b e : Int) : refs rs ++ [.ref a] = refs (rs ++ [(a, b, e)]) := by unfold refs; rw [List.map_append]; rfl
section
variable {X : Cx}
theorem RowOk.same {H : Hp} {rs qs : List RA} (h : RowOk H rs) (h' : RowOk H qs) : ∀ x ∈ rs, ∀ y ∈ qs, x.1 = y.1 → x.2 = y.2 := by
 intro x hx y hy e
 have a := h x hx
 have b := h' y hy
 rw [e, b] at a
 injection a with a
 injection a with a
 injection a with a1 a
 injection a with a2 _
 injection a1 with a1
 injection a2 with a2
 exact Prod.ext a1.symm a2.symm
theorem Vals.rev : ∀ {xs : List V} {us : List Value}, Vals xs us → Vals xs.reverse us.reverse
 | [], [], .nil => .nil
 |
  x :: xs, u :: us, .cons r1 r2 => by
  rw [List.reverse_cons, List.reverse_cons]
  exact (Vals.rev r2).append (.cons r1 .nil)
end
end L2
namespace L2
open PySem PySem.Spec PyProof.Rows PySem.SeqAt
def RowAt (H : Hp) (l : Addr) (rs : List RA) : Prop := H l = some (.lst (refs rs)) ∧ RowOk H rs
theorem RowAt.up {H H' : Hp} {l : Addr} {rs : List RA} (h : RowAt H l rs) (s : Same H H') : RowAt H' l rs := ⟨s _ _ h.1, h.2.up s⟩
def SameX (F : Addr) (H H' : Hp) : Prop := ∀ b o, b ≠ F → H b = some o → H' b = some o
theorem SameX.refl (F : Addr) (H : Hp) : SameX F H H := fun _ _ _ e => e
theorem SameX.same {F : Addr} {H H2 H' : Hp} (s : Same H H2) (x : SameX F H2 H') (hF : H F = none) : Same H H' := fun b o e => x b o (ne_of_none e hF) (s b o e)
theorem SameX.put {F t : Addr} {H H' : Hp} {o : HO} {xs : List V} (x : SameX F H H') (ht : H' t = none) : SameX F H (upd (upd H' t o) F (.lst xs)) := fun b u hb e => by
 rw [upd_ne hb]
 exact same_upd ht _ _ (x b u hb e)
theorem RowAt.put {H : Hp} {F t : Addr} {fs : List RA} {b e : Int} (h : RowAt H F fs) (ht : H t = none) : RowAt (upd (upd H t (.tup [.int b, .int e])) F (.lst (refs fs ++ [.ref t]))) F (fs ++ [(t, b, e)]) := by
 have htF : t ≠ F := fun z => by rw [z, h.1] at ht; cases ht
 have hF2 : upd H t (.tup [.int b, .int e]) F = some (.lst (refs fs)) := by rw [upd_ne (fun z => htF z.symm)]; exact h.1
 exact ⟨by rw [upd_same, refs_app _ _ b e], RowOk.app ((h.2.up (same_upd ht)).upd hF2) (by rw [upd_ne htF]; exact upd_same)⟩
section
variable {X : Cx}
end
end L2
namespace L2
open PySem PySem.Spec PySem.Calls PyProof.Rows Builtin Builtin.Str
section
variable {X : Cx}
end
end L2
namespace L2
open PySem PySem.Spec PySem.Calls PyProof.Rows
section
variable {X : Cx} {m : Str} {apos pos : Pos} {o e : Expr} {es : List Expr} {ta : TE} {t : TA}
structure Ans (X : Cx) (m : Str) (n : Nat) (C : Addr) (R : V → List V → Hp → VK → Prop) : Prop where
 cls : Cls X.K C
 run : ∃ (f : Addr) (fd : FuncData) (ps : List Str) (ds : List Value) (dvs : List V) (CX : CXT) (cm : Bool) (k : Nat) (sp : Sp) (E : XK), Meth X.K C m f ∧ FnOk X.prog X.w X.K X.mg X.base CX cm k f fd ps sp ∧ Room cm k X.A ∧ Binds X.K fd ps ds ∧ Vals dvs ds ∧ Passes CX X E ∧
  ∀ x vs H Q, vs.length = n → R x vs H Q → sp (x :: (vs ++ dvs)) H Q E
def tMethV (m : Str) (n : Nat) (D : Addr → (V → List V → Hp → VK → Prop) → Prop) (ta : TE) (t : TA) : TE := fun σ H Q => ta σ H fun x H1 => ∃ a C dx fs R, x = .ref a ∧ H1 a = some (.ins C dx fs) ∧ fs.lookup m = none ∧ D C R ∧
 t σ H1 fun vs H2 => vs.length = n ∧ R x vs H2 Q
theorem pe_methV {pl : Sem Bool} {n : Nat} {D : Addr → (V → List V → Hp → VK → Prop) → Prop} (he : PE X o ta) (hD : ∀ C R, D C R → Ans X m n C R) (ha : PA X (e :: es) t)
  (hst : starEach (e :: es) X.env = (false, eval e X.env) :: starEach es X.env := by rfl) (hpl : (backTo pos (starEach es X.env)).any (·.1) = false := by rfl)
  (ht : eval (.Call (.Attribute o m apos) (e :: es) [] pos) X.env = (do
   let ov ← eval o X.env
   standAt apos.atName
   let (f, first) ← holding [ov] (getMethod ov m pl)
   callWith pos f first (backTo pos (starEach (e :: es) X.env)) (backToKw pos (keywordEach [] X.env))) := by rfl) :
  PE X (.Call (.Attribute o m apos) (e :: es) [] pos) (tMethV m n D ta t) := by
 intro pins s σ H Q I h
 refine W.methodCall_KW (pl := pl) (thn (he pins s σ H _ I h) fun u s1 ⟨x, H1, I1, rx, a, C, dx, fs, R, ex, ea, l, d, q⟩ => ?_) ht
 subst ex
 obtain rfl : u = Value.ref a := rx
 obtain ⟨c, f, fd, ps, ds, dvs, CX, cm, k, sp, E, hm, F, hr, hb, hd, hx, hR⟩ := hD C R d
 refine getmeth_ok I1 ea c hm l ?_
 refine W.callWith_K (first := [.ref a]) (h₀ := X.base) I.ok.mod.kin hm.kp (thn (ha pos pins s1 σ H1 _ I1 q) fun us s2 ⟨vs, H2, I2, r, hn, q2⟩ => ⟨I2.kIn, ?_⟩) hst hpl
 exact run_fn (us := .ref a :: us) (vs := .ref a :: vs) F hr hb hd hx I2 (.cons rfl r) (hR _ _ _ _ hn q2)
end
section
variable {X : Cx} {K : W.Frag} {o e value : Expr} {f : Str} {pos pos' : Pos} {ta tv : TE} (hK : X.K = K)
include hK
theorem pe_fldK (he : PE X e ta) (hb : attributeBase e f X.env (eval e X.env) = eval e X.env := by rfl) : PE X (.Attribute e f pos) (tFld K ta f) := by subst hK; exact pe_fld he hb
theorem ps_fldK (ha : PE X o ta) (hv : PE X value tv) (hs : swapsWith value (some (.Attribute o f pos')) pos.line X.env = pure false := by rfl) : PS X (.Assign [.Attribute o f pos'] value pos) (sFld K ta tv f) := by subst hK; exact ps_fld ha hv hs
end
end L2
namespace L2
open PySem PySem.Spec PySem.Calls PyProof.Rows
section
variable {X : Cx} {CX : CXT} {cm : Bool} {k : Nat} {f C : Addr} {fd : FuncData} {ps : List Str} {sp : Sp} {dvs : List V} {ds : List Value} {E : XK} {x m : Str} {p pos apos : Pos} {e : Expr} {es : List Expr} {t : TA}
structure ClsFn (K : W.Frag) (C : Addr) (m : Str) (f : Addr) : Prop where
 ga : W.specialIn K (.ref C) "__getattribute__" = some (some (.builtin "type.__getattribute__"))
 rd : W.readsIn K C (.type "type") = true
 at_ : W.findCls K (.ref C) (.type "type") m = some (.val (.ref f))
 hi : W.handedIn (.ref f) = true
 kp : W.keepIn K (.ref f) = true
end
end L2
namespace L2
open PySem PySem.Spec PyProof.Rows
theorem pg_tupK {X : Cx} {K : W.Frag} {es : List Expr} {k : Nat} {t : TGs} {n : Nat} {pos : Pos} (hK : X.K = K) (hc : X.calm = true) (h : PGs X es t)
 (hn : (assignEach es X.env).length = n := by rfl) (hst : (assignEach es X.env).findIdx? (·.1) = none := by rfl) : PG X (.Tuple es k pos) (gTup K n t) := by subst hK; exact pg_tup hc h hn hst
end L2
namespace L2
open PySem PySem.Spec PyProof.Rows PySem.SeqAt
section
variable {X : Cx}
end
end L2
namespace L2
open PySem PySem.Spec PyProof.Rows PySem.SeqAt
section
variable {X : Cx}
end
end L2
namespace L2
open PySem PySem.Spec PyProof.Rows
section
variable {X : Cx}
end
end L2
namespace L2
open PySem PySem.Spec PyProof.Rows
def tCut (t u : TS) : TS := fun D σ H => ∃ P : St → Hp → Prop, t { D with nx := P } σ H ∧ ∀ σ' H', P σ' H' → u D σ' H'
section
variable {X : Cx} {st : Stmt} {rest : List Stmt} {t u : TS}
theorem pss_cut (h1 : PS X st t) (h2 : PSs X rest u) : PSs X (st :: rest) (tCut t u) := by
 intro pins s σ H D I h
 obtain ⟨P, ha, hb⟩ := h
 refine wpAny_execs_cons (thn (h1 pins s σ H { D with nx := P } I ha) fun f s1 q => ?_)
 cases f with
 |
  next =>
  obtain ⟨σ', H', I', q⟩ := q
  exact h2 pins s1 σ' H' D I' (hb σ' H' q)
 | ret v => exact q
 | brk => exact q
 | cont => exact q
end
end L2
namespace L2
section
variable {α : Type} {R : α → α → Prop}
structure MI (R : α → α → Prop) (all out A B : List α) : Prop where
 perm : (out ++ (A ++ B)).Perm all
 so : out.Pairwise R
 la : ∀ x ∈ out, ∀ y ∈ A, R x y
 lb : ∀ x ∈ out, ∀ y ∈ B, R x y
 sa : A.Pairwise R
 sb : B.Pairwise R
theorem MI.lefts {all out X A B : List α} (h : MI R all out (X ++ A) B) (hx : ∀ x ∈ X, ∀ y ∈ B, R x y) : MI R all (out ++ X) A B := by
 obtain ⟨p, so, la, lb, sa, sb⟩ := h
 rw [List.pairwise_append] at sa
 refine ⟨?_, ?_, ?_, ?_, sa.2.1, sb⟩
 · simpa [List.append_assoc] using p
 ·
  rw [List.pairwise_append]
  exact ⟨so, sa.1, fun x hx y hy => la x hx y (List.mem_append_left _ hy)⟩
 ·
  intro x hm y hy
  rcases List.mem_append.mp hm with hm | hm
  · exact la x hm y (List.mem_append_right _ hy)
  · exact sa.2.2 x hm y hy
 ·
  intro x hm y hy
  rcases List.mem_append.mp hm with hm | hm
  · exact lb x hm y hy
  · exact hx x hm y hy
theorem MI.flip {all out A B : List α} (h : MI R all out A B) : MI R all out B A :=
 ⟨(List.Perm.append_left _ List.perm_append_comm).trans h.perm, h.so, h.lb, h.la, h.sb, h.sa⟩
theorem MI.rights {all out X A B : List α} (h : MI R all out A (X ++ B)) (hx : ∀ x ∈ X, ∀ y ∈ A, R x y) : MI R all (out ++ X) A B := (h.flip.lefts hx).flip
theorem MI.left {x : α} {all out A B : List α} (h : MI R all out (x :: A) B) (hx : ∀ y ∈ B, R x y) : MI R all (out ++ [x]) A B :=
 MI.lefts (X := [x]) h fun z hz y hy => by rw [List.mem_singleton.mp hz]; exact hx y hy
theorem MI.right {x : α} {all out A B : List α} (h : MI R all out A (x :: B)) (hx : ∀ y ∈ A, R x y) : MI R all (out ++ [x]) A B := (h.flip.left hx).flip
def MD (R : α → α → Prop) (all l : List α) : Prop := l.Perm all ∧ l.Pairwise R
theorem MI.doneA {all out A : List α} (h : MI R all out A []) : MD R all (out ++ A) := by
 refine ⟨by simpa using h.perm, ?_⟩
 rw [List.pairwise_append]
 exact ⟨h.so, h.sa, h.la⟩
theorem MI.last {all out A B : List α} (h : MI R all out A B) (hx : ∀ y ∈ B, ∀ x ∈ A, R y x) : MD R all (out ++ (B ++ A)) := by
 have h' : MI R all out A (B ++ []) := by rw [List.append_nil]; exact h
 have := (h'.rights hx).doneA
 rw [List.append_assoc] at this
 exact this
end
section
variable {α : Type} {R : α → α → Prop}
def RunsL (R : α → α → Prop) : List (Nat × Nat × Nat) → Nat → List α → Prop
 | [], _, l => l = []
 | (a, n, _) :: r, x, l => a = x ∧ 1 ≤ n ∧ ∃ S l', l = S ++ l' ∧ S.length = n ∧ S.Pairwise R ∧ RunsL R r (x + n) l'
theorem RunsL.append : ∀ {p q : List (Nat × Nat × Nat)} {x : Nat} {l m : List α}, RunsL R p x l → RunsL R q (x + l.length) m → RunsL R (p ++ q) x (l ++ m)
 |
  [], q, x, l, m, h1, h2 => by
  cases (h1 : l = [])
  exact h2
 |
  (a, n, w) :: p, q, x, l, m, h1, h2 => by
  obtain ⟨e, hn, S, l', rfl, hS, hp, h1⟩ := h1
  refine ⟨e, hn, S, l' ++ m, by rw [List.append_assoc], hS, hp, RunsL.append h1 ?_⟩
  rw [List.length_append, hS] at h2
  rw [Nat.add_assoc]; exact h2
theorem RunsL.split : ∀ {p q : List (Nat × Nat × Nat)} {x : Nat} {l : List α}, RunsL R (p ++ q) x l → ∃ l1 l2, l = l1 ++ l2 ∧ RunsL R p x l1 ∧ RunsL R q (x + l1.length) l2
 | [], q, x, l, h => ⟨[], l, rfl, rfl, h⟩
 |
  (a, n, w) :: p, q, x, l, h => by
  obtain ⟨e, hn, S, l', rfl, hS, hp, h⟩ := h
  obtain ⟨l1, l2, rfl, h1, h2⟩ := RunsL.split h
  refine ⟨S ++ l1, l2, by rw [List.append_assoc], ⟨e, hn, S, l1, rfl, hS, hp, h1⟩, ?_⟩
  rw [List.length_append, hS, ← Nat.add_assoc]; exact h2
theorem RunsL.len : ∀ {p : List (Nat × Nat × Nat)} {x : Nat} {l : List α}, RunsL R p x l → p.length ≤ l.length
 | [], _, _, _ => Nat.zero_le _
 |
  (a, n, w) :: p, x, l, h => by
  obtain ⟨e, hn, S, l', rfl, hS, hp, h⟩ := h
  have := RunsL.len h
  rw [List.length_append, List.length_cons]; omega
theorem RunsL.two {p q : List (Nat × Nat × Nat)} {u v : Nat × Nat × Nat} {l : List α} (h : RunsL R (p ++ u :: v :: q) 0 l) :
  ∃ l1 X Y l2, l = l1 ++ (X ++ (Y ++ l2)) ∧ u.1 = l1.length ∧ u.2.1 = X.length ∧ v.1 = l1.length + X.length ∧ v.2.1 = Y.length ∧ 1 ≤ X.length ∧ 1 ≤ Y.length ∧ X.Pairwise R ∧ Y.Pairwise R ∧
   ∀ M w, M.Pairwise R → M.length = X.length + Y.length → RunsL R (p ++ (u.1, u.2.1 + v.2.1, w) :: q) 0 (l1 ++ (M ++ l2)) := by
 obtain ⟨l1, l2, rfl, h1, h2⟩ := h.split
 obtain ⟨a, n, w⟩ := u
 obtain ⟨b, m, w2⟩ := v
 obtain ⟨e, hn, X, l', rfl, hX, hpX, e2, hm, Y, l2, rfl, hY, hpY, h3⟩ := h2
 refine ⟨l1, X, Y, l2, rfl, by rw [e]; exact Nat.zero_add _, hX.symm, by rw [e2, hX, Nat.zero_add], hY.symm, by omega, by omega, hpX, hpY, fun M w' hM hl => h1.append ⟨e, by show 1 ≤ n + m; omega, M, l2, rfl, by show M.length = n + m; omega, hM, ?_⟩⟩
 show RunsL R q (0 + l1.length + (n + m)) l2
 rw [← Nat.add_assoc]; exact h3
end
end L2
namespace L2
open PySem PyProof.Rows
section
variable {M : Model} {A : Around} {E : Value → Shared → Prop} {s : Shared}
end
section
variable {prog : Program} {w : World} {A : Around} {E : Value → Shared → Prop} {s : Shared} {O : KeyOrd} {key : Keyed → O.α} {D : Keyed → Prop} {κ : SortKind}
end
end L2
namespace L2
open PySem PyProof.Rows
def Upw (O : KeyOrd) (key : Keyed → O.α) (x y : Keyed) : Prop := O.kle (key x) (key y)
def SameS (st st' : SortSt) : Prop := kindOf st' = kindOf st ∧ arrOf st' = arrOf st ∧ pendingOf st' = pendingOf st ∧ failedOf st' = failedOf st
theorem SameS.refl (st : SortSt) : SameS st st := ⟨rfl, rfl, rfl, rfl⟩
theorem SameS.trans {s1 s2 s3 : SortSt} (h1 : SameS s1 s2) (h2 : SameS s2 s3) : SameS s1 s3 :=
 ⟨h2.1.trans h1.1, h2.2.1.trans h1.2.1, h2.2.2.1.trans h1.2.2.1, h2.2.2.2.trans h1.2.2.2⟩
section lo
variable {prog : Program} {w : World} {A : Around} {E : Value → Shared → Prop} {s : Shared} {O : KeyOrd} {key : Keyed → O.α} {D : Keyed → Prop} {κ : SortKind} {a b : Array Keyed}
structure MPre (O : KeyOrd) (key : Keyed → O.α) (D : Keyed → Prop) (a b : Array Keyed) : Prop where
 ua : a.toList.Pairwise (Upw O key)
 ub : b.toList.Pairwise (Upw O key)
 da : ∀ x ∈ a.toList, D x
 db : ∀ x ∈ b.toList, D x
 na : 1 ≤ a.size
 nb : 1 ≤ b.size
 first : ∀ (h1 : 0 < a.size) (h2 : 0 < b.size), O.kle (key b[0]) (key a[0])
 last : ∀ (h1 : a.size - 1 < a.size) (h2 : b.size - 1 < b.size), O.kle (key b[b.size - 1]) (key a[a.size - 1])
abbrev GI (O : KeyOrd) (key : Keyed → O.α) (a b o : Array Keyed) (i j : Nat) : Prop := MI (Upw O key) (a.toList ++ b.toList) o.toList (a.toList.drop i) (b.toList.drop j)
theorem GI.size {o : Array Keyed} {i j : Nat} (h : GI O key a b o i j) (hi : i ≤ a.size) (hj : j ≤ b.size) : o.size = i + j := by
 have := h.perm.length_eq
 simp only [List.length_append, List.length_drop, Array.length_toList] at this
 omega
structure Go (O : KeyOrd) (key : Keyed → O.α) (a b o : Array Keyed) (i j : Nat) : Prop where
 gi : GI O key a b o i j
 hi : i + 1 < a.size
 hj : j < b.size
end lo
end L2
namespace L2
open PySem PyProof.Rows
section hi
variable {prog : Program} {w : World} {A : Around} {E : Value → Shared → Prop} {s : Shared} {O : KeyOrd} {key : Keyed → O.α} {D : Keyed → Prop} {κ : SortKind} {a b : Array Keyed}
def Dnw (O : KeyOrd) (key : Keyed → O.α) (x y : Keyed) : Prop := O.kle (key y) (key x)
abbrev HI (O : KeyOrd) (key : Keyed → O.α) (a b o : Array Keyed) (i j : Nat) : Prop := MI (Dnw O key) (a.toList ++ b.toList) o.toList (a.toList.take i).reverse (b.toList.take j).reverse
theorem HI.size {o : Array Keyed} {i j : Nat} (h : HI O key a b o i j) (hi : i ≤ a.size) (hj : j ≤ b.size) : o.size + i + j = a.size + b.size := by
 have := h.perm.length_eq
 simp only [List.length_append, List.length_reverse, List.length_take, Array.length_toList] at this
 omega
theorem MD.rev {R : Keyed → Keyed → Prop} {all l : List Keyed} (h : MD (fun x y => R y x) all l) : MD R all l.reverse := ⟨(List.reverse_perm l).trans h.1, by rw [List.pairwise_reverse]; exact h.2⟩
structure Ho (O : KeyOrd) (key : Keyed → O.α) (a b o : Array Keyed) (i j : Nat) : Prop where
 gi : HI O key a b o i j
 i0 : 0 < i
 hi : i ≤ a.size
 j0 : 1 < j
 hj : j ≤ b.size
abbrev HC := Option (Array Keyed) × Nat × Nat × Array Keyed × Nat × Nat × Nat
end hi
end L2
namespace L2
open PySem PyProof.Rows
section
variable {prog : Program} {w : World} {A : Around} {E : Value → Shared → Prop} {s : Shared} {O : KeyOrd} {key : Keyed → O.α} {D : Keyed → Prop} {κ : SortKind}
end
end L2
namespace L2
open PySem PyProof.Rows
section
variable {prog : Program} {w : World} {A : Around} {E : Value → Shared → Prop} {s : Shared} {O : KeyOrd} {key : Keyed → O.α} {D : Keyed → Prop} {κ : SortKind} {a₀ : Array Keyed} {pd : Array (Nat × Nat × Nat)} {lo : Nat}
def kb {O : KeyOrd} (key : Keyed → O.α) (p : Array Keyed) (i : Nat) : O.α := key (p.getD i (Value.none, Value.none))
def UpS {O : KeyOrd} (key : Keyed → O.α) (p : Array Keyed) (lo hi : Nat) : Prop := ∀ i j, lo ≤ i → i ≤ j → j < hi → O.kle (kb key p i) (kb key p j)
def DnS {O : KeyOrd} (key : Keyed → O.α) (p : Array Keyed) (lo hi : Nat) : Prop := ∀ i j, lo ≤ i → i ≤ j → j < hi → O.kle (kb key p j) (kb key p i)
structure Bs (κ : SortKind) (a₀ : Array Keyed) (pd : Array (Nat × Nat × Nat)) (lo : Nat) (st : SortSt) : Prop where
 perm : (arrOf st).Perm a₀
 kind : kindOf st = κ
 failed : failedOf st = none
 pend : pendingOf st = pd
 pre : ∀ i, i < lo → (arrOf st)[i]? = a₀[i]?
theorem Bs.size {st : SortSt} (h : Bs κ a₀ pd lo st) : (arrOf st).size = a₀.size := h.perm.size_eq
theorem Bs.rev {st : SortSt} (h : Bs κ a₀ pd lo st) {i j : Nat} (hi : lo ≤ i) (hj : j ≤ a₀.size) : Bs κ a₀ pd lo (setArr st (mirror (arrOf st) i j ((j - i) / 2))) :=
 ⟨(
  mirror_perm _ _ _ _).trans h.perm, h.kind, h.failed, h.pend, fun k hk => by
  show (mirror (arrOf st) i j ((j - i) / 2))[k]? = _
  rw [getElem?_mirror_all (by rw [h.size]; exact hj), if_neg (by omega)]; exact h.pre k hk⟩
theorem Bs.bub {st : SortSt} (h : Bs κ a₀ pd lo st) {k d : Nat} (hk : k < a₀.size) (hd : lo + d ≤ k) : Bs κ a₀ pd lo (setArr st (bubble (arrOf st) k d)) :=
 ⟨(
  bubble_perm _ _ _).trans h.perm, h.kind, h.failed, h.pend, fun i hi => by
  show (bubble (arrOf st) k d)[i]? = _
  rw [getElem?_bubble (by rw [h.size]; exact hk) d (by omega), if_neg (by omega), if_neg (by omega)]; exact h.pre i hi⟩
theorem UpS.more {p : Array Keyed} {k : Nat} (h : UpS key p lo k) (hk : O.blt (kb key p k) (kb key p (k - 1)) = false) : UpS key p lo (k + 1) := by
 intro i j hl hij hj
 by_cases hjk : j < k
 · exact h i j hl hij hjk
 ·
  obtain rfl : j = k := by omega
  by_cases hi : i = j
  · rw [hi]; exact KeyOrd.kle_refl _
  · exact KeyOrd.kle_trans (h i (j - 1) hl (by omega) (by omega)) hk
theorem DnS.more {p q : Array Keyed} {k : Nat} (h : DnS key p lo k) (e : ∀ i, kb key q i = kb key p i) (hk : O.kle (kb key p k) (kb key p (k - 1))) : DnS key q lo (k + 1) := by
 intro i j hl hij hj
 rw [e, e]
 by_cases hjk : j < k
 · exact h i j hl hij hjk
 ·
  obtain rfl : j = k := by omega
  by_cases hi : i = j
  · rw [hi]; exact KeyOrd.kle_refl _
  · exact KeyOrd.kle_trans hk (h i (j - 1) hl (by omega) (by omega))
end
end L2
namespace L2
open PySem PyProof.Rows
section
variable {prog : Program} {w : World} {A : Around} {E : Value → Shared → Prop} {s : Shared} {O : KeyOrd} {key : Keyed → O.α} {D : Keyed → Prop} {κ : SortKind} {a₀ : Array Keyed} {pd : Array (Nat × Nat × Nat)} {lo : Nat}
structure RJ (O : KeyOrd) (key : Keyed → O.α) (κ : SortKind) (a₀ : Array Keyed) (tl : List Keyed) (m : Nat) (st : SortSt) : Prop where
 perm : (arrOf st).toList.Perm a₀.toList
 kind : kindOf st = κ
 failed : failedOf st = none
 runs : ∃ C, (arrOf st).toList = C ++ tl ∧ C.length = m ∧ RunsL (Upw O key) (pendingOf st).toList 0 C
theorem RJ.push {st : SortSt} {S rest : List Keyed} {lo n : Nat} (h : RJ O key κ a₀ (S ++ rest) lo st) (hS : S.length = n) (hn : 1 ≤ n) (hu : S.Pairwise (Upw O key)) : RJ O key κ a₀ rest (lo + n) (setPending st ((pendingOf st).push (lo, n, 0))) := by
 obtain ⟨hp, hk, hf', C, hC, hm, hr⟩ := h
 refine ⟨hp, hk, hf', C ++ S, by show (arrOf st).toList = _; rw [hC]; simp, by rw [List.length_append]; omega, ?_⟩
 show RunsL (Upw O key) ((pendingOf st).push (lo, n, 0)).toList 0 (C ++ S)
 rw [Array.toList_push]
 refine hr.append ⟨by show lo = 0 + C.length; omega, hn, S, [], by simp, hS, hu, rfl⟩
end
end L2
namespace L2
open PySem PySem.W PyProof.Rows
structure Sorts (prog : Program) (w : World) (A : Around) (s : Shared) (κ : SortKind) {O : KeyOrd} (key : Value → O.α) (vs : List Value) : Prop where
 kind : ∀ (E : Value → Shared → Prop) (Q : SortKind → Shared → Prop), Q κ s → wpAny (model prog w) A (keyKind' vs.toArray) Q E s
 cmp : ∀ x ∈ vs, ∀ y ∈ vs, ∀ C : Bool → Shared → Prop, C (O.blt (key x) (key y)) s → wpAny (model prog w) A (keyLt' κ x y) C (fun _ _ => False) s
section
variable {prog : Program} {w : World} {A : Around} {E : Value → Shared → Prop} {s : Shared} {vs : List Value} {O : KeyOrd} {key : Value → O.α} {κ : SortKind}
end
theorem TupsH.kept {h h' : Heap} {rs : List RA} (t : TupsH h rs) (kp : ∀ b o, h.get? b = some o → h'.get? b = some o) : TupsH h' rs := fun x hx => by
 obtain ⟨o, t1, u1, n, ho, z⟩ := t x hx
 exact ⟨o, t1, u1, n, kp _ _ ho, z⟩
theorem perm_of_map {α β : Type} {f : α → β} {us l : List β} (h : us.Perm l) : ∀ rs : List α, l = rs.map f → ∃ qs : List α, qs.Perm rs ∧ us = qs.map f := by
 induction h with
 | nil => intro rs e; exact ⟨rs, .refl _, e⟩
 |
  cons x h ih =>
  intro rs e
  cases rs with
  | nil => cases e
  |
   cons r rs =>
   injection e with e1 e2
   obtain ⟨qs, p, rfl⟩ := ih rs e2
   exact ⟨r :: qs, p.cons r, by rw [e1]; rfl⟩
 |
  swap x y l =>
  intro rs e
  match rs, e with
  |
   a :: b :: rs, e =>
   injection e with e1 e2
   injection e2 with e2 e3
   exact ⟨b :: a :: rs, List.Perm.swap .., by rw [e1, e2, e3]; rfl⟩
 |
  trans h1 h2 ih1 ih2 =>
  intro rs e
  obtain ⟨qs, p, rfl⟩ := ih2 rs e
  obtain ⟨ps, p', rfl⟩ := ih1 qs rfl
  exact ⟨ps, p'.trans p, rfl⟩
section
variable {X : Cx}
theorem call_maxL (hc : X.calm = true) : CallR X (.builtin "max") (fun xs H Q => ∃ (p : Addr) (ns : List Int), xs = [.ref p] ∧ H p = some (.lst (ns.map V.int)) ∧ 0 < ns.length ∧ ∀ M, M ∈ ns → (∀ a ∈ ns, a ≤ M) → Q (.int M) H) := by
 intro pins s σ H xs us Q I r h
 obtain ⟨p, ns, rfl, hp, hne, q⟩ := h
 obtain ⟨u, rfl, ru⟩ := vals1 r
 cases ru
 obtain ⟨its, rv, pl, hz⟩ := I.list (SqL.of (K := X.K) hp)
 have hi := intsAre_of rv
 obtain ⟨ys, e⟩ := hi.allInts.items
 have hns : ns = ys.toList.map (·.1) := by
  rw [← nums_intItems, ← e]
  exact (show numsOf its.toArray.toList = ns from hi.numsOf).symm
 have hsz : 0 < ys.size := by
  have h3 := hne; rw [hns, List.length_map, Array.length_toList] at h3; exact h3
 refine max_intList (I.ok.hd hc) (e ▸ pl.isList) hsz fun v h' tk hv hk => ?_
 obtain ⟨t, rfl⟩ := intItems_at hv
 obtain ⟨h1, h2⟩ := argBest_gt (numAt ys) (ys.size - 1)
 refine ⟨.int _, H, I.kept hk, ⟨_, rfl⟩, q _ ?_ fun a ha => ?_⟩
 · rw [hns, numAt_eq]; exact getD_mem (by rw [List.length_map, Array.length_toList]; omega)
 ·
  rw [hns] at ha
  obtain ⟨j, hj, rfl⟩ := mem_getD ha
  rw [List.length_map, Array.length_toList] at hj
  rw [← numAt_eq]; exact h2 j (by omega)
end
end L2
namespace L2
open PySem PySem.Spec PyProof.Rows
end L2
namespace L2
open PySem PySem.Spec PyProof.Rows
section
variable (P : Program) (w : World)
end
section
variable {P : Program} {w : World} {H H' : Hp} {h h' : Heap} {a : Addr} {o : HO}
end
section
variable {P : Program} {w : World} {H : Hp} {h h' : Heap} {x e : Addr} {o' : HO}
end
section
variable {fs fs' ex ex' : List Addr} {H H1 H2 : Hp} {h h1 h2 h' : Heap} {a x e : Addr} {o : HO}
end
end L2
namespace L2
open PySem PySem.Spec PyProof.Rows
section
variable {X : Cx} {pins : List (Addr × Obj)} {σ : List (Option V)} {H H' : Hp} {s : Shared} {h' : Heap}
end
end L2
namespace L2
open PySem PySem.Spec PyProof.Rows
section
variable {X : Cx}
variable {a b : Expr} {ta tb : TE} {pos : Pos}
variable {tA tB' : TT} {rest : List Expr}
end
end L2
namespace L2
open PySem PySem.Spec PyProof.Rows
section
variable {X : Cx} {pins : List (Addr × Obj)} {σ : St} {H : Hp} {s : Shared} {a : Addr} {xs ys : List V}
end
section
variable {X : Cx} {pins : List (Addr × Obj)} {σ : St} {H : Hp} {s : Shared} {E : Value → Shared → Prop}
end
section
variable {X : Cx} {st : Stmt} {rest : List Stmt} {t u : TS} {e : Expr} {te : TE} {pos : Pos}
end
section
variable {X : Cx} {pos : Pos}
end
section
variable {X : Cx} {pos : Pos}
end
end L2
namespace L2
open PySem PySem.Spec PyProof.Rows
section
variable {X : Cx} {tg : Expr}
end
end L2
namespace L2
open PySem PySem.Spec PyProof.Rows
section
variable {X : Cx} {a b c : Expr} {ta tb tc : TE} {pos : Pos}
end
section
variable {X : Cx} {a b c : Expr} {ta tb tc : TE} {pos : Pos}
end
end L2
namespace L2
open PySem PySem.Spec PyProof.Rows
section
variable {prog : Program} {w : World} {A : Around} {E : Value → Shared → Prop} {s : Shared} {K : W.Frag} {x dx C f : Addr} {mA : Str → Option Value} {name : Str} {v : Value}
end
section
variable {P : Program} {w : World} {H H' : Hp} {h h' : Heap} {a C dx : Addr} {fs fs' : List (Str × V)}
end
section
variable {X : Cx} {pins : List (Addr × Obj)} {σ : St} {H : Hp} {s : Shared} {a C dx : Addr} {fs : List (Str × V)} {f : Str} {v : V} {A : Around} {E : Value → Shared → Prop}
end
section
variable {X : Cx} {o e value : Expr} {f : Str} {pos pos' tpos : Pos} {ta tv : TE}
end
section
variable {X : Cx} {pins : List (Addr × Obj)} {σ : St} {H : Hp} {s : Shared} {A : Around} {E : Value → Shared → Prop} {Q : Value → Shared → Prop} {c : Value} {b : Bool}
end
end L2
namespace L2
open PySem PySem.Spec PyProof.Rows
section
variable {X : Cx} {e : Expr} {es : List Expr} {te : TE} {t : TA} {pos : Pos}
end
section
variable {X : Cx} {pins : List (Addr × Obj)} {σ : St} {H : Hp} {s s' : Shared}
end
section
variable {X : Cx} {CX : CXT} {cm : Bool} {k : Nat} {f C : Addr} {fd : FuncData} {ps : List Str} {sp : Sp} {dvs : List V} {ds : List Value} {E : XK} {x m : Str} {p pos apos : Pos} {e o : Expr} {es : List Expr} {ta : TE} {t : TA}
end
section
variable {X : Cx} {CX : CXT} {cm : Bool} {k : Nat} {f C : Addr} {fd : FuncData} {ps ks : List Str} {sp : Sp} {E : XK} {x m : Str} {p pos apos kpos : Pos} {e o : Expr} {es : List Expr} {kws : List Keyword} {te ta : TE} {t tk : TA} {nm : Option Str}
variable {g : List Value → List Value → List Value} {gV : List V → List V → List V}
end
end L2
namespace L2
open PySem PySem.Spec PyProof.Rows
section
variable {X : Cx} {x : Str} {p pos : Pos} {e : Expr} {es : List Expr} {t : TA} {id T : String} {r : List V → Hp → VK → Prop}
end
end L2
namespace L2
open PySem PySem.Spec PyProof.Rows
section
variable {κ : Type} [DecidableEq κ]
def valV (kvs : List (κ × V)) (k : κ) : Option V := (kvs.find? fun kv => decide (kv.1 = k)).map (·.2)
def putK (kvs : List (κ × V)) (k : κ) (v : V) : List (κ × V) :=
 if (kvs.any fun kv => decide (kv.1 = k)) = true then kvs.map (fun kv => if kv.1 = k then (kv.1, v) else kv) else kvs ++ [(k, v)]
def dropK (kvs : List (κ × V)) (k : κ) : List (κ × V) := kvs.filter fun kv => decide (kv.1 ≠ k)
theorem valV_pos {p : κ × V} {r : List (κ × V)} {k : κ} (e : p.1 = k) : valV (p :: r) k = some p.2 := by simp [valV, List.find?_cons, e]
theorem valV_neg {p : κ × V} {r : List (κ × V)} {k : κ} (e : ¬ p.1 = k) : valV (p :: r) k = valV r k := by simp [valV, List.find?_cons, e]
theorem valV_any (k : κ) : ∀ kvs : List (κ × V), (kvs.any fun kv => decide (kv.1 = k)) = (valV kvs k).isSome
 | [] => rfl
 |
  p :: r => by
  rw [List.any_cons]
  by_cases e : p.1 = k
  · simp only [valV_pos e, decide_eq_true e, Bool.true_or, Option.isSome_some]
  · rw [valV_neg e, decide_eq_false e, Bool.false_or]; exact valV_any k r
theorem valV_map (k j : κ) (y : V) : ∀ kvs : List (κ × V), valV (kvs.map fun kv => if kv.1 = k then (kv.1, y) else kv) j = (valV kvs j).map fun x => if j = k then y else x
 | [] => rfl
 |
  p :: r => by
  have ih := valV_map k j y r
  rw [List.map_cons]
  by_cases h : p.1 = k
  ·
   rw [if_pos h]
   by_cases e : p.1 = j
   · rw [valV_pos (p := (p.1, y)) e, valV_pos e, Option.map_some, if_pos (e.symm.trans h)]
   · rw [valV_neg (p := (p.1, y)) e, valV_neg e, ih]
  ·
   rw [if_neg h]
   by_cases e : p.1 = j
   · rw [valV_pos (p := p) e, valV_pos e, Option.map_some, if_neg (fun z => h (e.trans z))]
   · rw [valV_neg (p := p) e, valV_neg e, ih]
theorem valV_snoc (k j : κ) (y : V) : ∀ kvs : List (κ × V), valV kvs k = none → valV (kvs ++ [(k, y)]) j = if j = k then some y else valV kvs j
 |
  [], _ => by
  by_cases e : k = j
  · rw [if_pos e.symm]; exact valV_pos (p := (k, y)) e
  · rw [if_neg (fun z => e z.symm)]; exact valV_neg (p := (k, y)) e
 |
  p :: r, hn => by
  rw [List.cons_append]
  have hk : ¬ p.1 = k := fun z => by rw [valV_pos z] at hn; cases hn
  rw [valV_neg hk] at hn
  have ih := valV_snoc k j y r hn
  by_cases e : p.1 = j
  · rw [valV_pos e, valV_pos e, if_neg (fun z => hk (e.trans z))]
  · rw [valV_neg e, valV_neg e, ih]
theorem valV_put (kvs : List (κ × V)) (k j : κ) (y : V) : valV (putK kvs k y) j = if j = k then some y else valV kvs j := by
 unfold putK
 by_cases a : (kvs.any fun kv => decide (kv.1 = k)) = true
 ·
  rw [if_pos a, valV_map]
  rw [valV_any] at a
  by_cases e : j = k
  ·
   obtain ⟨x, hx⟩ := Option.isSome_iff_exists.mp a
   rw [if_pos e, e, hx, Option.map_some, if_pos rfl]
  ·
   rw [if_neg e]
   cases valV kvs j with
   | none => rfl
   | some x => rw [Option.map_some, if_neg e]
 ·
  rw [if_neg a]
  refine valV_snoc k j y kvs ?_
  rw [valV_any] at a
  cases q : valV kvs k with
  | none => rfl
  | some x => rw [q] at a; exact (a rfl).elim
theorem length_putK (kvs : List (κ × V)) (k : κ) (v : V) : (putK kvs k v).length ≤ kvs.length + 1 := by
 unfold putK
 split
 · rw [List.length_map]; omega
 · rw [List.length_append, List.length_cons, List.length_nil]; omega
theorem putK_new {kvs : List (κ × V)} {k : κ} (v : V) (h : valV kvs k = none) : putK kvs k v = kvs ++ [(k, v)] := by
 unfold putK
 rw [valV_any, h]
 exact if_neg (by decide)
theorem RelO.isSome_eq {o : Option V} {u : Option Value} (r : RelO o u) : o.isSome = u.isSome := by
 cases o with
 |
  none => cases u with
  | none => rfl
  | some _ => exact (show False from r).elim
 |
  some _ => cases u with
  | none => exact (show False from r).elim
  | some _ => rfl
theorem RelO.getD {o : Option V} {u : Option Value} {d : V} {d' : Value} (r : RelO o u) (rd : RelV d d') : RelV (o.getD d) (u.getD d') := by
 cases o with
 |
  none => cases u with
  | none => exact rd
  | some _ => exact (show False from r).elim
 |
  some _ => cases u with
  | none => exact (show False from r).elim
  | some _ => exact r
theorem KV.val {kvs : List (κ × V)} {vs : List (κ × Value)} (r : KV kvs vs) (k : κ) : RelO (valV kvs k) (valueAt vs k) := by
 unfold KV at r
 induction r with
 | nil => exact True.intro
 |
  @cons p q ps qs h t ih =>
  obtain ⟨h1, h2⟩ := h
  by_cases e : p.1 = k
  ·
   have e' : q.1 = k := h1.symm.trans e
   have b : valueAt (q :: qs) k = some q.2 := by simp [valueAt, List.find?_cons, e']
   rw [valV_pos e, b]; exact h2
  ·
   have e' : ¬ q.1 = k := fun z => e (h1.trans z)
   have b : valueAt (q :: qs) k = valueAt qs k := by simp [valueAt, List.find?_cons, e']
   rw [valV_neg e, b]; exact ih
theorem KV.any {kvs : List (κ × V)} {vs : List (κ × Value)} (r : KV kvs vs) (k : κ) : (kvs.any fun kv => decide (kv.1 = k)) = vs.any fun kv => decide (kv.1 = k) := by
 unfold KV at r
 induction r with
 | nil => rfl
 | cons h t ih => rw [List.any_cons, List.any_cons, ih, h.1]
theorem KV.repl {kvs : List (κ × V)} {vs : List (κ × Value)} (r : KV kvs vs) (k : κ) {y : V} {u : Value} (ry : RelV y u) :
  KV (kvs.map fun kv => if kv.1 = k then (kv.1, y) else kv) (vs.map fun kv => if kv.1 = k then (kv.1, u) else kv) := by
 unfold KV at r ⊢
 induction r with
 | nil => exact .nil
 |
  @cons p q ps qs h t ih =>
  rw [List.map_cons, List.map_cons]
  refine .cons ?_ ih
  obtain ⟨h1, h2⟩ := h
  by_cases e : p.1 = k
  · rw [if_pos e, if_pos (h1.symm.trans e)]; exact ⟨h1, ry⟩
  · rw [if_neg e, if_neg (fun z => e (h1.trans z))]; exact ⟨h1, h2⟩
theorem KV.put {kvs : List (κ × V)} {vs : List (κ × Value)} (r : KV kvs vs) (k : κ) {y : V} {u : Value} (ry : RelV y u) : KV (putK kvs k y) (stored vs k u) := by
 unfold putK stored
 rw [r.any k]
 by_cases e : (vs.any fun kv => decide (kv.1 = k)) = true
 · rw [if_pos e, if_pos e]; exact r.repl k ry
 · rw [if_neg e, if_neg e]; exact Paired.snoc r ⟨rfl, ry⟩
theorem KV.drop {kvs : List (κ × V)} {vs : List (κ × Value)} (r : KV kvs vs) (k : κ) : KV (dropK kvs k) (without vs k) := by
 unfold KV at r ⊢
 unfold dropK without
 induction r with
 | nil => exact .nil
 |
  @cons p q ps qs h t ih =>
  obtain ⟨h1, h2⟩ := h
  rw [List.filter_cons, List.filter_cons]
  by_cases e : p.1 = k
  ·
   have a : ¬ decide (p.1 ≠ k) = true := by simp [e]
   have b : ¬ decide (q.1 ≠ k) = true := by simp [h1.symm.trans e]
   rw [if_neg a, if_neg b]; exact ih
  ·
   have e' : ¬ q.1 = k := fun z => e (h1.trans z)
   have a : decide (p.1 ≠ k) = true := by simp [e]
   have b : decide (q.1 ≠ k) = true := by simp [e']
   rw [if_pos a, if_pos b]; exact .cons ⟨h1, h2⟩ ih
theorem KV.keys {kvs : List (κ × V)} {vs : List (κ × Value)} (r : KV kvs vs) : kvs.map (·.1) = vs.map (·.1) := by
 unfold KV at r
 induction r with
 | nil => rfl
 | cons h t ih => rw [List.map_cons, List.map_cons, ih, h.1]
theorem KV.length {kvs : List (κ × V)} {vs : List (κ × Value)} (r : KV kvs vs) : kvs.length = vs.length := Paired.length r
end
theorem kV_is {P : Program} {w : World} {k : Key} {u : Value} (r : RelV (kV k) u) : (mixKind P w).is k u = true := by
 cases k with
 | inl i => obtain ⟨t, e⟩ := (show ∃ t, u = Value.int i t from r); subst e; exact mixKind_int P w i t
 | inr x => obtain ⟨t, e⟩ := (show ∃ t, u = Value.str x t from r); subst e; exact mixKind_str P w x t
theorem items_are {P : Program} {w : World} : ∀ {ks : List Key} {us : List Value}, Vals (ks.map kV) us → ItemsAre (mixKind P w) ks us
 | [], _, r => by rw [List.map_nil] at r; cases r; exact .nil
 |
  k :: ks, _, r => by
  rw [List.map_cons] at r
  cases r with
  | cons h t => exact .cons (kV_is h) (items_are t)
abbrev KT (H : Hp) : List (List Key × V) → List (List Key × Addr × Value) → Prop := Paired fun p q => p.1 = q.1 ∧ H q.2.1 = some (.tup (p.1.map kV)) ∧ RelV p.2 q.2.2
theorem KT.val {H : Hp} {kvs : List (List Key × V)} {xs : List (List Key × Addr × Value)} (r : KT H kvs xs) (k : List Key) : RelO (valV kvs k) ((atKey xs k).map (·.2)) := by
 induction r with
 | nil => exact True.intro
 |
  @cons p q ps qs h t ih =>
  obtain ⟨h1, _, h2⟩ := h
  by_cases e : p.1 = k
  ·
   have e' : q.1 = k := h1.symm.trans e
   have b : atKey (q :: qs) k = some q.2 := by simp [atKey, List.find?_cons, e']
   rw [valV_pos e, b]; exact h2
  ·
   have e' : ¬ q.1 = k := fun z => e (h1.trans z)
   have b : atKey (q :: qs) k = atKey qs k := by simp [atKey, List.find?_cons, e']
   rw [valV_neg e, b]; exact ih
theorem KT.repl {H : Hp} {kvs : List (List Key × V)} {xs : List (List Key × Addr × Value)} (r : KT H kvs xs) (k : List Key) {y : V} {u : Value} (ry : RelV y u) :
  KT H (kvs.map fun kv => if kv.1 = k then (kv.1, y) else kv) (xs.map (putAt k u)) := by
 induction r with
 | nil => exact .nil
 |
  @cons p q ps qs h t ih =>
  rw [List.map_cons, List.map_cons]
  refine .cons ?_ ih
  obtain ⟨h1, h2, h3⟩ := h
  unfold putAt
  by_cases e : p.1 = k
  · rw [if_pos e, if_pos (h1.symm.trans e)]; exact ⟨h1, h2, ry⟩
  · rw [if_neg e, if_neg (fun z => e (h1.trans z))]; exact ⟨h1, h2, h3⟩
theorem KT.put {H : Hp} {kvs : List (List Key × V)} {xs : List (List Key × Addr × Value)} (r : KT H kvs xs) (k : List Key) {b : Addr} {y : V} {u : Value} (hb : H b = some (.tup (k.map kV))) (ry : RelV y u) :
  KT H (putK kvs k y) (storedH xs k b u) := by
 have e : (kvs.any fun kv => decide (kv.1 = k)) = (atKey xs k).isSome := by
  rw [valV_any, (r.val k).isSome_eq, Option.isSome_map]
 unfold putK storedH
 rw [e]
 by_cases q : (atKey xs k).isSome = true
 · rw [if_pos q, if_pos q]; exact r.repl k ry
 · rw [if_neg q, if_neg q]; exact Paired.snoc r ⟨rfl, hb, ry⟩
theorem KT.keeps {H H' : Hp} {kvs : List (List Key × V)} {xs : List (List Key × Addr × Value)} (r : KT H kvs xs) (ht : ∀ b ys, H b = some (.tup ys) → H' b = some (.tup ys)) : KT H' kvs xs :=
 Paired.mapP r fun _ _ z => ⟨z.1, ht _ _ z.2.1, z.2.2⟩
section
variable {P : Program} {w : World} {H : Hp} {h : Heap} {a : Addr}
theorem rd_of {u : HO} (ok : HOk P w H h) (e : Rd H a u) : ObjOk P w H h a u := e.ok ok
theorem dk_rd {kvs : List (Key × V)} (ok : HOk P w H h) (e : Rd H a (.dK kvs)) : kvs.length ≤ sizeLine ∧ (a == sysModules) = false ∧ ∃ vs, KV kvs vs ∧ h.DictOf (mixKind P w) a vs :=
 show ObjOk P w H h a (.dK kvs) from rd_of ok e
theorem dk_of {kvs : List (Key × V)} (ok : HOk P w H h) (e : H a = some (.dK kvs)) : kvs.length ≤ sizeLine ∧ (a == sysModules) = false ∧ ∃ vs, KV kvs vs ∧ h.DictOf (mixKind P w) a vs := dk_rd ok (.inl e)
theorem key_of {ks : List Key} (ok : HOk P w H h) (e : H a = some (.tup (ks.map kV))) : (tupleKind (mixKind P w)).is h ks a := by
 obtain ⟨_, its, r, o, h1, h2, n, h3⟩ := (show ObjOk P w H h a (.tup (ks.map kV)) from ok a _ e)
 exact ⟨o, its.toArray, n, h1, h2, h3, by simpa using items_are r⟩
theorem dt_rd {kvs : List (List Key × V)} (ok : HOk P w H h) (e : Rd H a (.dT kvs)) : kvs.length ≤ sizeLine ∧ (a == sysModules) = false ∧
  ∃ xs, KT H kvs xs ∧ h.DictOfH (tupleKind (mixKind P w)) a xs := by
 obtain ⟨z, y, xs, r, o, es, ep, h1, h2, h3, h4, h5⟩ := (show ObjOk P w H h a (.dT kvs) from rd_of ok e)
 refine ⟨z, y, xs, r, o, es, ep, h1, h2, h3, h4, fun x hx => ?_, h5⟩
 have all : ∀ {l : List (List Key × V)} {m : List (List Key × Addr × Value)}, KT H l m → ∀ x ∈ m, (tupleKind (mixKind P w)).is h x.1 x.2.1 := by
  intro l m q
  induction q with
  | nil => intro x hx; exact nomatch hx
  |
   @cons p q ps qs hq t ih =>
   intro x hx
   rcases List.mem_cons.mp hx with e | hx
   ·
    subst e
    exact key_of ok (by rw [← hq.1]; exact hq.2.1)
   · exact ih x hx
 exact all r x hx
theorem dt_of {kvs : List (List Key × V)} (ok : HOk P w H h) (e : H a = some (.dT kvs)) : kvs.length ≤ sizeLine ∧ (a == sysModules) = false ∧
 ∃ xs, KT H kvs xs ∧ h.DictOfH (tupleKind (mixKind P w)) a xs := dt_rd ok (.inl e)
end
def DGet (H : Hp) (a : Addr) (y : V) (r : Option V) : Prop :=
 (∃ kvs k, Rd H a (.dK kvs) ∧ y = kV k ∧ r = valV kvs k) ∨ ∃ kvs k b, Rd H a (.dT kvs) ∧ y = .ref b ∧ H b = some (.tup (k.map kV)) ∧ r = valV kvs k
def DPut (H : Hp) (a : Addr) (y v : V) (H' : Hp) : Prop :=
 (∃ kvs k, H a = some (.dK kvs) ∧ y = kV k ∧ kvs.length < sizeLine ∧ H' = upd H a (.dK (putK kvs k v))) ∨
 ∃ kvs k b, H a = some (.dT kvs) ∧ y = .ref b ∧ H b = some (.tup (k.map kV)) ∧ kvs.length < sizeLine ∧ H' = upd H a (.dT (putK kvs k v))
theorem DGet.k {H : Hp} {a : Addr} {kvs : List (Key × V)} {k : Key} (e : H a = some (.dK kvs)) : DGet H a (kV k) (valV kvs k) := .inl ⟨kvs, k, .inl e, rfl, rfl⟩
theorem DGet.t {H : Hp} {a b : Addr} {kvs : List (List Key × V)} {k : List Key} (e : H a = some (.dT kvs)) (eb : H b = some (.tup (k.map kV))) : DGet H a (.ref b) (valV kvs k) := .inr ⟨kvs, k, b, .inl e, rfl, eb, rfl⟩
theorem DPut.k {H : Hp} {a : Addr} {kvs : List (Key × V)} {k : Key} {v : V} (e : H a = some (.dK kvs)) (hl : kvs.length < sizeLine) : DPut H a (kV k) v (upd H a (.dK (putK kvs k v))) := .inl ⟨kvs, k, e, rfl, hl, rfl⟩
theorem DPut.t {H : Hp} {a b : Addr} {kvs : List (List Key × V)} {k : List Key} {v : V} (e : H a = some (.dT kvs)) (eb : H b = some (.tup (k.map kV))) (hl : kvs.length < sizeLine) :
 DPut H a (.ref b) v (upd H a (.dT (putK kvs k v))) := .inr ⟨kvs, k, b, e, rfl, eb, hl, rfl⟩
section
variable {X : Cx} {pins : List (Addr × Obj)} {σ : St} {H : Hp} {s : Shared} {a : Addr} {y v : V} {u r : Value} {o : Option V} {A : Around} {E : Value → Shared → Prop}
theorem Inv.big (I : Inv X pins σ H s) : sysModules < s.heap.objs.size := by
 have h : mainGlobals < s.heap.objs.size := (I.mod.glob.keeps I.bk).lt
 exact Nat.lt_trans (by decide) h
theorem d_getItem {Q : Value → Shared → Prop} (hu : A.units + 1 < cLine) (I : Inv X pins σ H s) (g : DGet H a y (some v)) (ry : RelV y u) (h : ∀ w' s', Inv X pins σ H s' → RelV v w' → Q w' s') :
  wpAny (model X.prog X.w) A (getItem (.ref a) u) Q E s := by
 rcases g with ⟨kvs, k, e, ey, l⟩ | ⟨kvs, k, b, e, ey, eb, l⟩
 ·
  subst ey
  obtain ⟨z, hd, vs, rel, dd⟩ := dk_rd I.hok e
  obtain ⟨w', hw, rw'⟩ := RelO.some_of (v := v) (o := valueAt vs k) (by rw [l]; exact rel.val k)
  exact wpAny_getItem_of (kV_is ry) dd.mapOf hw (h w' _ (I.tok _) rw')
 ·
  subst ey
  cases (show u = Value.ref b from ry)
  obtain ⟨z, hd, xs, rel, dd⟩ := dt_rd I.hok e
  obtain ⟨w', hw, rw'⟩ := RelO.some_of (v := v) (o := (atKey xs k).map (·.2)) (by rw [l]; exact rel.val k)
  obtain ⟨p, hp, hp2⟩ := Option.map_eq_some_iff.mp hw
  refine wpAny_getItem_heap (tupleKind_room_in1 hu) (key_of I.hok eb) dd hp ?_
  rw [hp2]
  exact h w' _ (I.tok _) rw'
theorem d_in {Q : Value → Shared → Prop} (hu : A.units + 1 < cLine) (I : Inv X pins σ H s) (g : DGet H a y o) (ry : RelV y u) (h : ∀ s', Inv X pins σ H s' → Q (.bool o.isSome) s') :
  wpAny (model X.prog X.w) A (compareOp .In u (.ref a)) Q E s := by
 rcases g with ⟨kvs, k, e, ey, l⟩ | ⟨kvs, k, b, e, ey, eb, l⟩
 ·
  subst ey
  obtain ⟨z, hd, vs, rel, dd⟩ := dk_rd I.hok e
  refine wpAny_in_of (kV_is ry) hd dd.mapOf ?_
  rw [← (rel.val k).isSome_eq, ← l]
  exact h _ (I.tok _)
 ·
  subst ey
  cases (show u = Value.ref b from ry)
  obtain ⟨z, hd, xs, rel, dd⟩ := dt_rd I.hok e
  refine wpAny_in_heap (tupleKind_room_in1 hu) (key_of I.hok eb) hd dd ?_
  have q := (rel.val k).isSome_eq
  rw [Option.isSome_map] at q
  rw [← q, ← l]
  exact h _ (I.tok _)
theorem d_notIn {Q : Value → Shared → Prop} (hu : A.units + 1 < cLine) (I : Inv X pins σ H s) (g : DGet H a y o) (ry : RelV y u) (h : ∀ s', Inv X pins σ H s' → Q (.bool (!o.isSome)) s') :
  wpAny (model X.prog X.w) A (compareOp .NotIn u (.ref a)) Q E s := by
 rcases g with ⟨kvs, k, e, ey, l⟩ | ⟨kvs, k, b, e, ey, eb, l⟩
 ·
  subst ey
  obtain ⟨z, hd, vs, rel, dd⟩ := dk_rd I.hok e
  refine wpAny_notIn_of (kV_is ry) hd dd.mapOf ?_
  rw [← (rel.val k).isSome_eq, ← l]
  exact h _ (I.tok _)
 ·
  subst ey
  cases (show u = Value.ref b from ry)
  obtain ⟨z, hd, xs, rel, dd⟩ := dt_rd I.hok e
  refine wpAny_notIn_heap (tupleKind_room_in1 hu) (key_of I.hok eb) hd dd ?_
  have q := (rel.val k).isSome_eq
  rw [Option.isSome_map] at q
  rw [← q, ← l]
  exact h _ (I.tok _)
theorem d_write {h' : Heap} {t' : Nat} {ob : HO} (I : Inv X pins σ H s) (mu : Mut (H a)) (hs : Heap.SameBut a s.heap h') (he : ∃ q, h'.get? a = some q) (new : ObjOk X.prog X.w (upd H a ob) h' a ob) :
  Inv X pins σ (upd H a ob) { s with heap := h', toks := t' } :=
 I.write (x := a) (e := a) mu (.inl rfl) (fun b q hb z => (hs.2 b hb).trans z) he new
theorem dk_new {P : Program} {w : World} {H' : Hp} {h' : Heap} {kvs : List (Key × V)} {vs : List (Key × Value)} (z : kvs.length ≤ sizeLine) (hd : (a == sysModules) = false) (rel : KV kvs vs) (dd : h'.DictOf (mixKind P w) a vs) :
 ObjOk P w H' h' a (.dK kvs) := ⟨z, hd, vs, rel, dd⟩
theorem d_setItem {H' : Hp} {Q : Unit → Shared → Prop} (hu : A.units + 1 < cLine) (I : Inv X pins σ H s) (g : DPut H a y v H') (ry : RelV y u) (rv : RelV v r) (h : ∀ s', Inv X pins σ H' s' → Q () s') :
  wpAny (model X.prog X.w) A (setItem (.ref a) u r) Q E s := by
 rcases g with ⟨kvs, k, e, ey, l, eH⟩ | ⟨kvs, k, b, e, ey, eb, l, eH⟩
 ·
  subst ey eH
  obtain ⟨z, hd, vs, rel, dd⟩ := dk_of I.hok e
  have hz : vs.length ≤ sizeLine := by rw [← rel.length]; exact z
  have hl : (putK kvs k v).length ≤ sizeLine := by have := length_putK kvs k v; omega
  refine wpAny_setItem_pairs (hsz := hz) (kV_is ry) dd fun h' dd' hs => h _ ?_
  have he : ∃ q, h'.get? a = some q := let ⟨q, _, _, hq, _⟩ := dd'; ⟨q, hq⟩
  exact d_write I (by rw [e]; exact True.intro) hs he (dk_new hl hd (rel.put k rv) dd')
 ·
  subst ey eH
  cases (show u = Value.ref b from ry)
  obtain ⟨z, hd, xs, rel, dd⟩ := dt_of I.hok e
  have hz : xs.length ≤ sizeLine := by rw [← Paired.length rel]; exact z
  have hl : (putK kvs k v).length ≤ sizeLine := by have := length_putK kvs k v; omega
  refine wpAny_setItem_heap (hsz := hz) (tupleKind_room_in1 hu) (key_of I.hok eb) dd fun h' dd' hs => h _ ?_
  obtain ⟨q, es, ep, hq, h2, h3, h4, _, h5⟩ := dd'
  refine d_write I (by rw [e]; exact True.intro) hs ⟨q, hq⟩ ⟨hl, hd, _, (rel.put k eb rv).keeps fun c ys ec => ?_, q, es, ep, hq, h2, h3, h4, h5⟩
  rw [upd_ne (ne_of ec e (fun z => nomatch z))]
  exact ec
end
section
variable {X : Cx} {pins : List (Addr × Obj)} {σ : St} {H : Hp} {s : Shared} {a : Addr} {kvs : List (Key × V)} {k : Key} {u : Value} {A : Around} {E : Value → Shared → Prop}
end
def NoSl (i : Expr) : Prop := ∀ ov iv, subscripted i false ov iv = operate [ov, iv] (getItem ov iv)
theorem subD_of {prog : Program} {w : World} {A : Around} {E : Value → Shared → Prop} {s : Shared} {env : Env} {value slice : Expr} {pos : Pos} {T id : String} {Q : Value → Shared → Prop}
  (hl : typeLookup (.type T) "__getitem__" = pure (some (.builtin id))) (hs : NoSl slice)
  (h : wpAny (model prog w) A (eval value env) (fun o s₁ => wpAny (model prog w) A (eval slice env) (fun i s₂ => s₂.TypeIs o T ∧ wpAny (model prog w) A (getItem o i) Q E s₂) E s₁) E s) :
  wpAny (model prog w) A (eval (.Subscript value slice pos) env) Q E s := by
 refine Subscript_ (wpAny_mono h (fun o s₁ h₁ => wpAny_mono h₁ (fun i s₂ h₂ => ?_) fun _ _ x => x) fun _ _ x => x)
 obtain ⟨hT, h₂⟩ := h₂
 unfold subscriptTail
 refine wpAny_bind ?_
 rw [getitemInPython_of_ne hT.not_modules]
 refine wpAny_bind (wpAny_specialOf hT hl ?_)
 have fin : wpAny (model prog w) A (subscripted slice false o i) (fun r s₃ => wpAny (model prog w) A (letTemporaryGo value o r >>= fun _ => pure r) Q E s₃) E s₂ := by
  rw [hs o i]
  exact wpAny_operating (wpAny_mono h₂ (fun r s₃ h₃ => wpAny_bind (wpAny_letTemporaryGo (wpAny_pure h₃))) fun _ _ x => x)
 first
  | exact wpAny_pure (wpAny_bind fin)
  | exact wpAny_bind (wpAny_pure (wpAny_bind fin))
  | exact wpAny_bind fin
theorem dict_typeIs {X : Cx} {pins : List (Addr × Obj)} {σ : St} {H : Hp} {s : Shared} {a : Addr} {y : V} {o : Option V} (I : Inv X pins σ H s) (g : DGet H a y o) : s.TypeIs (.ref a) "dict" := by
 rcases g with ⟨kvs, k, e, _, _⟩ | ⟨kvs, k, b, e, _, _, _⟩
 ·
  obtain ⟨_, _, vs, _, dd⟩ := dk_rd I.hok e
  exact dd.typeIs
 ·
  obtain ⟨_, _, xs, _, dd⟩ := dt_rd I.hok e
  exact dd.typeIs
def tDGet (td ty : TE) : TE := fun σ H Q => td σ H fun x H1 => ty σ H1 fun y H2 => ∃ a v, x = .ref a ∧ DGet H2 a y (some v) ∧ Q v H2
def tDIn (ty td : TE) : TE := fun σ H Q => ty σ H fun y H1 => td σ H1 fun x H2 => ∃ a o, x = .ref a ∧ DGet H2 a y o ∧ Q (.bl o.isSome) H2
def tDNotIn (ty td : TE) : TE := fun σ H Q => ty σ H fun y H1 => td σ H1 fun x H2 => ∃ a o, x = .ref a ∧ DGet H2 a y o ∧ Q (.bl (!o.isSome)) H2
def sDPut (td ty tv : TE) : TS := fun D σ H => tv σ H fun v H1 => td σ H1 fun x H2 => ty σ H2 fun y H3 => ∃ a H4, x = .ref a ∧ DPut H3 a y v H4 ∧ D.nx σ H4
section
variable {X : Cx} {o i e value : Expr} {pos pos' tpos : Pos} {td ty tv : TE}
theorem pe_dget (hu : X.A.units + 1 < cLine) (ho : PE X o td) (hi : PE X i ty) (hs : NoSl i) : PE X (.Subscript o i pos) (tDGet td ty) := by
 intro pins s σ H Q I h
 refine subD_of PySem.F.slot_dict_getitem.lookup hs (thn (ho pins s σ H _ I h) fun u s1 ⟨x, H1, I1, rx, q1⟩ => thn (hi pins s1 σ H1 _ I1 q1) fun iv s2 ⟨y, H2, I2, ry, a, v, ex, g, q2⟩ => ?_)
 subst ex
 obtain rfl : u = Value.ref a := rx
 exact ⟨dict_typeIs I2 g, d_getItem hu I2 g ry fun w' s3 I3 rw' => ⟨v, H2, I3, rw', q2⟩⟩
theorem pc_din (hu : X.A.units + 1 < cLine) (hi : PE X i ty) (ho : PE X o td) : PC X .In i o (tDIn ty td) := by
 intro pins s σ H Q I h
 refine thn (hi pins s σ H _ I h) fun iv s1 ⟨y, H1, I1, ry, q1⟩ => thn (ho pins s1 σ H1 _ I1 q1) fun u s2 ⟨x, H2, I2, rx, a, ov, ex, g, q2⟩ => ?_
 subst ex
 obtain rfl : u = Value.ref a := rx
 exact d_in hu I2 g ry fun s3 I3 => ⟨.bl ov.isSome, H2, I3, rfl, q2⟩
theorem pc_dnotin (hu : X.A.units + 1 < cLine) (hi : PE X i ty) (ho : PE X o td) : PC X .NotIn i o (tDNotIn ty td) := by
 intro pins s σ H Q I h
 refine thn (hi pins s σ H _ I h) fun iv s1 ⟨y, H1, I1, ry, q1⟩ => thn (ho pins s1 σ H1 _ I1 q1) fun u s2 ⟨x, H2, I2, rx, a, ov, ex, g, q2⟩ => ?_
 subst ex
 obtain rfl : u = Value.ref a := rx
 exact d_notIn hu I2 g ry fun s3 I3 => ⟨.bl (!ov.isSome), H2, I3, rfl, q2⟩
theorem ps_dput (hu : X.A.units + 1 < cLine) (ho : PE X o td) (hi : PE X i ty) (hv : PE X value tv) (hs : swapsWith value (some (.Subscript o i pos')) pos.line X.env = pure false) :
  PS X (.Assign [.Subscript o i pos'] value pos) (sDPut td ty tv) := by
 intro pins s σ H D I h
 refine wpAny_Assign_Subscript (thn (hv pins s σ H _ I h) fun r s1 ⟨v, H1, I1, rv, q1⟩ => thn (ho pins s1 σ H1 _ I1 q1) fun u s2 ⟨x, H2, I2, rx, q2⟩ => thn (hi pins s2 σ H2 _ I2 q2) fun iv s3 ⟨y, H3, I3, ry, a, H4, ex, g, q3⟩ => ?_) hs
 subst ex
 obtain rfl : u = Value.ref a := rx
 exact d_setItem hu I3 g ry rv fun s4 I4 => ⟨σ, H4, I4, q3⟩
end
theorem dk_empty {P : Program} {w : World} {H : Hp} (h : Heap) (hb : sysModules < h.objs.size) : ObjOk P w H (h.push { cls := .type "dict", data := .dict #[] }) h.objs.size (.dK []) :=
 ⟨Nat.zero_le _, beq_eq_false_iff_ne.mpr (Ne.symm (Nat.ne_of_lt hb)), [], .nil, Heap.DictOf.new h⟩
theorem dt_empty {P : Program} {w : World} {H : Hp} (h : Heap) (hb : sysModules < h.objs.size) : ObjOk P w H (h.push { cls := .type "dict", data := .dict #[] }) h.objs.size (.dT []) :=
 ⟨Nat.zero_le _, beq_eq_false_iff_ne.mpr (Ne.symm (Nat.ne_of_lt hb)), [], .nil, _, #[], 0, Heap.get?_push_size _ rfl, ⟨rfl, rfl, rfl⟩, rfl, rfl, List.nodup_nil⟩
def tDNewK : TE := fun _ H Q => ∀ p, H p = none → Q (.ref p) (upd H p (.dK []))
def tDNewT : TE := fun _ H Q => ∀ p, H p = none → Q (.ref p) (upd H p (.dT []))
section
variable {X : Cx} {pos : Pos}
theorem pe_dnewK : PE X (.Dict [] [] pos) tDNewK := fun pins s σ H Q I h =>
 wpAny_Dict_empty ⟨.ref s.heap.objs.size, _, I.laid (a := s.heap.objs.size) (o := .dK []) (t' := s.toks) (fun _ _ q => Heap.get?_push_of_some _ q) (Nat.le_refl _) (dk_empty s.heap I.big), rfl, h _ (I.hok.fresh (Nat.le_refl _))⟩
theorem pe_dnewT : PE X (.Dict [] [] pos) tDNewT := fun pins s σ H Q I h =>
 wpAny_Dict_empty ⟨.ref s.heap.objs.size, _, I.laid (a := s.heap.objs.size) (o := .dT []) (t' := s.toks) (fun _ _ q => Heap.get?_push_of_some _ q) (Nat.le_refl _) (dt_empty s.heap I.big), rfl, h _ (I.hok.fresh (Nat.le_refl _))⟩
end
structure M1 (X : Cx) (o : Expr) (m : Str) (apos : Pos) (e : Expr) (cpos : Pos) : Prop where
 base : attributeBase o m X.env (eval o X.env) = eval o X.env
 few : ((backTo cpos (starEach [e] X.env)).all (fun x => !x.1) && (backToKw cpos (keywordEach [] X.env)).all (fun x => x.1.isSome)
  && decide (([e] : List Expr).length + ([] : List Keyword).length + (if ([] : List Keyword).isEmpty then 0 else 1) < 30)) = true
 line : (apos.endLine == cpos.line) = true
 trees : backTo cpos (starEach [e] X.env) = [(false, eval e X.env)]
structure M2 (X : Cx) (o : Expr) (m : Str) (apos : Pos) (e f : Expr) (cpos : Pos) : Prop where
 base : attributeBase o m X.env (eval o X.env) = eval o X.env
 few : ((backTo cpos (starEach [e, f] X.env)).all (fun x => !x.1) && (backToKw cpos (keywordEach [] X.env)).all (fun x => x.1.isSome)
  && decide (([e, f] : List Expr).length + ([] : List Keyword).length + (if ([] : List Keyword).isEmpty then 0 else 1) < 30)) = true
 line : (apos.endLine == cpos.line) = true
 trees : backTo cpos (starEach [e, f] X.env) = [(false, eval e X.env), (false, eval f X.env)]
def IsD (H : Hp) (a : Addr) : Prop := (∃ kvs, Rd H a (.dK kvs)) ∨ ∃ kvs, Rd H a (.dT kvs)
theorem isD_at {X : Cx} {pins : List (Addr × Obj)} {σ : St} {H : Hp} {s : Shared} {a : Addr} (I : Inv X pins σ H s) (d : IsD H a) :
  s.TypeIs (.ref a) "dict" ∧ (∀ b, Value.ref a = .ref b → ∃ ob, s.heap.get? b = some ob ∧ ob.dict = none) ∧ (a == sysModules) = false := by
 rcases d with ⟨kvs, e⟩ | ⟨kvs, e⟩
 ·
  obtain ⟨_, hd, vs, _, dd⟩ := dk_rd I.hok e
  refine ⟨dd.typeIs, fun b q => ?_, hd⟩
  cases q
  obtain ⟨ob, _, _, h1, h2, _⟩ := dd
  exact ⟨ob, h1, h2.2.1⟩
 ·
  obtain ⟨_, hd, xs, _, dd⟩ := dt_rd I.hok e
  refine ⟨dd.typeIs, fun b q => ?_, hd⟩
  cases q
  obtain ⟨ob, _, _, h1, h2, _⟩ := dd
  exact ⟨ob, h1, h2.2.1⟩
section
variable {X : Cx} {pins : List (Addr × Obj)} {σ : St} {H : Hp} {s : Shared} {a : Addr} {y d : V} {u r : Value} {o : Option V} {A : Around} {E : Value → Shared → Prop}
theorem d_get1 {Q : Value → Shared → Prop} (hu : A.units + 1 < cLine) (I : Inv X pins σ H s) (g : DGet H a y o) (ry : RelV y u) (h : ∀ w' s', Inv X pins σ H s' → RelV (o.getD .non) w' → Q w' s') :
  wpAny (model X.prog X.w) A (call (.builtin "dict.get") [.ref a, u]) Q E s := by
 rcases g with ⟨kvs, k, e, ey, l⟩ | ⟨kvs, k, b, e, ey, eb, l⟩
 ·
  subst ey
  obtain ⟨z, hd, vs, rel, dd⟩ := dk_rd I.hok e
  refine call_meetsIn PySem.F.slot_dict_get dd.typeIs PySem.F.entry_dict_get (PySem.F.args_dict_get_2 _ _) (meets_dict_get (mixKind X.prog X.w) a (kV_is ry) hd) ⟨_, dd.mapOf, h _ _ (I.tok _) ?_⟩
  rw [l]
  exact (rel.val k).getD rfl
 ·
  subst ey
  cases (show u = Value.ref b from ry)
  obtain ⟨z, hd, xs, rel, dd⟩ := dt_rd I.hok e
  refine call_meetsIn PySem.F.slot_dict_get dd.typeIs PySem.F.entry_dict_get (PySem.F.args_dict_get_2 _ _) (meetsH_dict_get (tupleKind (mixKind X.prog X.w)) a b hd) ⟨tupleKind_room_in1 hu, k, xs, key_of I.hok eb, dd, h _ _ (I.tok _) ?_⟩
  rw [l]
  exact (rel.val k).getD rfl
theorem d_get2 {Q : Value → Shared → Prop} (hu : A.units + 1 < cLine) (I : Inv X pins σ H s) (g : DGet H a y o) (ry : RelV y u) (rd : RelV d r) (h : ∀ w' s', Inv X pins σ H s' → RelV (o.getD d) w' → Q w' s') :
  wpAny (model X.prog X.w) A (call (.builtin "dict.get") [.ref a, u, r]) Q E s := by
 rcases g with ⟨kvs, k, e, ey, l⟩ | ⟨kvs, k, b, e, ey, eb, l⟩
 ·
  subst ey
  obtain ⟨z, hd, vs, rel, dd⟩ := dk_rd I.hok e
  refine call_meetsIn PySem.F.slot_dict_get dd.typeIs PySem.F.entry_dict_get (PySem.F.args_dict_get_3 _ _ _) (meets_dict_get_default (mixKind X.prog X.w) a (kV_is ry) hd r) ⟨_, dd.mapOf, h _ _ (I.tok _) ?_⟩
  rw [l]
  exact (rel.val k).getD rd
 ·
  subst ey
  cases (show u = Value.ref b from ry)
  obtain ⟨z, hd, xs, rel, dd⟩ := dt_rd I.hok e
  refine call_meetsIn PySem.F.slot_dict_get dd.typeIs PySem.F.entry_dict_get (PySem.F.args_dict_get_3 _ _ _) (meetsH_dict_get_default (tupleKind (mixKind X.prog X.w)) a b hd r) ⟨tupleKind_room_in1 hu, k, xs, key_of I.hok eb, dd, h _ _ (I.tok _) ?_⟩
  rw [l]
  exact (rel.val k).getD rd
end
def tDGet1 (td ty : TE) : TE := fun σ H Q => td σ H fun x H1 => ∃ a, x = .ref a ∧ IsD H1 a ∧ ty σ H1 fun y H2 => ∃ o, DGet H2 a y o ∧ Q (o.getD .non) H2
def tDGet2 (td ty tx : TE) : TE := fun σ H Q => td σ H fun x H1 => ∃ a, x = .ref a ∧ IsD H1 a ∧ ty σ H1 fun y H2 => tx σ H2 fun z H3 => ∃ o, DGet H3 a y o ∧ Q (o.getD z) H3
section
variable {X : Cx} {o e f : Expr} {apos cpos : Pos} {td ty tx : TE}
theorem pe_dget1 (hu : X.A.units + 1 < cLine) (ho : PE X o td) (he : PE X e ty) (m : M1 X o "get" apos e cpos) : PE X (.Call (.Attribute o "get" apos) [e] [] cpos) (tDGet1 td ty) := by
 intro pins s σ H Q I h
 refine wpAny_Call_method m.base m.few m.line PySem.F.plainAttrs_dict PySem.F.slot_dict_get PySem.F.type_dict_get (thn (ho pins s σ H _ I h) fun u s1 ⟨x, H1, I1, rx, a, ex, d, q1⟩ => ?_)
 subst ex
 obtain rfl : u = Value.ref a := rx
 obtain ⟨t1, t2, _⟩ := isD_at I1 d
 refine ⟨t1, t2, ?_⟩
 rw [m.trees]
 refine Calls.callWith_builtin rfl (Calls.evalArgs_plain (Calls.spliced_cons (thn (he pins s1 σ H1 _ I1 q1) fun iv s2 ⟨y, H2, I2, ry, ov, g, q2⟩ => Calls.spliced_nil ?_)))
 exact d_get1 hu I2 g ry fun w' s3 I3 rw' => ⟨_, H2, I3, rw', q2⟩
theorem pe_dget2 (hu : X.A.units + 1 < cLine) (ho : PE X o td) (he : PE X e ty) (hf : PE X f tx) (m : M2 X o "get" apos e f cpos) : PE X (.Call (.Attribute o "get" apos) [e, f] [] cpos) (tDGet2 td ty tx) := by
 intro pins s σ H Q I h
 refine wpAny_Call_method m.base m.few m.line PySem.F.plainAttrs_dict PySem.F.slot_dict_get PySem.F.type_dict_get (thn (ho pins s σ H _ I h) fun u s1 ⟨x, H1, I1, rx, a, ex, d, q1⟩ => ?_)
 subst ex
 obtain rfl : u = Value.ref a := rx
 obtain ⟨t1, t2, _⟩ := isD_at I1 d
 refine ⟨t1, t2, ?_⟩
 rw [m.trees]
 refine Calls.callWith_builtin rfl (Calls.evalArgs_plain (Calls.spliced_cons (thn (he pins s1 σ H1 _ I1 q1) fun iv s2 ⟨y, H2, I2, ry, q2⟩ =>
  Calls.spliced_cons (thn (hf pins s2 σ H2 _ I2 q2) fun fv s3 ⟨z, H3, I3, rz, ov, g, q3⟩ => Calls.spliced_nil ?_))))
 exact d_get2 hu I3 g ry rz fun w' s4 I4 rw' => ⟨_, H3, I4, rw', q3⟩
end
section
variable {X : Cx} {pins : List (Addr × Obj)} {σ : St} {H : Hp} {s : Shared} {a : Addr} {kvs : List (Key × V)} {A : Around} {E : Value → Shared → Prop}
end
section
variable {X : Cx} {pins : List (Addr × Obj)} {σ : St} {H : Hp} {s : Shared} {a : Addr} {y : V} {u : Value} {A : Around} {E : Value → Shared → Prop}
end
end L2
namespace Att
open PySem PySem.W PySem.Calls PyProof.Rows
section
variable {prog : Program} {w : World} {A : Around} {E : Value → Shared → Prop} {s : Shared} {K : Frag}
end
end Att
namespace L2
open PySem PySem.Spec PyProof.Rows
end L2
namespace L2
open PySem PySem.Spec PyProof.Rows
end L2
namespace L2
open PySem PySem.Spec PyProof.Rows
section
variable {P : Program} {w : World} {K : W.Frag} {mg : Str → Option Value} {base : Heap}
end
section
variable {X : Cx}
end
section
variable {κ : Type} [DecidableEq κ]
end
end L2
namespace L2
open PySem PySem.W PyProof.Rows
section
variable {prog : Program} {w : World} {A : Around} {E : Value → Shared → Prop} {s : Shared}
end
section
variable {X : Cx}
end
end L2
namespace L2
open PySem PySem.W PyProof.Rows
section
variable {X : Cx}
end
theorem ex1 {us : List Value} (h : us.length = 1) : ∃ a, us = [a] := by
 match us, h with
 | [a], _ => exact ⟨a, rfl⟩
theorem ex2 {us : List Value} (h : us.length = 2) : ∃ a b, us = [a, b] := by
 match us, h with
 | [a, b], _ => exact ⟨a, b, rfl⟩
theorem ex3 {us : List Value} (h : us.length = 3) : ∃ a b c, us = [a, b, c] := by
 match us, h with
 | [a, b, c], _ => exact ⟨a, b, c, rfl⟩
theorem ex5 {us : List Value} (h : us.length = 5) : ∃ a b c d e, us = [a, b, c, d, e] := by
 match us, h with
 | [a, b, c, d, e], _ => exact ⟨a, b, c, d, e, rfl⟩
theorem ex6 {us : List Value} (h : us.length = 6) : ∃ a b c d e f, us = [a, b, c, d, e, f] := by
 match us, h with
 | [a, b, c, d, e, f], _ => exact ⟨a, b, c, d, e, f, rfl⟩
end L2
namespace L2
open PySem PySem.Spec PyProof.Rows PySem.SeqAt
abbrev LA := Addr × List RA
def arefs (ls : List LA) : List V := ls.map fun x => V.ref x.1
def RowsOk (H : Hp) (ls : List LA) : Prop := ∀ x ∈ ls, RowAt H x.1 x.2
def RowsAt (H : Hp) (l : Addr) (ls : List LA) : Prop := H l = some (.lst (arefs ls)) ∧ RowsOk H ls
theorem RowsOk.up {H H' : Hp} {ls : List LA} (h : RowsOk H ls) (s : Same H H') : RowsOk H' ls := fun x hx => (h x hx).up s
theorem RowsAt.up {H H' : Hp} {l : Addr} {ls : List LA} (h : RowsAt H l ls) (s : Same H H') : RowsAt H' l ls := ⟨s _ _ h.1, h.2.up s⟩
def tot (ls : List LA) : List (Int × Int) := ls.flatMap fun x => sps x.2
section
variable {X : Cx}
end
end L2
namespace L2
open PySem PySem.Spec PyProof.Rows PySem.SeqAt
abbrev RT := Addr × (Int × Int × Int)
def trefs (rs : List RT) : List V := rs.map fun x => V.ref x.1
def triV (t : Int × Int × Int) : List V := [.int t.1, .int t.2.1, .int t.2.2]
def TriOk (H : Hp) (rs : List RT) : Prop := ∀ x ∈ rs, H x.1 = some (.tup (triV x.2))
def TriAt (H : Hp) (l : Addr) (rs : List RT) : Prop := H l = some (.lst (trefs rs)) ∧ TriOk H rs
theorem TriOk.up {H H' : Hp} {rs : List RT} (h : TriOk H rs) (s : Same H H') : TriOk H' rs := fun x hx => s _ _ (h x hx)
theorem TriAt.up {H H' : Hp} {l : Addr} {rs : List RT} (h : TriAt H l rs) (s : Same H H') : TriAt H' l rs := ⟨s _ _ h.1, h.2.up s⟩
theorem trefs_app (rs : List RT) (a : Addr) (t : Int × Int × Int) : trefs rs ++ [.ref a] = trefs (rs ++ [(a, t)]) := by unfold trefs; rw [List.map_append]; rfl
theorem TriAt.put {H : Hp} {F t : Addr} {fs : List RT} {x y n : Int} (h : TriAt H F fs) (ht : H t = none) : TriAt (upd (upd H t (.tup [.int x, .int y, .int n])) F (.lst (trefs fs ++ [.ref t]))) F (fs ++ [(t, x, y, n)]) := by
 have htF : t ≠ F := fun z => by rw [z, h.1] at ht; cases ht
 refine ⟨by rw [upd_same, trefs_app _ _ (x, y, n)], fun q hq => ?_⟩
 rcases List.mem_append.mp hq with hq | hq
 ·
  have e := h.2 q hq
  rw [upd_ne (fun z => by rw [z, h.1] at e; cases e), upd_ne (ne_of_none e ht)]
  exact e
 ·
  rw [List.mem_singleton] at hq
  subst hq
  rw [upd_ne htF]
  exact upd_same
section
variable {X : Cx}
end
end L2
namespace L2
open PySem PySem.Spec PyProof.Rows PySem.SeqAt
section
variable {cm : Bool} {P : Program} {w : World} {K : W.Frag} {mg : Str → Option Value} {base : Heap} {CX : CXT} {k : Nat} {f : Addr} {fd : FuncData} {ps : List Str} {sp sp' : Sp}
theorem FnOk.or (F : FnOk P w K mg base CX cm k f fd ps sp) (G : FnOk P w K mg base CX cm k f fd ps sp') : FnOk P w K mg base CX cm k f fd ps (fun vs H Q E => sp vs H Q E ∨ sp' vs H Q E) :=
 ⟨fun vs H Q E h => h.elim (F.len vs H Q E) (G.len vs H Q E), fun A outer s H args us vs Q E hr he hb hv hs => hs.elim (F.run A outer s H args us vs Q E hr he hb hv) (G.run A outer s H args us vs Q E hr he hb hv)⟩
end
section
variable {X : Cx}
end
section
variable {X : Cx} {K : W.Frag}
end
end L2
namespace L2
open PySem PySem.Spec PyProof.Rows
section
variable {X : Cx} {tg : Expr}
end
section
variable {X : Cx}
end
end L2
namespace L2
open PySem PySem.Spec PyProof.Rows PySem.Calls
theorem ps_setComp {i0 : Nat} {x0 : Str} {X : Cx} {elt tgt iter : Expr} {ifs : List Expr} {scope : Scope} {pos pos' spos : Pos} {N : List Str} {cap : List (Option Nat)} {wi : TI} {g : TG} {tt : TT} {te : TE} (hN0 : X.N.Nodup) (hi0 : X.N[i0]? = some x0) (hx0 : X.env.scope.names.lookup x0 = some .local)
  (S : CompScope X.env.scope scope X.N N cap) (hc : X.calm = true) (hi : PI X tgt iter wi)
  (hb : ∀ (C : Addr) (s : Shared) (H : Hp) (fp : List Addr), PG (cxComp X N scope C s H fp) tgt g ∧ PIfs (cxComp X N scope C s H fp) ifs tt ∧ PE (cxComp X N scope C s H fp) elt te)
  (hclos : closureFor scope X.env = pure (clOf X.env scope.names []) := by with_unfolding_all rfl) (hs : ∀ x, foldedSetIterable iter X.env x = pure x := by intro _; rfl)
  (hsw : swapsWith (.ListComp elt [⟨tgt, iter, ifs, 0⟩] scope pos) (some (.Name x0 pos')) spos.line X.env = pure true := by with_unfolding_all rfl) :
  PS X (.Assign [.Name x0 pos'] (.ListComp elt [⟨tgt, iter, ifs, 0⟩] scope pos) spos) (tAsg (tComp wi cap g tt te) (gName i0)) := by
 intro pins s σ H D0 I h
 rw [exec_Assign_Name_used _ _ _ _ hsw]
 refine wpAny_bind (wpAny_standAt (wpAny_bind ?_))
 show wpAny (model X.prog X.w) X.A (comprehension (.ListComp elt [⟨tgt, iter, ifs, 0⟩] scope pos) scope X.env (firstIterPos [⟨tgt, iter, ifs, 0⟩] pos) (newList []) (firstAsync [⟨tgt, iter, ifs, 0⟩]) (firstIter [⟨tgt, iter, ifs, 0⟩] X.env) (some (assign (.Name x0 pos') X.env)) >>= fun _ => pure ()) _ _ _
 refine wpAny_bind (wpAny_mono (Q := fun _ s' => SP X pins D0 .next s') ?main (fun _ s' z => wpAny_pure (wpAny_pure z)) fun _ _ z => z)
 refine wpAny_comprehension_free (use := some (assign (.Name x0 pos') X.env)) (cl := clOf X.env scope.names []) rfl hs hclos S.kind S.names ?_
 refine thn (hi pins s σ H _ I h) fun v s1 h1 => thn h1 fun itv s2 h2 => ?_
 obtain ⟨it, fp, tn, J, H2, e, I2, T, st2, f2, k⟩ := h2
 subst e
 refine wpAny_newObj_type (wpAny_newFunctionEnv S.cell (by intro y hy; simp at hy) (fun h₁ hns₁ hsb₁ => ?_) S.kind)
 dsimp only at hns₁ hsb₁ ⊢
 have I3 : Inv X pins σ (upd H2 s2.heap.objs.size (.lst [])) { s2 with heap := s2.heap.push { cls := .type "list", dict := none, data := .seq ([] : List Value).toArray } } := I2.lnew (t' := s2.toks) .nil (Nat.zero_le _)
 obtain ⟨W, ⟨m0, w0⟩, turn⟩ := k s2.heap.objs.size I2.fresh
 generalize hD : s2.heap.objs.size = D at *
 generalize hsD : ({ s2 with heap := s2.heap.push { cls := .type "list", dict := none, data := .seq ([] : List Value).toArray } } : Shared) = sD at *
 have hsz : sD.heap.objs.size = D + 1 := by rw [← hsD, ← hD]; exact Heap.size_push ..
 have hheap : s2.heap.push { cls := .type "list", dict := none, data := .seq ([] : List Value).toArray } = sD.heap := by rw [← hsD]
 rw [hheap] at hns₁ hsb₁ ⊢
 have up : ∀ b o, s2.heap.get? b = some o → sD.heap.get? b = some o := fun b o e => by rw [← hheap]; exact Heap.get?_push_of_some _ e
 have keep : ∀ b o, sD.heap.get? b = some o → h₁.get? b = some o := fun b o e => hsb₁.extBut b o (Nat.ne_of_lt (Heap.lt_size e)) (Heap.get?_push_of_some _ e)
 have hfD : D ∉ fp := fun hm => by
  obtain ⟨o, e, _⟩ := T.obj _ _ st2 D hm
  have := Heap.lt_size e
  rw [hD] at this
  exact Nat.lt_irrefl _ this
 have f3 : ∀ b ∈ fp, FpOk X pins (upd H2 D (.lst [])) b := fun b hb => ⟨by rw [upd_ne (fun z => hfD (by rw [← z]; exact hb))]; exact (f2 b hb).1, (f2 b hb).2⟩
 have hlt : ∀ b ∈ fp, b < sD.heap.objs.size := fun b hb => by
  obtain ⟨o, e, _⟩ := T.obj _ _ st2 b hb
  exact Heap.lt_size (up b o e)
 have I4 := comp_start (t' := s2.toks + ([] : List (Str × Value)).length) S I3 f3 hlt hns₁ keep
 obtain ⟨hg, hif, hel⟩ := hb sD.heap.objs.size sD (upd H2 D (.lst [])) fp
 have st4 : tn 0 h₁ := T.keep _ _ _ st2 fun b hb o e => keep b o (up b o e)
 have stat : ∀ {H' : Hp}, (∀ b ∈ fp, H' b = none) → ∀ b ∈ fp, FpOk (cxComp X N scope sD.heap.objs.size sD (upd H2 D (.lst [])) fp) [] H' b := fun hn b hb =>
  ⟨hn b hb, (I4.ok.exf b hb).1, I4.ok.exfs b hb, .inl hb, fun x c h z => (I4.ok.exf b hb).2 x c h z, fun p hp => (by simp [cxComp] at hp)⟩
 have loop : codeAny (model X.prog X.w) X.A (.compLoop (.ListComp elt [⟨tgt, iter, ifs, 0⟩] scope pos) 0 (.ref it) (.ref D) (compEnvC scope (clOf X.env scope.names []) sD.heap.objs.size X.env))
   (compPost (model X.prog X.w) X.A X.xe (some (assign (.Name x0 pos') X.env)) (fun _ s' => SP X pins D0 .next s') (.ref D) sD.heap.objs.size) { sD with heap := h₁, toks := s2.toks + ([] : List (Str × Value)).length } := by
  refine compLoop_gen (fun n s' => ∃ i ys σ' H', Inv (cxComp X N scope sD.heap.objs.size sD (upd H2 D (.lst [])) fp) [] σ' H' s' ∧ tn i s'.heap ∧ (∀ b ∈ fp, H' b = none) ∧ W i n ys σ' H') ?_ m0
   ⟨0, [], capt cap σ, _, I4, st4, fun b hb => (f3 b hb).1, w0⟩
  rintro n s5 ⟨i, ys, σ5, H5, I5, st5, fr5, w5⟩
  obtain ⟨hD5, way⟩ := turn i n ys σ5 H5 w5
  rcases way with ⟨stop, q⟩ | ⟨go, step⟩
  ·
   refine thn (T.done (cxComp X N scope sD.heap.objs.size sD (upd H2 D (.lst [])) fp) rfl rfl rfl hc i [] s5 σ5 H5 (fun _ _ => False) I5 (stat fr5) st5 stop) fun r s6 ⟨hr, I6⟩ => ?_
   subst hr
   obtain ⟨m, hn, _⟩ := I6.loc
   have hn' : s6.heap.Ns sD.heap.objs.size m := hn
   have J6 : Inv X pins σ H5 s6 := comp_end I3 f3 I6 (Heap.SameBut.refl _ _)
   have cellNe : ∀ x c, X.env.cells.lookup x = some c → c ≠ sD.heap.objs.size := fun x c h z => by
    obtain ⟨v, q⟩ := I3.cell x c h
    have := q.lt
    rw [z] at this
    exact Nat.lt_irrefl _ this
   refine wpAny_assign_Name (store_ok2 J6 hN0 hi0 (.inl hx0) (v := .ref D) rfl (fun s7 I7 ⟨a7, sb7, ha7⟩ => ⟨m, hn'.sameBut sb7 (fun z => ?_), fun h' sb => ?_⟩) (.inr hx0))
   ·
    rcases ha7 with e | e
    · exact absurd (z.trans e) (Nat.ne_of_gt I3.lt)
    · exact cellNe _ _ e z.symm
   ·
    refine ⟨_, H5, I7.turned (t' := s7.toks) (it := sD.heap.objs.size) (fun b o hb e => (sb.2 b hb).trans e) I6.free (Nat.ne_of_gt I3.lt) (.inr I3.sz) cellNe fun p hp z => ?_, q⟩
    have := Heap.lt_size (I3.pin p hp).1
    rw [z] at this
    exact Nat.lt_irrefl _ this
  ·
   refine thn (T.item (cxComp X N scope sD.heap.objs.size sD (upd H2 D (.lst [])) fp) rfl rfl rfl hc i [] s5 σ5 H5 (fun _ _ => False) I5 (stat fr5) st5 go) fun r s6 ⟨u, hr, h6⟩ => ?_
   subst hr
   refine thn h6 fun _ s7 ⟨x, H7, I7, r7, y7, st7, fr7⟩ => ?_
   have I7' := I7.pinned (stat fr7) (T.obj _ _ st7)
   refine thn (hg _ s7 σ5 H7 x u _ I7' r7 (step x H7 y7)) fun _ s8 ⟨σ8, H8, I8, q8⟩ => ?_
   refine thn (hif _ s8 σ8 H8 _ I8 q8) fun b s9 ⟨H9, I9, q9⟩ => ?_
   have back : ∀ {σ' : St} {H' : Hp} {s' : Shared}, Inv (cxComp X N scope sD.heap.objs.size sD (upd H2 D (.lst [])) fp) ([] ++ pinsAt fp s7.heap) σ' H' s' → tn (i + 1) s'.heap ∧ ∀ b ∈ fp, H' b = none := fun {σ' H' s'} J' =>
    ⟨T.keep _ _ _ st7 fun b hb o e => (J'.pin (b, o) (List.mem_append_right _ (List.mem_append_right _ (mem_pinsAt hb e)))).1, fun b hb => by
     obtain ⟨o, e, d⟩ := T.obj _ _ st7 b hb
     exact (J'.pin (b, o) (List.mem_append_right _ (List.mem_append_right _ (mem_pinsAt hb e)))).2.1⟩
   cases b with
   |
    false =>
    obtain ⟨m', hm, w9⟩ := (show ∃ m', m' < n ∧ W (i + 1) m' ys σ8 H9 from q9)
    exact ⟨m', hm, i + 1, ys, σ8, H9, I9.unpinned, (back I9).1, (back I9).2, w9⟩
   |
    true =>
    refine thn (hel _ s9 σ8 H9 _ I9 (show te σ8 H9 _ from q9)) fun y s10 ⟨v10, H10, I10, r10, q10⟩ => ?_
    obtain ⟨hD10, hz, m', hm, w10⟩ := q10
    refine thn (mt_append (X := cxComp X N scope sD.heap.objs.size sD (upd H2 D (.lst [])) fp) _ s10 σ8 H10 (.ref D) [v10] (.ref D) [y] (fun _ H' => H' = upd H10 D (.lst (ys ++ [v10]))) I10 rfl (.cons r10 .nil) ⟨D, ys, v10, rfl, rfl, hD10, hz, rfl⟩) fun _ s11 ⟨v11, H11, I11, _, e11⟩ => ?_
    subst e11
    exact ⟨m', hm, i + 1, ys ++ [v10], σ8, _, I11.unpinned, (back I11).1, (back I11).2, w10⟩
 subst hsD
 subst hD
 exact codeAny_compStart_list loop (T.self _ 0 _ _ _ st4 loop)
end L2
namespace L2
open PySem PySem.Spec PyProof.Rows PySem.Calls PySem.SeqAt
section
variable {X : Cx}
end
end L2
namespace L2
open PySem PySem.Spec PyProof.Rows
section
variable {X : Cx} {CX : CXT} {cm : Bool} {k : Nat} {f : Addr} {fd : FuncData} {ps : List Str} {sp : Sp} {dvs : List V} {ds : List Value} {E : St → XK} {x : Str} {p pos : Pos} {e : Expr} {es : List Expr} {t : TA} {tf : TE}
theorem PE.or {e : Expr} {t1 t2 : TE} (h1 : PE X e t1) (h2 : PE X e t2) : PE X e (fun σ H Q => t1 σ H Q ∨ t2 σ H Q) := by
 intro pins s σ H Q I h
 rcases h with h | h
 · exact h1 pins s σ H Q I h
 · exact h2 pins s σ H Q I h
end
end L2
namespace L2
open PySem PySem.Spec PySem.Calls PyProof.Rows
structure MkN (K : W.Frag) (C : Addr) : Prop where
 makes : W.makesIn K C = true
 init : W.findIn K (.ref C) "__init__" = some (some (.builtin "object.__init__"))
 kp : W.keepIn K (.ref C) = true
section
variable {X : Cx} {C : Addr} {x : Str} {p pos : Pos}
end
end L2
namespace L2
open PySem PySem.Spec PyProof.Rows PySem.SeqAt
abbrev NK := Sum Key (List Key)
section
variable {prog : Program} {w : World}
def NItem (prog : Program) (w : World) (h : Heap) : NK → Value → Prop
 | .inl k, v => (mixKind prog w).is k v = true
 | .inr ks, v => ∃ a, v = .ref a ∧ IsTupleKey (mixKind prog w) h ks a
inductive NItems (prog : Program) (w : World) (h : Heap) : List NK → List Value → Prop
 | nil : NItems prog w h [] []
 | cons {k : NK} {v : Value} {ks : List NK} {vs : List Value} : NItem prog w h k v → NItems prog w h ks vs → NItems prog w h (k :: ks) (v :: vs)
def IsNest (prog : Program) (w : World) (h : Heap) (ks : List NK) (a : Addr) : Prop := ∃ o items n, h.get? a = some o ∧ o.cls = .type "tuple" ∧ o.data = .seq items n ∧ NItems prog w h ks items.toList
theorem NItem.inj {h : Heap} {x y : NK} {v : Value} (hx : NItem prog w h x v) (hy : NItem prog w h y v) : x = y := by
 cases x with
 |
  inl x =>
  cases y with
  | inl y => rw [(mixKind prog w).inj _ _ _ hx hy]
  |
   inr y =>
   obtain ⟨a, rfl, _⟩ := hy
   exact absurd ((mixKind prog w).byValue _ _ hx) (by simp [carriedByValue])
 |
  inr x =>
  obtain ⟨a, rfl, p⟩ := hx
  cases y with
  | inl y => exact absurd ((mixKind prog w).byValue _ _ hy) (by simp [carriedByValue])
  |
   inr y =>
   obtain ⟨b, e, q⟩ := hy
   cases e
   rw [p.inj q]
theorem NItems.inj {h : Heap} {x y : List NK} {vs : List Value} (hx : NItems prog w h x vs) (hy : NItems prog w h y vs) : x = y := by
 induction hx generalizing y with
 | nil => cases hy; rfl
 |
  cons h1 _ ih =>
  cases hy with
  | cons h2 t2 => rw [h1.inj h2, ih t2]
theorem IsNest.typeIs {s : Shared} {ks : List NK} {a : Addr} (x : IsNest prog w s.heap ks a) : s.TypeIs (.ref a) "tuple" := let ⟨o, _, _, ho, hc, _⟩ := x; ⟨o, ho, hc⟩
theorem IsNest.isTuple {h : Heap} {ks : List NK} {a : Addr} (x : IsNest prog w h ks a) : ∃ items, h.IsTuple a items ∧ NItems prog w h ks items.toList := let ⟨o, its, n, ho, hc, hd, hi⟩ := x; ⟨its, ⟨o, ho, hc, n, hd⟩, hi⟩
theorem IsNest.inj {h : Heap} {a : Addr} {x y : List NK} (hx : IsNest prog w h x a) (hy : IsNest prog w h y a) : x = y := by
 obtain ⟨o, items, n, ho, _, hd, hi⟩ := hx
 obtain ⟨o', items', n', ho', _, hd', hi'⟩ := hy
 obtain rfl : o = o' := Option.some.inj (ho.symm.trans ho')
 rw [hd] at hd'
 injection hd' with h1 _
 subst h1
 exact hi.inj hi'
theorem NItem.keeps {h h' : Heap} {k : NK} {v : Value} {d : Addr} {o : Obj} {es ep} (x : NItem prog w h k v) (ho : h.get? d = some o) (hd : o.data = .dict es ep) (hs : Heap.SameBut d h h') : NItem prog w h' k v := by
 cases k with
 | inl k => exact x
 | inr ks => obtain ⟨a, e, p⟩ := x; exact ⟨a, e, p.keeps ho hd hs⟩
theorem IsNest.keeps {h h' : Heap} {ks : List NK} {a d : Addr} {o : Obj} {es ep} (x : IsNest prog w h ks a) (ho : h.get? d = some o) (hd : o.data = .dict es ep) (hs : Heap.SameBut d h h') : IsNest prog w h' ks a := by
 obtain ⟨o', items, n, ho', hc, hd', hi⟩ := x
 have hne : a ≠ d := by
  rintro rfl
  obtain rfl : o' = o := Option.some.inj (ho'.symm.trans ho)
  rw [hd] at hd'; exact nomatch hd'
 refine ⟨o', items, n, (hs.2 a hne).trans ho', hc, hd', ?_⟩
 generalize items.toList = vs at hi
 induction hi with
 | nil => exact .nil
 | cons h1 _ ih => exact .cons (h1.keeps ho hd hs) ih
def nHash (prog : Program) (w : World) : NK → Int
 | .inl k => (mixKind prog w).hash k
 | .inr ks => tupleKeyHash (mixKind prog w) ks
def nDraws : NK → Nat
 | .inl _ => 1
 | .inr ks => ks.length + 1
def nestHash (prog : Program) (w : World) (ks : List NK) : Int := reduceHash (Builtin.Tuple.tupleHashOf (ks.map (nHash prog w)))
def nestDraws (ks : List NK) : Nat := (ks.map nDraws).sum + 1
variable {A : Around} {E : Value → Shared → Prop} {s : Shared}
theorem item_hash {k : NK} {v : Value} {Q : Int → Shared → Prop} (hu : A.units < cLine) (hk : NItem prog w s.heap k v) (h : Q (nHash prog w k) { s with toks := s.toks + nDraws k }) : wpAny (model prog w) A (pyHash v) Q E s := by
 cases k with
 | inl k => exact (mixKind prog w).pyHash hk h
 | inr ks => obtain ⟨a, rfl, p⟩ := hk; exact wpAny_pyHash_tuple hu p h
theorem pyHash_nest {ks : List NK} {a : Addr} {Q : Int → Shared → Prop} (hu : A.units + 1 < cLine) (hk : IsNest prog w s.heap ks a) (h : Q (nestHash prog w ks) { s with toks := s.toks + nestDraws ks }) :
  wpAny (model prog w) A (pyHash (.ref a)) Q E s := by
 have hT := hk.typeIs
 obtain ⟨o, items, n, ho, _, hd, hi⟩ := hk
 unfold pyHash
 first | unfold pyHashByItsType | skip
 first | refine wpAny_bind (wpAny_cRoomFor_or (.inr (by omega)) ?_) | skip
 refine wpAny_bind (wpAny_specialOf hT F.slot_tuple_hash.lookup ?_)
 show wpAny _ _ (if (some (Value.builtin "tuple.__hash__") == some Value.none) = true then _ else _) Q E s
 rw [if_neg (by rw [beq_builtin_none]; exact Bool.false_ne_true)]
 refine wpAny_bind (wpAny_specialOf hT F.slot_tuple_hash.lookup ?_)
 show wpAny _ _ (callSpecialIfBoundUnlessNone? (.ref a) "__hash__" _ >>= _) Q E s
 refine wpAny_bind (wpAny_callSpecialIfBoundUnlessNone?_slot hT F.slot_tuple_hash (wpAny_call_entry F.slot_tuple_hash hT F.entry_tuple_hash ?_ (F.args_tuple_hash_1 _)))
 show wpAny _ _ (Builtin.Tuple.tupleItemsOf (.ref a) >>= _) _ _ s
 refine wpAny_bind (wpAny_tupleItemsOf ho hd ?_)
 refine wpAny_bind ?_
 rw [← Array.forIn_toList]
 refine wpAny_forIn_list _
  (fun rest (b : Array Int) s' => ∃ done left, ks = done ++ left ∧ NItems prog w s.heap left rest ∧ b.toList = done.map (nHash prog w) ∧ s' = { s with toks := s.toks + (done.map nDraws).sum })
  _ ?_ ?_ _ _ ⟨[], ks, rfl, hi, rfl, rfl⟩
 ·
  rintro x rest b s' ⟨done, left, rfl, hl, hb, rfl⟩
  cases hl with
  |
   @cons k _ ks' _ h1 hl' =>
   refine wpAny_bind (item_hash hu h1 ?_)
   first
    | exact wpAny_pure ⟨done ++ [k], ks', by simp, hl', by simp [hb], by simp [Nat.add_assoc]⟩
    | exact wpAny_bind (wpAny_pure (wpAny_pure ⟨done ++ [k], ks', by simp, hl', by simp [hb], by simp [Nat.add_assoc]⟩))
 ·
  rintro b s' ⟨done, left, rfl, hl, hb, rfl⟩
  cases hl
  rw [List.append_nil] at h
  show wpAny _ _ (retInt (Builtin.Tuple.tupleHashOf b.toList)) _ _ _
  rw [hb]
  refine wpAny_ret_mkInt ?_
  show wpAny _ _ (if (decide (-(2 : Int) ^ 63 ≤ Builtin.Tuple.tupleHashOf (done.map (nHash prog w))) && decide (Builtin.Tuple.tupleHashOf (done.map (nHash prog w)) < 2 ^ 63)) = true then _ else _) Q E _
  unfold nestHash nestDraws reduceHash at h
  by_cases hr : (decide (-(2 : Int) ^ 63 ≤ Builtin.Tuple.tupleHashOf (done.map (nHash prog w))) && decide (Builtin.Tuple.tupleHashOf (done.map (nHash prog w)) < 2 ^ 63)) = true
  ·
   rw [if_pos hr]
   rw [if_pos hr] at h
   exact wpAny_pure (by simpa [Nat.add_assoc] using h)
  ·
   rw [if_neg hr]
   rw [if_neg hr] at h
   exact wpAny_bind (wpAny_rule (wpAny_pure (by simpa [Nat.add_assoc] using h)))
theorem item_eq {x y : NK} {u v : Value} (hu : A.units < cLine) (hx : NItem prog w s.heap x u) (hy : NItem prog w s.heap y v) {Q : Bool → Shared → Prop} (h : Q (decide (x = y)) s) : wpAny (model prog w) A (eqBool u v) Q E s := by
 cases x with
 |
  inl x =>
  cases y with
  | inl y => refine (mixKind prog w).eqBool (a := x) (b := y) hx hy ?_; simpa using h
  |
   inr y =>
   obtain ⟨b, rfl, o, its, n, ho, hc, hd, _⟩ := hy
   have ht : s.heap.IsTuple b its := ⟨o, ho, hc, n, hd⟩
   rw [decide_eq_false (fun z => nomatch z)] at h
   cases x with
   |
    inl i =>
    obtain ⟨t, rfl⟩ := Value.isInt_shape (k := i) (v := u) hx
    exact EqAt.int_tuple i t ht hu prog w E Q h
   |
    inr z =>
    obtain ⟨t, rfl⟩ := Value.isStrOf_shape (x := z) (v := u) hx
    exact EqAt.str_tuple z t ht hu prog w E Q h
 |
  inr x =>
  obtain ⟨a, rfl, p⟩ := hx
  cases y with
  |
   inl y =>
   obtain ⟨o, its, n, ho, hc, hd, _⟩ := p
   have ht : s.heap.IsTuple a its := ⟨o, ho, hc, n, hd⟩
   rw [decide_eq_false (fun z => nomatch z)] at h
   cases y with
   |
    inl i =>
    obtain ⟨t, rfl⟩ := Value.isInt_shape (k := i) (v := v) hy
    exact EqAt.tuple_int i t ht hu prog w E Q h
   |
    inr z =>
    obtain ⟨t, rfl⟩ := Value.isStrOf_shape (x := z) (v := v) hy
    exact EqAt.tuple_str z t ht hu prog w E Q h
  |
   inr y =>
   obtain ⟨b, rfl, q⟩ := hy
   exact wpAny_eqBool_tuple hu p q (by simpa using h)
theorem nest_eq_tree {x y : List NK} {a b : Addr} {P : PySem.Fin → Shared → Prop} (hu : A.units < cLine) (hx : IsNest prog w s.heap x a) (hy : IsNest prog w s.heap y b) (h : P (.done (.ret (.bool (decide (x = y))))) s) :
  wpAny (model prog w) A (Builtin.«tuple.__eq__» ⟨[.ref a, .ref b], []⟩) P E s := by
 have hTb := hy.typeIs
 obtain ⟨oa, xs, na, hoa, _, hda, hia⟩ := hx
 obtain ⟨ob, ys, nb, hob, _, hdb, hib⟩ := hy
 show wpAny _ _ (isInstance (.ref b) (.type "tuple") >>= _) _ _ s
 refine wpAny_bind (wpAny_isInstance hTb isSubtype_tuple_tuple ?_)
 simp only [Bool.not_true, Bool.false_eq_true, if_false]
 refine wpAny_bind (wpAny_tupleItemsOf hoa hda ?_)
 refine wpAny_bind (wpAny_tupleItemsOf hob hdb ?_)
 refine wpAny_bind ?_
 refine wpAny_forIn_list _
  (fun rest r s' => r.1 = none ∧ s' = s ∧ ∃ x' y' xs' ys', rest = List.zip xs' ys' ∧ NItems prog w s.heap x' xs' ∧ NItems prog w s.heap y' ys' ∧ decide (x' = y') = decide (x = y) ∧ (xs'.length == ys'.length) = (xs.size == ys.size))
  _ ?_ ?_ _ _ ⟨rfl, rfl, x, y, xs.toList, ys.toList, rfl, hia, hib, rfl, by simp⟩
 ·
  rintro ⟨u, v⟩ rest r s' ⟨hr, rfl, x', y', xs', ys', hz, hx', hy', hdec, hlen⟩
  cases hx' with
  | nil => simp at hz
  |
   @cons k1 u' x'' xs'' h1 hx'' =>
   cases hy' with
   | nil => simp at hz
   |
    @cons k2 v' y'' ys'' h2 hy'' =>
    simp only [List.zip_cons_cons, List.cons.injEq, Prod.mk.injEq] at hz
    obtain ⟨⟨rfl, rfl⟩, rfl⟩ := hz
    refine wpAny_bind (item_eq hu h1 h2 ?_)
    by_cases hk : k1 = k2
    ·
     subst hk
     rw [decide_eq_true rfl]
     simp only [Bool.not_true, Bool.false_eq_true, if_false]
     refine wpAny_pure ⟨rfl, rfl, x'', y'', xs'', ys'', rfl, hx'', hy'', ?_, by simpa using hlen⟩
     rw [← hdec]
     by_cases hxy : x'' = y''
     · simp [hxy]
     · simp [hxy]
    ·
     rw [decide_eq_false hk]
     simp only [Bool.not_false, if_true]
     have hf : decide (x = y) = false := by rw [← hdec]; simp [hk]
     rw [hf] at h
     exact wpAny_bind (wpAny_pure (wpAny_pure (wpAny_pure h)))
 ·
  rintro ⟨r1, r2⟩ s' ⟨hr, rfl, x', y', xs', ys', hz, hx', hy', hdec, hlen⟩
  simp only at hr
  subst hr
  refine wpAny_pure ?_
  have hfin : (xs.size == ys.size) = decide (x = y) := by
   rw [← hdec, ← hlen]
   cases hx' with
   |
    nil =>
    cases hy' with
    | nil => simp
    | cons _ _ => simp
   |
    cons _ _ =>
    cases hy' with
    | nil => simp
    | cons _ _ => simp at hz
  show P (.done (.ret (.bool (xs.size == ys.size)))) s'
  rw [hfin]; exact h
theorem eqBool_nest {x y : List NK} {a b : Addr} {Q : Bool → Shared → Prop} (hu : A.units + 1 < cLine) (hx : IsNest prog w s.heap x a) (hy : IsNest prog w s.heap y b) (h : Q (decide (x = y)) s) :
  wpAny (model prog w) A (eqBool (.ref a) (.ref b)) Q E s := by
 unfold eqBool
 try with_reducible refine wpAny_holding ?_
 show wpAny _ _ (if (Value.ref a == Value.ref b) = true then _ else _) Q E s
 by_cases hab : (Value.ref a == Value.ref b) = true
 ·
  rw [if_pos hab]
  have e : a = b := by have := eq_of_beq hab; injection this
  subst e
  obtain rfl := hx.inj hy
  exact wpAny_bind (wpAny_rule (wpAny_pure (by simpa using h)))
 ·
  rw [if_neg hab]
  exact wpAny_bind (wpAny_richCompare_same_room (op := .Eq) hx.typeIs hy.typeIs F.slot_tuple_eq
   (wpAny_call_entry F.slot_tuple_eq hx.typeIs F.entry_tuple_eq (nest_eq_tree hu hx hy ⟨_, rfl, (fun e => nomatch e), wpAny_truthy_bool h⟩) (F.args_tuple_eq_2 _ _)) (by omega))
theorem quietT {ks : List Key} {a : Addr} {n : Nat} {Q : Bool → Shared → Prop} (hk : IsTupleKey (mixKind prog w) s.heap ks a) (h : Q true s) : wpAny (model prog w) A (eqIsQuiet (n + 1) (.ref a)) Q E s := by
 have hT := hk.typeIs
 obtain ⟨o, items, n, ho, _, hd, hi⟩ := hk
 unfold eqIsQuiet
 refine wpAny_bind (wpAny_specialOf hT F.slot_tuple_eq.lookup ?_)
 show wpAny _ _ (isInstance (.ref a) (.type "tuple") >>= _) _ _ s
 refine wpAny_bind (wpAny_isInstance hT isSubtype_tuple_tuple ?_)
 simp only [Bool.not_true, Bool.false_eq_true, if_false]
 refine wpAny_bind (wpAny_seqItems ho hd ?_)
 refine wpAny_bind ?_
 show wpAny _ _ (forIn items _ _) _ _ s
 rw [← Array.forIn_toList]
 refine wpAny_forIn_list _ (fun rest r s' => r.1 = none ∧ s' = s ∧ ∀ v ∈ rest, carriedByValue v = true) _ ?_ ?_ _ _ ⟨rfl, rfl, hi.byValue⟩
 ·
  rintro v rest r s' ⟨hr, rfl, hall⟩
  rw [eqIsQuiet_byValue _ (hall v List.mem_cons_self)]
  refine wpAny_bind (wpAny_pure ?_)
  simp only [Bool.not_true, Bool.false_eq_true, if_false]
  exact wpAny_pure ⟨rfl, rfl, fun u hu' => hall u (List.mem_cons_of_mem _ hu')⟩
 ·
  rintro ⟨r1, r2⟩ s' ⟨hr, rfl, _⟩
  simp only at hr
  subst hr
  exact wpAny_pure h
theorem quietN {ks : List NK} {a : Addr} {n : Nat} {Q : Bool → Shared → Prop} (hk : IsNest prog w s.heap ks a) (h : Q true s) : wpAny (model prog w) A (eqIsQuiet (n + 2) (.ref a)) Q E s := by
 have hT := hk.typeIs
 obtain ⟨o, items, m, ho, _, hd, hi⟩ := hk
 unfold eqIsQuiet
 refine wpAny_bind (wpAny_specialOf hT F.slot_tuple_eq.lookup ?_)
 show wpAny _ _ (isInstance (.ref a) (.type "tuple") >>= _) _ _ s
 refine wpAny_bind (wpAny_isInstance hT isSubtype_tuple_tuple ?_)
 simp only [Bool.not_true, Bool.false_eq_true, if_false]
 refine wpAny_bind (wpAny_seqItems ho hd ?_)
 refine wpAny_bind ?_
 show wpAny _ _ (forIn items _ _) _ _ s
 rw [← Array.forIn_toList]
 refine wpAny_forIn_list _ (fun rest r s' => r.1 = none ∧ s' = s ∧ ∃ left, NItems prog w s.heap left rest) _ ?_ ?_ _ _ ⟨rfl, rfl, ks, hi⟩
 ·
  rintro v rest r s' ⟨hr, rfl, left, hl⟩
  cases hl with
  |
   @cons k _ ks' _ h1 hl' =>
   have go : ∀ {R : Bool → Shared → Prop}, R true s' → wpAny (model prog w) A (eqIsQuiet (n + 1) v) R E s' := fun hR => by
    cases k with
    | inl k => rw [eqIsQuiet_byValue _ ((mixKind prog w).byValue _ _ h1)]; exact wpAny_pure hR
    | inr ks => obtain ⟨b, rfl, p⟩ := h1; exact quietT p hR
   refine wpAny_bind (go ?_)
   simp only [Bool.not_true, Bool.false_eq_true, if_false]
   exact wpAny_pure ⟨rfl, rfl, ks', hl'⟩
 ·
  rintro ⟨r1, r2⟩ s' ⟨hr, rfl, _⟩
  simp only at hr
  subst hr
  exact wpAny_pure h
end
def nestKind (prog : Program) (w : World) : HeapKind prog w (List NK) where
 is := IsNest prog w
 hash := nestHash prog w
 draws := nestDraws
 room := fun A => A.units + 1 < cLine
 inj := fun hx hy => hx.inj hy
 keeps := fun x ho hd hs => x.keeps ho hd hs
 pyHash := fun hu hk h => pyHash_nest hu hk h
 eqBool := fun hu hx hy h => eqBool_nest hu hx hy h
 quiet := fun hk h => quietN hk h
end L2
namespace DX
structure Lin {α : Type} (lt : α → α → Bool) : Prop where
 irr : ∀ a, lt a a = false
 tr : ∀ a b c, lt a b = true → lt b c = true → lt a c = true
 tot : ∀ a b, lt a b = false → lt b a = false → a = b
theorem Lin.asym {α : Type} {lt : α → α → Bool} (L : Lin lt) {a b : α} (h : lt a b = true) : lt b a = false := by
 cases e : lt b a with
 | false => rfl
 | true => have := L.tr a b a h e; rw [L.irr] at this; cases this
theorem Lin.neg {α : Type} {lt : α → α → Bool} (L : Lin lt) {a b c : α} (h : lt a c = true) : lt a b = true ∨ lt b c = true := by
 cases e : lt a b with
 | true => exact .inl rfl
 |
  false =>
  refine .inr ?_
  cases f : lt b a with
  | true => exact L.tr b a c f h
  | false => rw [← L.tot a b e f]; exact h
def lexB {α : Type} [DecidableEq α] (lt : α → α → Bool) : List α → List α → Bool
 | [], [] => false
 | [], _ :: _ => true
 | _ :: _, [] => false
 | x :: xs, y :: ys => if x = y then lexB lt xs ys else lt x y
theorem lex_lin {α : Type} [DecidableEq α] {lt : α → α → Bool} (L : Lin lt) : Lin (lexB lt) where
 irr := fun a => by
  induction a with
  | nil => rfl
  | cons x xs ih => unfold lexB; rw [if_pos rfl]; exact ih
 tr := fun a => by
  induction a with
  |
   nil =>
   intro b c h1 h2
   cases b with
   | nil => cases h1
   |
    cons y ys =>
    cases c with
    | nil => cases h2
    | cons z zs => rfl
  |
   cons x xs ih =>
   intro b c h1 h2
   cases b with
   | nil => cases h1
   |
    cons y ys =>
    cases c with
    | nil => cases h2
    |
     cons z zs =>
     unfold lexB at h1 h2 ⊢
     by_cases e1 : x = y
     ·
      subst e1
      rw [if_pos rfl] at h1
      by_cases e2 : x = z
      ·
       rw [if_pos e2] at h2 ⊢
       exact ih ys zs h1 h2
      ·
       rw [if_neg e2] at h2 ⊢
       exact h2
     ·
      rw [if_neg e1] at h1
      by_cases e2 : y = z
      ·
       subst e2
       rw [if_neg e1]
       exact h1
      ·
       rw [if_neg e2] at h2
       have h3 := L.tr _ _ _ h1 h2
       rw [if_neg (fun e => by subst e; rw [L.irr] at h3; cases h3)]
       exact h3
 tot := fun a => by
  induction a with
  |
   nil =>
   intro b h1 h2
   cases b with
   | nil => rfl
   | cons y ys => cases h1
  |
   cons x xs ih =>
   intro b h1 h2
   cases b with
   | nil => cases h2
   |
    cons y ys =>
    unfold lexB at h1 h2
    by_cases e : x = y
    ·
     subst e
     rw [if_pos rfl] at h1 h2
     rw [ih ys h1 h2]
    ·
     rw [if_neg e] at h1
     rw [if_neg (fun z => e z.symm)] at h2
     exact absurd (L.tot _ _ h1 h2) e
def sumB {α β : Type} (l : α → α → Bool) (r : β → β → Bool) : Sum α β → Sum α β → Bool
 | .inl a, .inl b => l a b
 | .inr a, .inr b => r a b
 | .inl _, .inr _ => true
 | .inr _, .inl _ => false
theorem sum_lin {α β : Type} {l : α → α → Bool} {r : β → β → Bool} (L : Lin l) (R : Lin r) : Lin (sumB l r) where
 irr := fun a => by cases a with
  | inl a => exact L.irr a
  | inr a => exact R.irr a
 tr := fun a b c h1 h2 => by
  cases a <;> cases b <;> cases c <;> first | exact L.tr _ _ _ h1 h2 | exact R.tr _ _ _ h1 h2 | rfl | exact absurd h1 Bool.false_ne_true | exact absurd h2 Bool.false_ne_true
 tot := fun a b h1 h2 => by
  cases a with
  |
   inl a => cases b with
   | inl b => rw [L.tot a b h1 h2]
   | inr b => cases h1
  |
   inr a => cases b with
   | inl b => cases h2
   | inr b => rw [R.tot a b h1 h2]
theorem int_lin : Lin (fun a b : Int => decide (a < b)) where
 irr := fun a => decide_eq_false (by omega)
 tr := fun a b c h1 h2 => by rw [decide_eq_true_eq] at h1 h2 ⊢; omega
 tot := fun a b h1 h2 => by rw [decide_eq_false_iff_not] at h1 h2; omega
theorem nat_lin : Lin (fun a b : Nat => decide (a < b)) where
 irr := fun a => decide_eq_false (by omega)
 tr := fun a b c h1 h2 => by rw [decide_eq_true_eq] at h1 h2 ⊢; omega
 tot := fun a b h1 h2 => by rw [decide_eq_false_iff_not] at h1 h2; omega
end DX
namespace L2
open PySem PySem.Spec PyProof.Rows PySem.SeqAt
def CmpAt (op : CmpOp) (A : Around) (s : Shared) (u v : Value) (b : Bool) : Prop := ∀ (prog : Program) (w : World) (E : Value → Shared → Prop) (Q : Value → Shared → Prop), Q (.bool b) s → wpAny (model prog w) A (richCompare op u v) Q E s
def szB : CmpOp → Nat → Nat → Bool
 | .Lt, m, n => decide (m < n)
 | _, m, n => decide (n < m)
inductive LexAt (op : CmpOp) (A : Around) (s : Shared) : List Value → List Value → Bool → Prop
 | fin {xs ys : List Value} (h : xs = [] ∨ ys = []) : LexAt op A s xs ys (szB op xs.length ys.length)
 | eq {x y : Value} {xs ys : List Value} {b : Bool} (h : EqAt A s x y true) (r : LexAt op A s xs ys b) : LexAt op A s (x :: xs) (y :: ys) b
 | ne {x y : Value} {xs ys : List Value} {b : Bool} (h : EqAt A s x y false) (r : CmpAt op A s x y b) : LexAt op A s (x :: xs) (y :: ys) b
section
variable {prog : Program} {w : World} {A : Around} {E : Value → Shared → Prop} {s : Shared}
theorem lt_tree {a b : Addr} {xs ys : Array Value} {r : Bool} {P : PySem.Fin → Shared → Prop} (hx : s.heap.IsTuple a xs) (hy : s.heap.IsTuple b ys) (hl : LexAt .Lt A s xs.toList ys.toList r) (h : P (.done (.ret (.bool r))) s) :
  wpAny (model prog w) A (Builtin.«tuple.__lt__» ⟨[.ref a, .ref b], []⟩) P E s := by
 obtain ⟨oa, hoa, hca, na, hda⟩ := hx
 obtain ⟨ob, hob, hcb, nb, hdb⟩ := hy
 show wpAny _ _ (isInstance (.ref b) (.type "tuple") >>= _) _ _ s
 refine wpAny_bind (wpAny_isInstance ⟨ob, hob, hcb⟩ isSubtype_tuple_tuple ?_)
 simp only [Bool.not_true, Bool.false_eq_true, if_false]
 refine wpAny_bind (wpAny_tupleItemsOf hoa hda ?_)
 refine wpAny_bind (wpAny_tupleItemsOf hob hdb ?_)
 refine wpAny_bind ?_
 refine wpAny_forIn_list _
  (fun rest q s' => q.1 = none ∧ s' = s ∧ ∃ xs' ys' k, rest = List.zip xs' ys' ∧ LexAt .Lt A s xs' ys' r ∧ xs.size = xs'.length + k ∧ ys.size = ys'.length + k)
  _ ?_ ?_ _ _ ⟨rfl, rfl, xs.toList, ys.toList, 0, rfl, hl, by simp, by simp⟩
 ·
  rintro ⟨u, v⟩ rest q s' ⟨hr, rfl, xs', ys', k, hz, hl', e1, e2⟩
  cases hl' with
  | fin hf => rcases hf with rfl | rfl <;> simp at hz
  |
   @eq x y xs'' ys'' _ he hr' =>
   simp only [List.zip_cons_cons, List.cons.injEq, Prod.mk.injEq] at hz
   obtain ⟨⟨rfl, rfl⟩, rfl⟩ := hz
   refine wpAny_bind (he prog w _ _ ?_)
   simp only [Bool.not_true, Bool.false_eq_true, if_false]
   exact wpAny_pure ⟨rfl, rfl, xs'', ys'', k + 1, rfl, hr', by simp only [List.length_cons] at e1; omega, by simp only [List.length_cons] at e2; omega⟩
  |
   @ne x y xs'' ys'' _ he hc =>
   simp only [List.zip_cons_cons, List.cons.injEq, Prod.mk.injEq] at hz
   obtain ⟨⟨rfl, rfl⟩, rfl⟩ := hz
   refine wpAny_bind (he prog w _ _ ?_)
   simp only [Bool.not_false, if_true]
   refine wpAny_bind (wpAny_rule (wpAny_bind (hc prog w _ _ ?_)))
   exact wpAny_bind (wpAny_pure (wpAny_pure (wpAny_pure h)))
 ·
  rintro ⟨q1, q2⟩ s' ⟨hr, rfl, xs', ys', k, hz, hl', e1, e2⟩
  simp only at hr
  subst hr
  refine wpAny_pure ?_
  cases hl' with
  |
   fin h' =>
   show P (.done (.ret (.bool (decide (xs.size < ys.size))))) s'
   have e : decide (xs.size < ys.size) = szB .Lt xs'.length ys'.length := by
    show _ = decide (xs'.length < ys'.length)
    rw [e1, e2]
    exact decide_eq_decide.mpr (by omega)
   rw [e]
   exact h
  | eq _ _ => simp at hz
  | ne _ _ => simp at hz
theorem gt_tree {a b : Addr} {xs ys : Array Value} {r : Bool} {P : PySem.Fin → Shared → Prop} (hx : s.heap.IsTuple a xs) (hy : s.heap.IsTuple b ys) (hl : LexAt .Gt A s xs.toList ys.toList r) (h : P (.done (.ret (.bool r))) s) :
  wpAny (model prog w) A (Builtin.«tuple.__gt__» ⟨[.ref a, .ref b], []⟩) P E s := by
 obtain ⟨oa, hoa, hca, na, hda⟩ := hx
 obtain ⟨ob, hob, hcb, nb, hdb⟩ := hy
 show wpAny _ _ (isInstance (.ref b) (.type "tuple") >>= _) _ _ s
 refine wpAny_bind (wpAny_isInstance ⟨ob, hob, hcb⟩ isSubtype_tuple_tuple ?_)
 simp only [Bool.not_true, Bool.false_eq_true, if_false]
 refine wpAny_bind (wpAny_tupleItemsOf hoa hda ?_)
 refine wpAny_bind (wpAny_tupleItemsOf hob hdb ?_)
 refine wpAny_bind ?_
 refine wpAny_forIn_list _
  (fun rest q s' => q.1 = none ∧ s' = s ∧ ∃ xs' ys' k, rest = List.zip xs' ys' ∧ LexAt .Gt A s xs' ys' r ∧ xs.size = xs'.length + k ∧ ys.size = ys'.length + k)
  _ ?_ ?_ _ _ ⟨rfl, rfl, xs.toList, ys.toList, 0, rfl, hl, by simp, by simp⟩
 ·
  rintro ⟨u, v⟩ rest q s' ⟨hr, rfl, xs', ys', k, hz, hl', e1, e2⟩
  cases hl' with
  | fin hf => rcases hf with rfl | rfl <;> simp at hz
  |
   @eq x y xs'' ys'' _ he hr' =>
   simp only [List.zip_cons_cons, List.cons.injEq, Prod.mk.injEq] at hz
   obtain ⟨⟨rfl, rfl⟩, rfl⟩ := hz
   refine wpAny_bind (he prog w _ _ ?_)
   simp only [Bool.not_true, Bool.false_eq_true, if_false]
   exact wpAny_pure ⟨rfl, rfl, xs'', ys'', k + 1, rfl, hr', by simp only [List.length_cons] at e1; omega, by simp only [List.length_cons] at e2; omega⟩
  |
   @ne x y xs'' ys'' _ he hc =>
   simp only [List.zip_cons_cons, List.cons.injEq, Prod.mk.injEq] at hz
   obtain ⟨⟨rfl, rfl⟩, rfl⟩ := hz
   refine wpAny_bind (he prog w _ _ ?_)
   simp only [Bool.not_false, if_true]
   refine wpAny_bind (wpAny_rule (wpAny_bind (hc prog w _ _ ?_)))
   exact wpAny_bind (wpAny_pure (wpAny_pure (wpAny_pure h)))
 ·
  rintro ⟨q1, q2⟩ s' ⟨hr, rfl, xs', ys', k, hz, hl', e1, e2⟩
  simp only at hr
  subst hr
  refine wpAny_pure ?_
  cases hl' with
  |
   fin h' =>
   show P (.done (.ret (.bool (decide (xs.size > ys.size))))) s'
   have e : decide (xs.size > ys.size) = szB .Gt xs'.length ys'.length := by
    show _ = decide (ys'.length < xs'.length)
    rw [e1, e2]
    exact decide_eq_decide.mpr (by omega)
   rw [e]
   exact h
  | eq _ _ => simp at hz
  | ne _ _ => simp at hz
theorem CmpAt.ltT {a b : Addr} {xs ys : Array Value} {r : Bool} (hx : s.heap.IsTuple a xs) (hy : s.heap.IsTuple b ys) (hu : A.units < cLine) (hl : LexAt .Lt A.in1 s xs.toList ys.toList r) : CmpAt .Lt A s (.ref a) (.ref b) r := fun prog w E Q h =>
 have hxT : s.TypeIs (.ref a) "tuple" := let ⟨o, ho, hc, _⟩ := hx; ⟨o, ho, hc⟩
 have hyT : s.TypeIs (.ref b) "tuple" := let ⟨o, ho, hc, _⟩ := hy; ⟨o, ho, hc⟩
 wpAny_richCompare_same_room (op := .Lt) hxT hyT F.slot_tuple_lt (wpAny_call_entry F.slot_tuple_lt hxT F.entry_tuple_lt (lt_tree hx hy hl ⟨_, rfl, (fun e => nomatch e), h⟩) (F.args_tuple_lt_2 _ _)) hu
theorem CmpAt.gtT {a b : Addr} {xs ys : Array Value} {r : Bool} (hx : s.heap.IsTuple a xs) (hy : s.heap.IsTuple b ys) (hu : A.units < cLine) (hl : LexAt .Gt A.in1 s xs.toList ys.toList r) : CmpAt .Gt A s (.ref a) (.ref b) r := fun prog w E Q h =>
 have hxT : s.TypeIs (.ref a) "tuple" := let ⟨o, ho, hc, _⟩ := hx; ⟨o, ho, hc⟩
 have hyT : s.TypeIs (.ref b) "tuple" := let ⟨o, ho, hc, _⟩ := hy; ⟨o, ho, hc⟩
 wpAny_richCompare_same_room (op := .Gt) hxT hyT F.slot_tuple_gt (wpAny_call_entry F.slot_tuple_gt hxT F.entry_tuple_gt (gt_tree hx hy hl ⟨_, rfl, (fun e => nomatch e), h⟩) (F.args_tuple_gt_2 _ _)) hu
end
end L2
namespace L2
open PySem PySem.Spec PyProof.Rows PySem.SeqAt
def maxBy (gt : V → V → Bool) : V → List V → V
 | b, [] => b
 | b, x :: xs => maxBy gt (if gt x b then x else b) xs
theorem maxBy_mem {gt : V → V → Bool} : ∀ {xs : List V} {b : V}, maxBy gt b xs = b ∨ maxBy gt b xs ∈ xs
 | [], _ => .inl rfl
 |
  x :: xs, b => by
  unfold maxBy
  rcases maxBy_mem (gt := gt) (xs := xs) (b := if gt x b then x else b) with h | h
  ·
   rw [h]
   by_cases g : gt x b = true
   · rw [if_pos g]; exact .inr (List.mem_cons_self ..)
   · rw [if_neg g]; exact .inl rfl
  · exact .inr (List.mem_cons_of_mem _ h)
def MaxKey (X : Cx) (H : Hp) (xs : List V) (G : V → Hp → V → Prop) (key : Value) : Prop :=
 (key = .none ∧ ∀ x H', G x H' x) ∨ ∃ f, key = .ref f ∧ ∀ (pins : List (Addr × Obj)) (s : Shared) (σ : St) (H' : Hp) (x : V) (u : Value) (Q : VK) (E : Value → Shared → Prop), Inv X pins σ H' s → Same H H' → x ∈ xs → RelV x u →
  (∀ v H'', Same H' H'' → G x H'' v → Q v H'') → wpAny (model X.prog X.w) X.A.in1 (call (.ref f) [u]) (EP X pins σ Q) E s
structure NextAt (X : Cx) (it : Addr) (xs : List V) (H : Hp) (tn : Nat → Heap → Prop) : Prop where
 item : ∀ (pins : List (Addr × Obj)) (s : Shared) (σ : St) (H' : Hp) (i : Nat) (x : V) (E : Value → Shared → Prop) (Q : Option Value → Shared → Prop), Inv X pins σ H' s → Same H H' → tn i s.heap → xs[i]? = some x →
  (∀ u h', RelV x u → tn (i + 1) h' → (∀ b o, b ≠ it → s.heap.get? b = some o → h'.get? b = some o) → Q (some u) { s with heap := h' }) → wpAny (model X.prog X.w) X.A.in1 (pyNext (.ref it)) Q E s
 done : ∀ (pins : List (Addr × Obj)) (s : Shared) (σ : St) (H' : Hp) (i : Nat) (E : Value → Shared → Prop) (Q : Option Value → Shared → Prop), Inv X pins σ H' s → Same H H' → tn i s.heap → xs.length ≤ i →
  (∀ h', (∀ b o, b ≠ it → s.heap.get? b = some o → h'.get? b = some o) → Q none { s with heap := h' }) → wpAny (model X.prog X.w) X.A.in1 (pyNext (.ref it)) Q E s
 obj : ∀ i h, tn i h → ∃ o, h.get? it = some o ∧ (∀ v, o.data ≠ .cell v) ∧ ∀ h' : Heap, h'.get? it = some o → tn i h'
theorem next_list {X : Cx} {it l : Addr} {xs : List V} {H : Hp} (hc : X.calm = true) (hl : H l = some (.lst xs)) : NextAt X it xs H (fun i h => h.IsListIter it l i) where
 item := fun pins s σ H' i x E Q I sm st hx h => by
  obtain ⟨its, rvs, p, hz⟩ := I.list (SqL.of (K := X.K) (sm _ _ hl))
  obtain ⟨w, hw, rw⟩ := rvs.get hx
  exact wpAny_pyNext_list_item st p.isList (x := w) (by simpa using hw) fun h' st' sb => h w h' rw st' fun b o hb e => (sb.2 b hb).trans e
 done := fun pins s σ H' i E Q I sm st hi h => by
  obtain ⟨its, rvs, p, hz⟩ := I.list (SqL.of (K := X.K) (sm _ _ hl))
  have hlen := rvs.length
  exact wpAny_pyNext_list_end (I.ok.hd hc) st p.isList (by simp; omega) fun h' eb => h h' eb
 obj := fun i h st => by
  obtain ⟨o, e, c, d⟩ := st
  exact ⟨o, e, (fun v z => by rw [d] at z; cases z), fun h' e' => ⟨o, e', c, d⟩⟩
theorem next_tup {X : Cx} {it l : Addr} {xs : List V} {H : Hp} (hc : X.calm = true) (hl : H l = some (.tup xs)) : NextAt X it xs H (fun i h => h.IsTupleIter it l i) where
 item := fun pins s σ H' i x E Q I sm st hx h => by
  obtain ⟨its, rvs, p, hz⟩ := I.tuple (SqT.of (K := X.K) (sm _ _ hl))
  obtain ⟨w, hw, rw⟩ := rvs.get hx
  exact wpAny_pyNext_tuple_item st p (x := w) (by simpa using hw) fun h' st' sb => h w h' rw st' fun b o hb e => (sb.2 b hb).trans e
 done := fun pins s σ H' i E Q I sm st hi h => by
  obtain ⟨its, rvs, p, hz⟩ := I.tuple (SqT.of (K := X.K) (sm _ _ hl))
  have hlen := rvs.length
  exact wpAny_pyNext_tuple_end (I.ok.hd hc) st p (by simp; omega) fun h' eb => h h' eb
 obj := fun i h st => by
  obtain ⟨o, e, c, d⟩ := st
  exact ⟨o, e, (fun v z => by rw [d] at z; cases z), fun h' e' => ⟨o, e', c, d⟩⟩
section
variable {X : Cx} {pins : List (Addr × Obj)} {σ : St} {H : Hp} {it S : Addr} {xs : List V} {key : Value} {G : V → Hp → V → Prop} {gt : V → V → Bool} {R : Result → Shared → Prop}
theorem FpOk.same {b : Addr} {H H' : Hp} (f : FpOk X pins H b) (h : H' b = none) : FpOk X pins H' b := ⟨h, f.2⟩
theorem key_step {f : Addr} (g : ∀ (pins : List (Addr × Obj)) (s : Shared) (σ : St) (H' : Hp) (x : V) (u : Value) (Q : VK) (E : Value → Shared → Prop), Inv X pins σ H' s → Same H H' → x ∈ xs → RelV x u →
   (∀ v H'', Same H' H'' → G x H'' v → Q v H'') → wpAny (model X.prog X.w) X.A.in1 (call (.ref f) [u]) (EP X pins σ Q) E s)
  {s : Shared} {H' : Hp} {x : V} {u : Value} {oi oS : Obj} {Q : Value → Shared → Prop} {E : Value → Shared → Prop}
  (I : Inv X pins σ H' s) (sm : Same H H') (hx : x ∈ xs) (rx : RelV x u) (fi : FpOk X pins H' it) (fS : FpOk X pins H' S) (hi : s.heap.get? it = some oi) (hS : s.heap.get? S = some oS) (di : ∀ v, oi.data ≠ .cell v) (dS : ∀ v, oS.data ≠ .cell v)
  (h : ∀ uv s' v H'', Inv X pins σ H'' s' → Same H' H'' → FpOk X pins H'' it → FpOk X pins H'' S → s'.heap.get? it = some oi → s'.heap.get? S = some oS → RelV v uv → G x H'' v → Q uv s') :
  wpAny (model X.prog X.w) X.A.in1 (call (.ref f) [u]) Q E s := by
 have I2 := I.pinned (fp := [it, S]) (fun b hb => by
  rcases List.mem_cons.mp hb with rfl | hb
  · exact fi
  · rw [List.mem_singleton] at hb; rw [hb]; exact fS) (fun b hb => by
  rcases List.mem_cons.mp hb with rfl | hb
  · exact ⟨_, hi, di⟩
  · rw [List.mem_singleton] at hb; rw [hb]; exact ⟨_, hS, dS⟩)
 refine wpAny_mono (g _ s σ H' x u (fun v H'' => Same H' H'' ∧ G x H'' v) _ I2 sm hx rx fun v H'' s1 g1 => ⟨s1, g1⟩) ?_ fun _ _ z => z
 rintro uv s' ⟨v, H'', I3, rv, s1, g1⟩
 have p1 := I3.pin (it, oi) (List.mem_append_right _ (List.mem_append_right _ (mem_pinsAt (List.mem_cons_self ..) hi)))
 have p2 := I3.pin (S, oS) (List.mem_append_right _ (List.mem_append_right _ (mem_pinsAt (List.mem_cons_of_mem _ (List.mem_cons_self ..)) hS)))
 exact h uv s' v H'' I3.unpinned s1 (fi.same p1.2.1) (fS.same p2.2.1) p1.1 p2.1 rv g1
theorem max_tail {s : Shared} {w wv u uv : Value} {b : Bool} {c : Nat} {hdl : Value → Sem Bool} {k : Unit → Sem PySem.Fin} {Q : PySem.Fin → Shared → Prop} {E : Value → Shared → Prop} (hcmp : CmpAt .Gt X.A.in1 s wv uv b) (hS : s.heap.get? S = some { cls := .type "list", data := .seq #[u, uv] c })
  (h1 : b = true → ∀ h' c', (∀ a o, a ≠ S → s.heap.get? a = some o → h'.get? a = some o) → h'.get? S = some { cls := .type "list", data := .seq #[w, wv] c' } → wpAny (model X.prog X.w) X.A.in1 (k ()) Q E { s with heap := h' })
  (h0 : b = false → wpAny (model X.prog X.w) X.A.in1 (k ()) Q E s) :
  wpAny (model X.prog X.w) X.A.in1 (tryCatch (holding [w, wv] (richCompare .Gt wv uv >>= fun answer => holding [answer] (truthy answer) >>= fun yes => letGo [answer] >>= fun _ => pure yes)) hdl >>= fun better =>
   if better = true then (updateSeq S (fun _ => #[w, wv]) >>= fun _ => letGo [uv, u] >>= k) else (letGo [w, wv] >>= k)) Q E s := by
 refine wpAny_bind (wpAny_tryCatch (wpAny_holding (wpAny_bind (hcmp X.prog X.w _ _ ?_))))
 refine wpAny_bind (wpAny_holding (wpAny_truthy_bool ?_))
 refine wpAny_bind (wpAny_letGo (wpAny_pure ?_))
 cases b with
 |
  true =>
  rw [if_pos rfl]
  refine wpAny_bind (wpAny_updateSeq hS rfl (wpAny_bind (wpAny_letGo ?_)))
  exact h1 rfl _ _ (fun a o ha e => (Heap.get?_update_ne _ _ _ _ ha).trans e) (Heap.get?_update_self _ hS rfl)
 |
  false =>
  rw [if_neg Bool.false_ne_true]
  exact wpAny_bind (wpAny_letGo (h0 rfl))
theorem max_loopK {tn : Nat → Heap → Prop} (N : NextAt X it xs H tn) (hK : MaxKey X H xs G key) (hG : ∀ x H1 H2 v, Same H1 H2 → G x H1 v → G x H2 v) (hne : it ≠ S)
  (hcmp : ∀ (pins : List (Addr × Obj)) (s : Shared) (σ : St) (H' : Hp) (x y v v' : V) (u u' : Value), Inv X pins σ H' s → Same H H' → x ∈ xs → y ∈ xs → G x H' v → G y H' v' → RelV v u → RelV v' u' → CmpAt .Gt X.A.in1 s u u' (gt x y)) :
  ∀ (rest : List V) (i : Nat) (b bv : V) (s : Shared) (H' : Hp) (c : Nat) (u uv : Value), xs.drop i = rest → b ∈ xs → Inv X pins σ H' s → Same H H' → FpOk X pins H' it → FpOk X pins H' S → tn i s.heap →
   s.heap.get? S = some { cls := .type "list", data := .seq #[u, uv] c } → RelV b u → RelV bv uv → G b H' bv → (∀ u s' H'', Inv X pins σ H'' s' → Same H H'' → RelV (maxBy gt b rest) u → R (.ok (.ret u)) s') →
   codeAny (model X.prog X.w) X.A (.builtin "max.loop" ⟨[.ref it, key, .ref S], []⟩) R s := by
 have hname : (toString "max" ++ toString ".loop" : String) = "max.loop" := by decide
 intro rest
 induction rest with
 |
  nil =>
  intro i b bv s H' c u uv hd hb I sm fi fS st hS rb rv gb hR
  have hi : xs.length ≤ i := List.drop_eq_nil_iff.mp hd
  refine codeAny_builtin F.entry_max_loop ?_
  rw [Around.under_plainId F.plain_max_loop _]
  show wpAny _ X.A.in1 (seqItems? (.ref S) >>= _) _ _ s
  refine wpAny_bind (wpAny_seqItems hS rfl ?_)
  show wpAny _ X.A.in1 (tryCatch (pyNext (.ref it)) _ >>= _) _ _ s
  obtain ⟨f0, f1, f2, f3, f4, f5⟩ := id fi
  obtain ⟨g0, g1, g2, g3, g4, g5⟩ := id fS
  refine wpAny_bind (wpAny_tryCatch (N.done pins s σ H' i _ _ I sm st hi fun h' eb => ?_))
  have I1 : Inv X pins σ H' { s with heap := h' } := I.turned (t' := s.toks) (fun b o hb e => eb b o hb e) f0 f1 f3 f4 f5
  have hS' : h'.get? S = some { cls := .type "list", data := .seq #[u, uv] c } := eb S _ (Ne.symm hne) hS
  show wpAny _ X.A.in1 (updateSeq S (fun _ => #[]) >>= _) _ _ _
  refine wpAny_bind (wpAny_updateSeq hS' rfl (wpAny_bind (wpAny_letGo (wpAny_pure ?_))))
  exact hR u _ H' (I1.turned (t' := s.toks) (fun b o hb e => (Heap.get?_update_ne _ _ _ _ hb).trans e) g0 g1 g3 g4 g5) sm rb
 |
  cons x rest ih =>
  intro i b bv s H' c u uv hd hb I sm fi fS st hS rb rv gb hR
  have hx : xs[i]? = some x := by rw [← List.head?_drop, hd]; rfl
  have hd' : xs.drop (i + 1) = rest := by rw [← List.tail_drop, hd]; rfl
  have hxm := List.mem_of_getElem? hx
  refine codeAny_builtin F.entry_max_loop ?_
  rw [Around.under_plainId F.plain_max_loop _]
  show wpAny _ X.A.in1 (seqItems? (.ref S) >>= _) _ _ s
  refine wpAny_bind (wpAny_seqItems hS rfl ?_)
  show wpAny _ X.A.in1 (tryCatch (pyNext (.ref it)) _ >>= _) _ _ s
  obtain ⟨f0, f1, f2, f3, f4, f5⟩ := id fi
  obtain ⟨g0, g1, g2, g3, g4, g5⟩ := id fS
  refine wpAny_bind (wpAny_tryCatch (N.item pins s σ H' i x _ _ I sm st hx fun w h' rw st' sb => ?_))
  have I1 : Inv X pins σ H' { s with heap := h' } := I.turned (t' := s.toks) sb f0 f1 f3 f4 f5
  have hS' : h'.get? S = some { cls := .type "list", data := .seq #[u, uv] c } := sb S _ (Ne.symm hne) hS
  obtain ⟨oi, hoi, di, kp0⟩ := N.obj _ _ st'
  have go : ∀ (wv : Value) (s2 : Shared) (v : V) (H2 : Hp) (hdl : Value → Sem Bool), Inv X pins σ H2 s2 → Same H' H2 → FpOk X pins H2 it → FpOk X pins H2 S → s2.heap.get? it = some oi →
    s2.heap.get? S = some { cls := .type "list", data := .seq #[u, uv] c } → RelV v wv → G x H2 v → wpAny (model X.prog X.w) X.A.in1 (tryCatch (holding [w, wv] (richCompare .Gt wv uv >>= fun answer => holding [answer] (truthy answer) >>= fun yes => letGo [answer] >>= fun _ => pure yes)) hdl >>= fun better =>
     if better = true then (updateSeq S (fun _ => #[w, wv]) >>= fun _ => letGo [uv, u] >>= fun _ => again (Code.builtin (toString "max" ++ toString ".loop") ⟨[.ref it, key, .ref S], []⟩)) else (letGo [w, wv] >>= fun _ => again (Code.builtin (toString "max" ++ toString ".loop") ⟨[.ref it, key, .ref S], []⟩))) (fun fin s' => match fin with | .done f => R (.ok f) s' | .again c' => c'.quiet = true ∧ codeAny (model X.prog X.w) X.A c' R s') (fun e s' => R (.error e) s') s2 := by
   intro wv s2 v H2 hdl I2 sm2 fi2 fS2 hi2 hS2 rv2 gv2
   have gb2 := hG b H' H2 bv sm2 gb
   obtain ⟨g0, g1, g2, g3, g4, g5⟩ := id fS2
   refine max_tail (hcmp pins s2 σ H2 x b v bv wv uv I2 (sm.trans sm2) hxm hb gv2 gb2 rv2 rv) hS2 (fun hg h' c' kp hS3 => ?_) (fun hg => ?_)
   ·
    rw [hname]
    refine wpAny_pure ⟨plainId_quiet F.plain_max_loop _, ih (i + 1) x v _ H2 c' w wv hd' hxm (I2.turned (t' := s2.toks) (fun b o hb e => kp b o hb e) g0 g1 g3 g4 g5) (sm.trans sm2) fi2 fS2 (kp0 _ (kp _ _ hne hi2)) hS3 rw rv2 gv2 fun u' s' H'' a1 a2 a3 => hR u' s' H'' a1 a2 ?_⟩
    unfold maxBy
    rw [if_pos hg]
    exact a3
   ·
    rw [hname]
    refine wpAny_pure ⟨plainId_quiet F.plain_max_loop _, ih (i + 1) b bv _ H2 c u uv hd' hb I2 (sm.trans sm2) fi2 fS2 (kp0 _ hi2) hS2 rb rv gb2 fun u' s' H'' a1 a2 a3 => hR u' s' H'' a1 a2 ?_⟩
    unfold maxBy
    rw [if_neg (by rw [hg]; exact Bool.false_ne_true)]
    exact a3
  rcases hK with ⟨rfl, g⟩ | ⟨f, rfl, g⟩
  · exact go w _ x H' _ I1 (Same.refl _) fi fS hoi hS' rw (g x H')
  ·
   show wpAny _ X.A.in1 (tryCatch (holding [w] (call (.ref f) [w])) _ >>= _) _ _ _
   refine wpAny_bind (wpAny_tryCatch (wpAny_holding (key_step g I1 sm hxm rw fi fS hoi hS' di (fun v z => nomatch z) fun wv s2 v H2 I2 sm2 fi2 fS2 hi2 hS2 rv2 gv2 => ?_)))
   exact go wv s2 v H2 _ I2 sm2 fi2 fS2 hi2 hS2 rv2 gv2
end
end L2
namespace L2
open PySem PySem.Spec PyProof.Rows PySem.SeqAt
section
variable {X : Cx} {pins : List (Addr × Obj)} {σ : St} {H : Hp} {it S : Addr} {xs : List V} {key : Value} {G : V → Hp → V → Prop} {gt : V → V → Bool} {R : Result → Shared → Prop}
abbrev MaxCmp (X : Cx) (H : Hp) (xs : List V) (G : V → Hp → V → Prop) (gt : V → V → Bool) : Prop := ∀ (pins : List (Addr × Obj)) (s : Shared) (σ : St) (H' : Hp) (x y v v' : V) (u u' : Value), Inv X pins σ H' s → Same H H' → x ∈ xs → y ∈ xs → G x H' v → G y H' v' → RelV v u → RelV v' u' → CmpAt .Gt X.A.in1 s u u' (gt x y)
theorem max_firstK {tn : Nat → Heap → Prop} {x : V} {ys : List V} (N : NextAt X it (x :: ys) H tn) (hK : MaxKey X H (x :: ys) G key) (hG : ∀ x H1 H2 v, Same H1 H2 → G x H1 v → G x H2 v) (hne : it ≠ S) (hcmp : MaxCmp X H (x :: ys) G gt)
  {s : Shared} {H' : Hp} {c : Nat} (I : Inv X pins σ H' s) (sm : Same H H') (fi : FpOk X pins H' it) (fS : FpOk X pins H' S) (st : tn 0 s.heap) (hS : s.heap.get? S = some { cls := .type "list", data := .seq #[] c })
  (hR : ∀ u s' H'', Inv X pins σ H'' s' → Same H H'' → RelV (maxBy gt x ys) u → R (.ok (.ret u)) s') : codeAny (model X.prog X.w) X.A (.builtin "max.loop" ⟨[.ref it, key, .ref S], []⟩) R s := by
 have hname : (toString "max" ++ toString ".loop" : String) = "max.loop" := by decide
 refine codeAny_builtin F.entry_max_loop ?_
 rw [Around.under_plainId F.plain_max_loop _]
 show wpAny _ X.A.in1 (seqItems? (.ref S) >>= _) _ _ s
 refine wpAny_bind (wpAny_seqItems hS rfl ?_)
 show wpAny _ X.A.in1 (tryCatch (pyNext (.ref it)) _ >>= _) _ _ s
 obtain ⟨f0, f1, f2, f3, f4, f5⟩ := id fi
 refine wpAny_bind (wpAny_tryCatch (N.item pins s σ H' 0 x _ _ I sm st rfl fun w h' rw st' sb => ?_))
 have I1 : Inv X pins σ H' { s with heap := h' } := I.turned (t' := s.toks) sb f0 f1 f3 f4 f5
 have hS' : h'.get? S = some { cls := .type "list", data := .seq #[] c } := sb S _ (Ne.symm hne) hS
 obtain ⟨oi, hoi, di, kp0⟩ := N.obj _ _ st'
 have go : ∀ (wv : Value) (s2 : Shared) (v : V) (H2 : Hp), Inv X pins σ H2 s2 → Same H' H2 → FpOk X pins H2 it → FpOk X pins H2 S → s2.heap.get? it = some oi →
   s2.heap.get? S = some { cls := .type "list", data := .seq #[] c } → RelV v wv → G x H2 v → wpAny (model X.prog X.w) X.A.in1 (updateSeq S (fun _ => #[w, wv]) >>= fun _ => again (Code.builtin (toString "max" ++ toString ".loop") ⟨[.ref it, key, .ref S], []⟩))
    (fun fin s' => match fin with | .done f => R (.ok f) s' | .again c' => c'.quiet = true ∧ codeAny (model X.prog X.w) X.A c' R s') (fun e s' => R (.error e) s') s2 := by
  intro wv s2 v H2 I2 sm2 fi2 fS2 hi2 hS2 rv2 gv2
  obtain ⟨g0, g1, g2, g3, g4, g5⟩ := id fS2
  rw [hname]
  refine wpAny_bind (wpAny_updateSeq hS2 rfl (wpAny_pure ⟨plainId_quiet F.plain_max_loop _, max_loopK N hK hG hne hcmp ys 1 x v _ H2 _ w wv rfl (List.mem_cons_self ..) (I2.turned (t' := s2.toks) (fun b o hb e => (Heap.get?_update_ne _ _ _ _ hb).trans e) g0 g1 g3 g4 g5) (sm.trans sm2) fi2 fS2
   (kp0 _ ((Heap.get?_update_ne _ _ _ _ hne).trans hi2)) (Heap.get?_update_self _ hS2 rfl) rw rv2 gv2 hR⟩))
 rcases hK with ⟨rfl, g⟩ | ⟨f, rfl, g⟩
 · exact go w _ x H' I1 (Same.refl _) fi fS hoi hS' rw (g x H')
 ·
  show wpAny _ X.A.in1 (tryCatch (holding [w] (call (.ref f) [w])) _ >>= _) _ _ _
  refine wpAny_bind (wpAny_tryCatch (wpAny_holding (key_step g I1 sm (List.mem_cons_self ..) rw fi fS hoi hS' di (fun v z => nomatch z) fun wv s2 v H2 I2 sm2 fi2 fS2 hi2 hS2 rv2 gv2 => ?_)))
  exact go wv s2 v H2 I2 sm2 fi2 fS2 hi2 hS2 rv2 gv2
end
end L2
namespace L2
open PySem PySem.W PyProof.Rows
structure SortsV (prog : Program) (w : World) (A : Around) (s : Shared) (κ : SortKind) {O : KeyOrd} (key : Value → O.α) (vs : List Value) : Prop where
 kind : ∀ (E : Value → Shared → Prop) (Q : SortKind → Shared → Prop), Q κ s → wpAny (model prog w) A (keyKind' vs.toArray) Q E s
 cmp : ∀ x ∈ vs, ∀ y ∈ vs, ∀ C : Bool → Shared → Prop, C (O.blt (key x) (key y)) s → wpAny (model prog w) A (keyLt' κ x y) C (fun _ _ => False) s
def pickV (vs : List Value) (p : Array Nat) : List Value := p.toList.map fun i => vs.getD i Value.none
section
variable {prog : Program} {w : World} {A : Around} {E : Value → Shared → Prop} {s : Shared} {vs : List Value} {O : KeyOrd} {key : Value → O.α} {κ : SortKind}
theorem getD_in {i : Nat} (hi : i < vs.length) : vs.getD i Value.none ∈ vs := by
 have e : vs.getD i Value.none = vs[i] := by simp [hi]
 rw [e]
 exact List.getElem_mem hi
theorem SortsV.asks (S : SortsV prog w A s κ key vs) : Asks (O := O) (fun i => key (vs.getD i Value.none)) vs.length (kas_ask prog w A κ vs) s := by
 intro i j C hi hj h
 unfold kas_ask
 exact S.cmp _ (getD_in hi) _ (getD_in hj) C h
theorem pickV_perm {p : Array Nat} (hp : Rg vs.length p) : (pickV vs p).Perm vs := by
 have h := (Array.perm_iff_toList_perm.mp hp).map fun i => vs.getD i Value.none
 have e : (List.range vs.length).map (fun i => vs.getD i Value.none) = vs := by
  apply List.ext_getElem
  · simp
  ·
   intro i h1 h2
   simp [h2]
 rw [List.toList_toArray, e] at h
 exact h
theorem pickV_up {p : Array Nat} (hp : Rg vs.length p) (hu : Up (O := O) (fun i => key (vs.getD i Value.none)) p vs.length) : (pickV vs p).Pairwise fun x y => O.kle (key x) (key y) := by
 rw [List.pairwise_iff_getElem]
 intro i j hi hj hij
 have hz := hp.size
 have hl : (pickV vs p).length = vs.length := by unfold pickV; rw [List.length_map, Array.length_toList, hz]
 have h := hu i j (by omega) (by omega)
 have gi : ∀ k (hk : k < (pickV vs p).length), (pickV vs p)[k] = vs.getD (p.getD k 0) Value.none := by
  intro k hk
  have hk' : k < p.size := by omega
  have e : (pickV vs p)[k]? = some (vs.getD (p.getD k 0) Value.none) := by
   unfold pickV
   rw [List.getElem?_map, Array.getElem?_toList, Array.getElem?_eq_getElem hk', Array.getD, dif_pos hk']
   rfl
  rw [List.getElem?_eq_getElem hk] at e
  exact Option.some.inj e
 rw [gi i hi, gi j hj]
 exact h
theorem small_lsort {a : Addr} {k : Nat} {P : PySem.Fin → Shared → Prop} (ho : s.heap.get? a = some (seqObj "list" vs.toArray k)) (h64 : vs.length < 64)
  (hS : 2 ≤ vs.length → ∀ h' : Heap, (∀ b o, b ≠ a → s.heap.get? b = some o → h'.get? b = some o) → SortsV prog w A { s with heap := h' } κ key vs)
  (h : ∀ us : List Value, us.Perm vs → us.Pairwise (fun x y => O.kle (key x) (key y)) → P (.done (.ret .none)) { s with heap := sortedHeap s.heap a vs us.toArray }) : wpAny (model prog w) A (Builtin.«list.sort» ⟨[.ref a], []⟩) P E s := by
 obtain ⟨c1, g1⟩ : ∃ c, (s.heap.update a (Obj.mapSeq fun _ => (#[] : Array Value))).get? a = some (seqObj "list" #[] c) := ⟨_, get?_update_seq ho fun _ => #[]⟩
 have g2 : (((s.heap.update a (Obj.mapSeq fun _ => (#[] : Array Value))).push (seqObj "tuple" vs.toArray 0)).push (seqObj "list" #[] 0)).get? a = some (seqObj "list" #[] c1) := Heap.get?_push_of_some _ (Heap.get?_push_of_some _ g1)
 have kp : ∀ b o, b ≠ a → s.heap.get? b = some o → (((s.heap.update a (Obj.mapSeq fun _ => (#[] : Array Value))).push (seqObj "tuple" vs.toArray 0)).push (seqObj "list" #[] 0)).get? b = some o := fun b o hb e =>
  Heap.get?_push_of_some _ (Heap.get?_push_of_some _ (by rw [Heap.get?_update_ne _ _ _ _ hb]; exact e))
 rw [list_sort_plain]
 refine wpAny_bind (listItems_at ho rfl (wpAny_bind (listUpdate_at ho rfl (wpAny_bind (seqEpoch_at g1 rfl (wpAny_bind (wpAny_newTuple (wpAny_bind (wpAny_newList (wpAny_holding ?_) (Nat.zero_le _))) (by rw [sizeLine_eq]; show vs.length ≤ _; omega))))) (by rw [List.size_toArray, sizeLine_eq]; omega) (Nat.zero_le _))))
 show wpAny (model prog w) A _ P E { s with heap := ((s.heap.update a (Obj.mapSeq fun _ => (#[] : Array Value))).push (seqObj "tuple" vs.toArray 0)).push (seqObj "list" #[] 0) }
 dsimp only
 by_cases h2 : vs.toArray.size < 2
 ·
  have hl2 : vs.length < 2 := by rw [List.size_toArray] at h2; exact h2
  rw [if_pos h2, if_pos h2]
  refine wpAny_bind (wpAny_pure ?_)
  rw [StateT.run_pure]
  refine wpAny_bind (wpAny_pure ?_)
  dsimp only
  have e : (arrOf (SortSt.mk' general' (vs.toArray.zip vs.toArray) #[] 7 none)).map (·.2) = vs.toArray := by
   show (vs.toArray.zip vs.toArray).map (·.2) = _
   apply Array.toList_inj.mp
   simp
   rw [List.map_snd_zip]
   simp
  rw [e]
  refine wpAny_bind (seqEpoch_at g2 rfl (wpAny_bind (listUpdate_at g2 rfl ?_ (Nat.zero_le _) (by rw [List.size_toArray, sizeLine_eq]; omega))))
  simp only [bne_self_eq_false, Bool.false_eq_true, if_false]
  refine wpAny_pure (h vs (.refl _) ?_)
  match vs, hl2 with
  | [], _ => exact .nil
  | [_], _ => exact List.pairwise_singleton _ _
 ·
  have hl2 : 2 ≤ vs.length := by rw [List.size_toArray] at h2; omega
  rw [if_neg h2, if_neg h2]
  have S := hS hl2 _ kp
  refine wpAny_bind (S.kind _ _ ?_)
  have run := kat_run (prog := prog) (w := w) (A := A) (E := E) (κ := κ) (ks := vs) (vs := vs) (s := { s with heap := ((s.heap.update a (Obj.mapSeq fun _ => (#[] : Array Value))).push (seqObj "tuple" vs.toArray 0)).push (seqObj "list" #[] 0) })
   (Q := fun st' s' => s' = { s with heap := ((s.heap.update a (Obj.mapSeq fun _ => (#[] : Array Value))).push (seqObj "tuple" vs.toArray 0)).push (seqObj "list" #[] 0) } ∧ failedOf st' = none ∧ ∃ p, Rg vs.length p ∧ Up (O := O) (fun i => key (vs.getD i Value.none)) p vs.length ∧ arrOf st' = p.map (kas_item (vs.toArray.zip vs.toArray)))
   (G := fun p s' => s' = { s with heap := ((s.heap.update a (Obj.mapSeq fun _ => (#[] : Array Value))).push (seqObj "tuple" vs.toArray 0)).push (seqObj "list" #[] 0) } ∧ Rg vs.length p ∧ Up (O := O) (fun i => key (vs.getD i Value.none)) p vs.length)
   rfl hl2 h64 (fun p st' s' a1 a2 a3 a4 => ⟨a4.1, a3, p, a4.2.1, a4.2.2, a2⟩) (sort_wp S.asks (by omega) fun p hp hu => ⟨rfl, hp, hu⟩)
  refine wpAny_bind (wpAny_mono run ?_ fun _ _ z => z)
  rintro ⟨⟨⟩, st'⟩ s' ⟨rfl, hf, p, hp, hu, har⟩
  dsimp only
  rw [kat_snds rfl har]
  have hz : (pickV vs p).length = vs.length := (pickV_perm hp).length_eq
  refine wpAny_bind (seqEpoch_at g2 rfl (wpAny_bind (listUpdate_at g2 rfl ?_ (Nat.zero_le _) (by rw [List.size_toArray]; show (pickV vs p).length ≤ _; rw [hz, sizeLine_eq]; omega))))
  rw [hf]
  simp only [bne_self_eq_false, Bool.false_eq_true, if_false]
  exact wpAny_pure (h _ (pickV_perm hp) (pickV_up hp hu))
theorem small_sortedC {c : Value} {Q : Value → Shared → Prop} {G : List Value → Prop}
  (hcol : ∀ (E' : Value → Shared → Prop) (Q' : List Value → Shared → Prop), (∀ h' tk vs, (∀ b o, s.heap.get? b = some o → h'.get? b = some o) → s.heap.objs.size ≤ h'.objs.size → G vs → Q' vs { s with heap := h', toks := tk }) → wpAny (model prog w) A.in1 (collect c) Q' E' s)
  (hz : ∀ vs, G vs → vs.length < 64) (hS : ∀ vs, G vs → 2 ≤ vs.length → ∀ (s' : Shared), (∀ b o, s.heap.get? b = some o → s'.heap.get? b = some o) → SortsV prog w A.in1.in1 s' κ key vs)
  (h : ∀ (D : Addr) h' tk (vs us : List Value) (e : Nat), G vs → us.Perm vs → us.Pairwise (fun x y => O.kle (key x) (key y)) → (∀ b o, s.heap.get? b = some o → h'.get? b = some o) → s.heap.objs.size ≤ D → h'.get? D = some (seqObj "list" us.toArray e) → Q (.ref D) { s with heap := h', toks := tk }) :
  wpAny (model prog w) A (call (.builtin "sorted") [c]) Q E s := by
 refine Calls.call_function_entry kind_sorted plain_sorted entry_sorted (args_sorted1 _) ?_
 unfold Builtin.«sorted»
 refine wpAny_bind (m := checkCount "sorted" 1 1 _) (wpAny_pure (wpAny_bind (hcol _ _ fun h1 tk vs kp hge hg => ?_)))
 have h64 := hz vs hg
 refine wpAny_bind (wpAny_newList ?_ (by rw [sizeLine_eq]; omega))
 have hoL : (h1.push (seqObj "list" vs.toArray 0)).get? h1.objs.size = some (seqObj "list" vs.toArray 0) := Heap.get?_push_size _ rfl
 have keep : ∀ b o, s.heap.get? b = some o → (h1.push (seqObj "list" vs.toArray 0)).get? b = some o := fun b o q => Heap.get?_push_of_some _ (kp b o q)
 have ne : ∀ b o, s.heap.get? b = some o → b ≠ h1.objs.size := fun b o q => Nat.ne_of_lt (Heap.lt_size (kp b o q))
 show wpAny _ _ _ _ _ { s with heap := h1.push (seqObj "list" vs.toArray 0), toks := tk }
 refine wpAny_bind (wpAny_holding (wpAny_call_entry slot_list_sort ⟨_, hoL, rfl⟩ entry_list_sort (small_lsort (κ := κ) (key := key) hoL h64 (fun h2 h' kp' => hS vs hg h2 _ fun b o q => kp' b o (ne b o q) (keep b o q)) fun us a1 a2 => ⟨_, rfl, wpAny_pure ⟨_, rfl, ?_⟩⟩) (args_list_sort _)))
 obtain ⟨e, he⟩ := sortedHeap_at (out := us.toArray) hoL
 refine h h1.objs.size _ tk vs us e hg a1 a2 (fun b o q => ?_) hge he
 rw [sortedHeap_old (ne b o q) (Heap.lt_size (keep b o q))]
 exact keep b o q
end
end L2
namespace L2
open PySem PySem.Spec PyProof.Rows PySem.SeqAt DX
def ltS (x y : Str) : Bool := decide (x.cps.toList < y.cps.toList)
theorem lex_nat : ∀ (a b : List Nat), decide (a < b) = lexB (fun x y : Nat => decide (x < y)) a b
 | [], [] => by simp [lexB]
 | [], _ :: _ => by simp [lexB]
 | _ :: _, [] => by simp [lexB]
 |
  x :: xs, y :: ys => by
  unfold lexB
  rw [← lex_nat xs ys]
  by_cases e : x = y
  ·
   subst e
   rw [if_pos rfl]
   exact decide_eq_decide.mpr (by rw [List.cons_lt_cons_iff]; simp)
  ·
   rw [if_neg e]
   exact decide_eq_decide.mpr (by rw [List.cons_lt_cons_iff]; simp [e])
theorem str_ext {a b : Str} (h : a.cps.toList = b.cps.toList) : a = b := by
 obtain ⟨⟨a⟩⟩ := a
 obtain ⟨⟨b⟩⟩ := b
 simp at h
 rw [h]
theorem str_lin : Lin ltS := by
 have L := lex_lin nat_lin
 have e : ∀ x y : Str, ltS x y = lexB (fun x y : Nat => decide (x < y)) x.cps.toList y.cps.toList := fun x y => lex_nat _ _
 exact ⟨fun a => by rw [e]; exact L.irr _, fun a b c h1 h2 => by rw [e] at h1 h2 ⊢; exact L.tr _ _ _ h1 h2, fun a b h1 h2 => by rw [e] at h1 h2; exact str_ext (L.tot _ _ h1 h2)⟩
def ltK : Key → Key → Bool := sumB (fun a b : Int => decide (a < b)) ltS
def ltN : NK → NK → Bool := sumB ltK (lexB ltK)
def ltL : List NK → List NK → Bool := lexB ltN
theorem ltK_lin : Lin ltK := sum_lin int_lin str_lin
theorem ltL_lin : Lin ltL := lex_lin (sum_lin ltK_lin (lex_lin ltK_lin))
def okK : Key → Key → Bool
 | .inl _, .inl _ => true
 | .inr _, .inr _ => true
 | _, _ => false
def okT : List Key → List Key → Bool
 | x :: xs, y :: ys => if x = y then okT xs ys else okK x y
 | _, _ => true
def okN : NK → NK → Bool
 | .inl a, .inl b => okK a b
 | .inr a, .inr b => okT a b
 | _, _ => false
def okL : List NK → List NK → Bool
 | x :: xs, y :: ys => if x = y then okL xs ys else okN x y
 | _, _ => true
def fl {α : Type} (op : CmpOp) (lt : α → α → Bool) (x y : α) : Bool :=
 match op with
 | .Lt => lt x y
 | _ => lt y x
abbrev Two (op : CmpOp) : Prop := op = .Lt ∨ op = .Gt
theorem fl_lex {α : Type} [DecidableEq α] {op : CmpOp} (hop : Two op) {lt : α → α → Bool} {x y : α} {xs ys : List α} : fl op (lexB lt) (x :: xs) (y :: ys) = if x = y then fl op (lexB lt) xs ys else fl op lt x y := by
 rcases hop with rfl | rfl
 · rfl
 ·
  show lexB lt (y :: ys) (x :: xs) = if x = y then lexB lt ys xs else lt y x
  show (if y = x then lexB lt ys xs else lt y x) = _
  by_cases e : x = y
  · rw [if_pos e, if_pos e.symm]
  · rw [if_neg e, if_neg fun z => e z.symm]
theorem fl_fin {α : Type} [DecidableEq α] {op : CmpOp} (hop : Two op) {lt : α → α → Bool} {xs ys : List α} (h : xs = [] ∨ ys = []) : szB op xs.length ys.length = fl op (lexB lt) xs ys := by
 rcases hop with rfl | rfl <;> rcases h with rfl | rfl
 · cases ys <;> simp [szB, fl, lexB]
 · cases xs <;> simp [szB, fl, lexB]
 · cases ys <;> simp [szB, fl, lexB]
 · cases xs <;> simp [szB, fl, lexB]
section
variable {prog : Program} {w : World} {A : Around} {s : Shared} {op : CmpOp}
theorem CmpAt.tup (hop : Two op) {a b : Addr} {xs ys : Array Value} {r : Bool} (hx : s.heap.IsTuple a xs) (hy : s.heap.IsTuple b ys) (hu : A.units < cLine) (hl : LexAt op A.in1 s xs.toList ys.toList r) : CmpAt op A s (.ref a) (.ref b) r := by
 rcases hop with rfl | rfl
 · exact .ltT hx hy hu hl
 · exact .gtT hx hy hu hl
theorem eq_key {k k' : Key} {u u' : Value} (h : keyIs k u = true) (h' : keyIs k' u' = true) : EqAt A s u u' (decide (k = k')) := fun prog w E Q q => (mixKind prog w).eqBool (a := k) (b := k') h h' q
theorem cmp_key (hop : Two op) {k k' : Key} {u u' : Value} (h : keyIs k u = true) (h' : keyIs k' u' = true) (ok : okK k k' = true) : CmpAt op A s u u' (fl op ltK k k') := by
 intro prog w E Q q
 cases k with
 |
  inl i =>
  obtain ⟨t, rfl⟩ := Value.isInt_shape (k := i) (v := u) h
  cases k' with
  |
   inl j =>
   obtain ⟨t', rfl⟩ := Value.isInt_shape (k := j) (v := u') h'
   rcases hop with rfl | rfl
   · exact PySem.P.lt_int q
   · exact PySem.P.gt_int q
  | inr y => cases ok
 |
  inr x =>
  obtain ⟨t, rfl⟩ := Value.isStrOf_shape (x := x) (v := u) h
  cases k' with
  | inl j => cases ok
  |
   inr y =>
   obtain ⟨t', rfl⟩ := Value.isStrOf_shape (x := y) (v := u') h'
   rcases hop with rfl | rfl
   · exact PySem.P.lt_str q
   · exact PySem.P.gt_str q
theorem lex_keys (hop : Two op) : ∀ {ks ks' : List Key} {us us' : List Value}, ItemsAre (mixKind prog w) ks us → ItemsAre (mixKind prog w) ks' us' → okT ks ks' = true → LexAt op A s us us' (fl op (lexB ltK) ks ks')
 |
  [], ks', _, us', .nil, h', _ => by
  have e : szB op ([] : List Value).length us'.length = fl op (lexB ltK) [] ks' := by rw [← h'.length]; exact fl_fin hop (xs := ([] : List Key)) (.inl rfl)
  rw [← e]
  exact .fin (.inl rfl)
 |
  k :: ks, [], us, _, h, .nil, _ => by
  have e : szB op us.length ([] : List Value).length = fl op (lexB ltK) (k :: ks) [] := by rw [← h.length]; exact fl_fin hop (ys := ([] : List Key)) (.inr rfl)
  rw [← e]
  exact .fin (.inr rfl)
 |
  k :: ks, k' :: ks', _, _, .cons h1 h2, .cons h1' h2', ok => by
  rw [fl_lex hop]
  unfold okT at ok
  have he := eq_key (A := A) (s := s) h1 h1'
  by_cases e : k = k'
  ·
   rw [if_pos e] at ok ⊢
   rw [decide_eq_true e] at he
   exact .eq he (lex_keys hop h2 h2' ok)
  ·
   rw [if_neg e] at ok ⊢
   rw [decide_eq_false e] at he
   exact .ne he (cmp_key hop h1 h1' ok)
theorem itk_tup {ks : List Key} {a : Addr} {h : Heap} (x : IsTupleKey (mixKind prog w) h ks a) : ∃ its, h.IsTuple a its ∧ ItemsAre (mixKind prog w) ks its.toList := let ⟨o, its, n, ho, hc, hd, hi⟩ := x; ⟨its, ⟨o, ho, hc, n, hd⟩, hi⟩
theorem itk_any {prog' : Program} {w' : World} {ks : List Key} {a : Addr} {h : Heap} (x : IsTupleKey (mixKind prog w) h ks a) : IsTupleKey (mixKind prog' w') h ks a := by
 obtain ⟨o, its, n, ho, hc, hd, hi⟩ := x
 refine ⟨o, its, n, ho, hc, hd, ?_⟩
 generalize its.toList = vs at hi
 induction hi with
 | nil => exact .nil
 | cons h1 _ ih => exact .cons h1 ih
theorem NItem.any {prog' : Program} {w' : World} {k : NK} {v : Value} {h : Heap} (x : NItem prog w h k v) : NItem prog' w' h k v := by
 cases k with
 | inl k => exact x
 | inr ks => obtain ⟨a, e, p⟩ := x; exact ⟨a, e, itk_any p⟩
theorem IsNest.any {prog' : Program} {w' : World} {ks : List NK} {a : Addr} {h : Heap} (x : IsNest prog w h ks a) : IsNest prog' w' h ks a := by
 obtain ⟨o, its, n, ho, hc, hd, hi⟩ := x
 refine ⟨o, its, n, ho, hc, hd, ?_⟩
 generalize its.toList = vs at hi
 induction hi with
 | nil => exact .nil
 | cons h1 _ ih => exact .cons h1.any ih
theorem eq_item {k k' : NK} {u u' : Value} (hu : A.units < cLine) (h : NItem prog w s.heap k u) (h' : NItem prog w s.heap k' u') : EqAt A s u u' (decide (k = k')) := fun prog' w' E Q q => item_eq hu h.any h'.any q
theorem cmp_item (hop : Two op) {k k' : NK} {u u' : Value} (hu : A.units < cLine) (h : NItem prog w s.heap k u) (h' : NItem prog w s.heap k' u') (ok : okN k k' = true) : CmpAt op A s u u' (fl op ltN k k') := by
 cases k with
 |
  inl k =>
  cases k' with
  |
   inl k' =>
   have e : fl op ltN (.inl k) (.inl k') = fl op ltK k k' := by rcases hop with rfl | rfl <;> rfl
   rw [e]
   exact cmp_key hop h h' ok
  | inr _ => cases ok
 |
  inr ks =>
  cases k' with
  | inl _ => cases ok
  |
   inr ks' =>
   obtain ⟨a, rfl, p⟩ := h
   obtain ⟨b, rfl, p'⟩ := h'
   obtain ⟨xs, t1, i1⟩ := itk_tup p
   obtain ⟨ys, t2, i2⟩ := itk_tup p'
   have e : fl op ltN (.inr ks) (.inr ks') = fl op (lexB ltK) ks ks' := by rcases hop with rfl | rfl <;> rfl
   rw [e]
   exact .tup hop t1 t2 hu (lex_keys hop i1 i2 ok)
theorem NItems.length {ks : List NK} {us : List Value} {h : Heap} (x : NItems prog w h ks us) : ks.length = us.length := by
 induction x with
 | nil => rfl
 | cons _ _ ih => simp [ih]
theorem lex_items (hop : Two op) (hu : A.units < cLine) : ∀ {ks ks' : List NK} {us us' : List Value}, NItems prog w s.heap ks us → NItems prog w s.heap ks' us' → okL ks ks' = true → LexAt op A s us us' (fl op ltL ks ks')
 |
  [], ks', _, us', .nil, h', _ => by
  have e : szB op ([] : List Value).length us'.length = fl op (lexB ltN) [] ks' := by rw [← h'.length]; exact fl_fin hop (xs := ([] : List NK)) (.inl rfl)
  show LexAt op A s _ _ (fl op (lexB ltN) [] ks')
  rw [← e]
  exact .fin (.inl rfl)
 |
  k :: ks, [], us, _, h, .nil, _ => by
  have e : szB op us.length ([] : List Value).length = fl op (lexB ltN) (k :: ks) [] := by rw [← h.length]; exact fl_fin hop (ys := ([] : List NK)) (.inr rfl)
  show LexAt op A s _ _ (fl op (lexB ltN) (k :: ks) [])
  rw [← e]
  exact .fin (.inr rfl)
 |
  k :: ks, k' :: ks', _, _, .cons h1 h2, .cons h1' h2', ok => by
  show LexAt op A s _ _ (fl op (lexB ltN) (k :: ks) (k' :: ks'))
  rw [fl_lex hop]
  unfold okL at ok
  have he := eq_item hu h1 h1'
  by_cases e : k = k'
  ·
   rw [if_pos e] at ok ⊢
   rw [decide_eq_true e] at he
   exact .eq he (lex_items hop hu h2 h2' ok)
  ·
   rw [if_neg e] at ok ⊢
   rw [decide_eq_false e] at he
   exact .ne he (cmp_item hop hu h1 h1' ok)
theorem eq_nest {ks ks' : List NK} {a b : Addr} (hu : A.units + 1 < cLine) (h : IsNest prog w s.heap ks a) (h' : IsNest prog w s.heap ks' b) : EqAt A s (.ref a) (.ref b) (decide (ks = ks')) := fun prog' w' E Q q => eqBool_nest hu h.any h'.any q
theorem cmp_nest (hop : Two op) {ks ks' : List NK} {a b : Addr} (hu : A.units + 1 < cLine) (h : IsNest prog w s.heap ks a) (h' : IsNest prog w s.heap ks' b) (ok : okL ks ks' = true) : CmpAt op A s (.ref a) (.ref b) (fl op ltL ks ks') := by
 obtain ⟨xs, t1, i1⟩ := h.isTuple
 obtain ⟨ys, t2, i2⟩ := h'.isTuple
 exact .tup hop t1 t2 (by omega) (lex_items hop hu i1 i2 ok)
end
end L2
namespace L2
open PySem PySem.Spec PyProof.Rows PySem.SeqAt
theorem fn_tree_kw {prog : Program} {w : World} {A : Around} {E : Value → Shared → Prop} {s : Shared} {id : String} {b : Builtin} {args : List Value} {kw : List (Str × Value)} {Q : Value → Shared → Prop} (hk : builtinKind id = none) (hp : plainId id = true)
  (hb : entryFor table id = some b) (ha : argsOk id ⟨args, kw⟩)
  (hc : wpAny (model prog w) A.in1 (b ⟨args, kw⟩) (fun fin s' => match fin with
   | .done f => (match (Except.ok f : Result) with | .ok (.ret v) => Q v s' | .ok _ => False | .error e => E e s')
   | .again c' => c'.quiet = true ∧ codeAny (model prog w) A c' (fun r s' => match r with | .ok (.ret v) => Q v s' | .ok _ => False | .error e => E e s') s') E s) :
  wpAny (model prog w) A (call (.builtin id) args kw) Q E s := by
 refine wpAny_call (codeAny_call_builtin hp hb ?_)
 simp only [checkBuiltinCall, hk]
 cases hsig : Manifest.signature? id with
 | none => exact wpAny_pure hc
 |
  some sig =>
  simp only [argsOk, hsig] at ha
  have h2 : Bind.checkArgs id sig ⟨args, kw⟩ = pure () := ha
  show wpAny _ A.in1 (Bind.checkArgs id sig ⟨args, kw⟩) _ _ s
  rw [h2]; exact wpAny_pure hc
theorem args_max_key (a v : Value) : argsOk "max" ⟨[a], [(Str.ofString "key", v)]⟩ := by unfold argsOk; kernel_rfl
section
variable {X : Cx} {pins : List (Addr × Obj)} {σ : St} {H : Hp} {key : Value} {G : V → Hp → V → Prop} {gt : V → V → Bool}
theorem max_tail2 (hc : X.calm = true) {p : Addr} {x : V} {ys : List V} (hl : H p = some (.lst (x :: ys))) (hK : MaxKey X H (x :: ys) G key) (hG : ∀ x H1 H2 v, Same H1 H2 → G x H1 v → G x H2 v) (hcmp : MaxCmp X H (x :: ys) G gt) {s : Shared} (I : Inv X pins σ H s) {R : Result → Shared → Prop}
  (q : ∀ u s' H'', Inv X pins σ H'' s' → Same H H'' → RelV (maxBy gt x ys) u → R (.ok (.ret u)) s') : wpAny (model X.prog X.w) X.A.in1 (pyIter (.ref p) >>= fun it => newList [] >>= fun S => again (.builtin (toString "max" ++ toString ".loop") ⟨[it, key, S], []⟩))
   (fun fin s' => match fin with | .done f => R (.ok f) s' | .again c' => c'.quiet = true ∧ codeAny (model X.prog X.w) X.A c' R s') (fun e s' => R (.error e) s') s := by
 have hname : (toString "max" ++ toString ".loop" : String) = "max.loop" := by decide
 obtain ⟨its, rvs, pl, hz⟩ := I.list (SqL.of (K := X.K) hl)
 refine wpAny_bind (wpAny_pyIter_list pl.isList (wpAny_bind (wpAny_newList ?_ (Nat.zero_le _))))
 rw [hname]
 have I1 : Inv X pins σ H { s with heap := (s.heap.push { cls := .type "list_iterator", data := .fields #[.ref p, .int 0 0] }).push { cls := .type "list", data := .seq #[] } } :=
  I.kept (t' := s.toks) fun b u e => Heap.get?_push_of_some _ (Heap.get?_push_of_some _ e)
 have hs1 : (s.heap.push { cls := .type "list_iterator", data := .fields #[.ref p, .int 0 0] }).objs.size = s.heap.objs.size + 1 := Heap.size_push ..
 have n0 : H s.heap.objs.size = none := I.hok.fresh (Nat.le_refl _)
 have n1 : H (s.heap.objs.size + 1) = none := I.hok.fresh (Nat.le_succ _)
 refine wpAny_pure ⟨plainId_quiet F.plain_max_loop _, ?_⟩
 have hg0 : ((s.heap.push { cls := .type "list_iterator", data := .fields #[.ref p, .int 0 0] }).push { cls := .type "list", data := .seq #[] }).get? s.heap.objs.size = some { cls := .type "list_iterator", data := .fields #[.ref p, .int 0 0] } :=
  Heap.get?_push_of_some _ (Heap.get?_push_size _ rfl)
 exact max_firstK (next_list hc hl) hK hG (by rw [hs1]; exact Nat.ne_of_lt (Nat.lt_succ_self _)) hcmp I1 (Same.refl _) (I.fpOk (Nat.le_refl _) n0) (I.fpOk (by rw [hs1]; exact Nat.le_succ _) (by rw [hs1]; exact n1)) ⟨_, hg0, rfl, rfl⟩ (Heap.get?_push_size _ rfl) q
theorem max_listN (hc : X.calm = true) {p : Addr} {x : V} {ys : List V} (hl : H p = some (.lst (x :: ys))) (hcmp : MaxCmp X H (x :: ys) (fun x _ v => v = x) gt) {s : Shared} (I : Inv X pins σ H s) {Q : VK} (q : ∀ H', Same H H' → Q (maxBy gt x ys) H') :
  wpAny (model X.prog X.w) X.A (call (.builtin "max") [.ref p]) (EP X pins σ Q) X.xe s := by
 refine call_function_tree F.kind_max F.plain_max F.entry_max (F.args_max1 _) ?_
 show wpAny _ X.A.in1 (Builtin.Builtins.bindParams "max" ["key", "default"] 0 ⟨[], []⟩ >>= _) _ _ s
 refine wpAny_bind (wpAny_of_eq (show Builtin.Builtins.bindParams "max" ["key", "default"] 0 ⟨[], []⟩ = pure [none, none] from rfl) ?_)
 refine wpAny_bind (wpAny_pure ?_)
 exact max_tail2 (G := fun x _ v => v = x) hc hl (.inl ⟨rfl, fun _ _ => rfl⟩) (fun x H1 H2 v _ e => e) hcmp I (R := fun r s' => match r with | .ok (.ret v) => EP X pins σ Q v s' | .ok _ => False | .error e => X.xe e s') fun u s' H'' I2 sm r => ⟨_, H'', I2, r, q H'' sm⟩
theorem max_listK (hc : X.calm = true) {p f : Addr} {x : V} {ys : List V} (hl : H p = some (.lst (x :: ys))) (hK : MaxKey X H (x :: ys) G (.ref f)) (hG : ∀ x H1 H2 v, Same H1 H2 → G x H1 v → G x H2 v) (hcmp : MaxCmp X H (x :: ys) G gt) {s : Shared} (I : Inv X pins σ H s) {Q : VK} (q : ∀ H', Same H H' → Q (maxBy gt x ys) H') :
  wpAny (model X.prog X.w) X.A (call (.builtin "max") [.ref p] [(Str.ofString "key", .ref f)]) (EP X pins σ Q) X.xe s := by
 refine fn_tree_kw F.kind_max F.plain_max F.entry_max (args_max_key _ _) ?_
 show wpAny _ X.A.in1 (Builtin.Builtins.bindParams "max" ["key", "default"] 0 ⟨[], [(Str.ofString "key", .ref f)]⟩ >>= _) _ _ s
 refine wpAny_bind (wpAny_of_eq (show Builtin.Builtins.bindParams "max" ["key", "default"] 0 ⟨[], [(Str.ofString "key", .ref f)]⟩ = pure [some (.ref f), none] from by kernel_rfl) ?_)
 refine wpAny_bind (wpAny_pure ?_)
 exact max_tail2 hc hl hK hG hcmp I (R := fun r s' => match r with | .ok (.ret v) => EP X pins σ Q v s' | .ok _ => False | .error e => X.xe e s') fun u s' H'' I2 sm r => ⟨_, H'', I2, r, q H'' sm⟩
theorem max_twoN (hc : X.calm = true) {x y : V} {a b : Value} (ra : RelV x a) (rb : RelV y b) (hcmp : ∀ H', Same H H' → MaxCmp X H' [x, y] (fun x _ v => v = x) gt) {s : Shared} (I : Inv X pins σ H s) {Q : VK} (q : ∀ H', Same H H' → Q (if gt y x then y else x) H') :
  wpAny (model X.prog X.w) X.A (call (.builtin "max") [a, b]) (EP X pins σ Q) X.xe s := by
 have hname : (toString "max" ++ toString ".loop" : String) = "max.loop" := by decide
 refine call_function_tree F.kind_max F.plain_max F.entry_max (F.args_max2 _ _) ?_
 show wpAny _ X.A.in1 (Builtin.Builtins.bindParams "max" ["key", "default"] 0 ⟨[], []⟩ >>= _) _ _ s
 refine wpAny_bind (wpAny_of_eq (show Builtin.Builtins.bindParams "max" ["key", "default"] 0 ⟨[], []⟩ = pure [none, none] from rfl) ?_)
 show wpAny _ X.A.in1 (newTuple [a, b] >>= _) _ _ s
 refine wpAny_bind (wpAny_newTuple ?_ (by rw [sizeLine_eq]; show 2 ≤ _; omega))
 have n0 : H s.heap.objs.size = none := I.hok.fresh (Nat.le_refl _)
 have I1 : Inv X pins σ (upd H s.heap.objs.size (.tup [x, y])) { s with heap := s.heap.push { cls := .type "tuple", data := .seq #[a, b] } } :=
  I.laid (t' := s.toks) (fun b u e => Heap.get?_push_of_some _ e) (Nat.le_refl _) ⟨by rw [sizeLine_eq]; show 2 ≤ _; omega, [a, b], .cons ra (.cons rb .nil), IsTup.new _ _⟩
 have sm1 : Same H (upd H s.heap.objs.size (.tup [x, y])) := same_upd n0
 have hl : upd H s.heap.objs.size (.tup [x, y]) s.heap.objs.size = some (.tup [x, y]) := upd_same
 obtain ⟨its, rvs, pl, hz⟩ := I1.tuple (SqT.of (K := X.K) hl)
 refine wpAny_bind (wpAny_pyIter_tuple pl (wpAny_bind (wpAny_newList ?_ (Nat.zero_le _))))
 rw [hname]
 have hs0 : (s.heap.push { cls := .type "tuple", data := .seq #[a, b] }).objs.size = s.heap.objs.size + 1 := Heap.size_push ..
 have hs1 : ((s.heap.push { cls := .type "tuple", data := .seq #[a, b] }).push { cls := .type "tuple_iterator", data := .fields #[.ref s.heap.objs.size, .int 0 0] }).objs.size = s.heap.objs.size + 2 := by rw [Heap.size_push, hs0]
 have I2 : Inv X pins σ (upd H s.heap.objs.size (.tup [x, y])) { s with heap := ((s.heap.push { cls := .type "tuple", data := .seq #[a, b] }).push { cls := .type "tuple_iterator", data := .fields #[.ref s.heap.objs.size, .int 0 0] }).push { cls := .type "list", data := .seq #[] } } :=
  I1.kept (t' := s.toks) fun b u e => Heap.get?_push_of_some _ (Heap.get?_push_of_some _ e)
 have m1 : upd H s.heap.objs.size (.tup [x, y]) (s.heap.objs.size + 1) = none := I1.hok.fresh (by show (s.heap.push _).objs.size ≤ _; rw [hs0]; exact Nat.le_refl _)
 have m2 : upd H s.heap.objs.size (.tup [x, y]) (s.heap.objs.size + 2) = none := I1.hok.fresh (by show (s.heap.push _).objs.size ≤ _; rw [hs0]; exact Nat.le_succ _)
 refine wpAny_pure ⟨plainId_quiet F.plain_max_loop _, ?_⟩
 have hg0 : (((s.heap.push { cls := .type "tuple", data := .seq #[a, b] }).push { cls := .type "tuple_iterator", data := .fields #[.ref s.heap.objs.size, .int 0 0] }).push { cls := .type "list", data := .seq #[] }).get? (s.heap.objs.size + 1) = some { cls := .type "tuple_iterator", data := .fields #[.ref s.heap.objs.size, .int 0 0] } :=
  Heap.get?_push_of_some _ (by rw [← hs0]; exact Heap.get?_push_size _ rfl)
 have hg1 : (((s.heap.push { cls := .type "tuple", data := .seq #[a, b] }).push { cls := .type "tuple_iterator", data := .fields #[.ref s.heap.objs.size, .int 0 0] }).push { cls := .type "list", data := .seq #[] }).get? (s.heap.objs.size + 2) = some { cls := .type "list", data := .seq #[] } := by
  rw [← hs1]; exact Heap.get?_push_size _ rfl
 suffices e : codeAny (model X.prog X.w) X.A (.builtin "max.loop" ⟨[.ref (s.heap.objs.size + 1), .none, .ref (s.heap.objs.size + 2)], []⟩) (fun r s' => match r with | .ok (.ret v) => EP X pins σ Q v s' | .ok _ => False | .error e => X.xe e s')
   { s with heap := ((s.heap.push { cls := .type "tuple", data := .seq #[a, b] }).push { cls := .type "tuple_iterator", data := .fields #[.ref s.heap.objs.size, .int 0 0] }).push { cls := .type "list", data := .seq #[] } } by
  rw [← hs0, ← hs1] at e
  exact e
 refine max_firstK (G := fun x _ v => v = x) (it := s.heap.objs.size + 1) (S := s.heap.objs.size + 2) (x := x) (ys := [y]) (next_tup hc hl) (.inl ⟨rfl, fun _ _ => rfl⟩) (fun x H1 H2 v _ e => e) (Nat.ne_of_lt (Nat.lt_succ_self _)) (hcmp _ sm1) I2 (Same.refl _) (I1.fpOk (by show (s.heap.push _).objs.size ≤ _; rw [hs0]; exact Nat.le_refl _) m1)
  (I1.fpOk (by show (s.heap.push _).objs.size ≤ _; rw [hs0]; exact Nat.le_succ _) m2) ⟨_, hg0, rfl, rfl⟩ hg1 fun u s' H'' I3 sm r => ⟨_, H'', I3, r, q H'' (sm1.trans sm)⟩
end
end L2
namespace L2
open PySem PySem.Spec PyProof.Rows PySem.SeqAt
def NkV (H : Hp) : NK → V → Prop
 | .inl k, v => v = kV k
 | .inr ks, v => ∃ q, v = .ref q ∧ H q = some (.tup (ks.map kV))
inductive NkVs (H : Hp) : List NK → List V → Prop
 | nil : NkVs H [] []
 | cons {k : NK} {v : V} {ks : List NK} {vs : List V} : NkV H k v → NkVs H ks vs → NkVs H (k :: ks) (v :: vs)
def NkAt (H : Hp) (ks : List NK) (p : Addr) : Prop := ∃ vs, H p = some (.tup vs) ∧ NkVs H ks vs
theorem NkV.up {H H' : Hp} {k : NK} {v : V} (h : NkV H k v) (ht : ∀ b xs, H b = some (.tup xs) → H' b = some (.tup xs)) : NkV H' k v := by
 cases k with
 | inl k => exact h
 | inr ks => obtain ⟨q, e, h⟩ := h; exact ⟨q, e, ht _ _ h⟩
theorem NkVs.up {H H' : Hp} {ks : List NK} {vs : List V} (h : NkVs H ks vs) (ht : ∀ b xs, H b = some (.tup xs) → H' b = some (.tup xs)) : NkVs H' ks vs := by
 induction h with
 | nil => exact .nil
 | cons h1 _ ih => exact .cons (h1.up ht) ih
theorem NkAt.upT {H H' : Hp} {ks : List NK} {p : Addr} (h : NkAt H ks p) (ht : ∀ b xs, H b = some (.tup xs) → H' b = some (.tup xs)) : NkAt H' ks p := let ⟨vs, h1, h2⟩ := h; ⟨vs, ht _ _ h1, h2.up ht⟩
theorem NkAt.up {H H' : Hp} {ks : List NK} {p : Addr} (h : NkAt H ks p) (s : Same H H') : NkAt H' ks p := h.upT fun b xs e => s b _ e
theorem NkAt.upd {H : Hp} {ks : List NK} {p a : Addr} {o : HO} (h : NkAt H ks p) (na : ∀ xs, H a ≠ some (.tup xs)) : NkAt (upd H a o) ks p := h.upT fun b xs e => by
 rw [upd_ne (fun z => na xs (by rw [← z]; exact e))]
 exact e
section
variable {X : Cx} {pins : List (Addr × Obj)} {σ : St} {H : Hp} {s : Shared}
theorem nk_items {P : Program} {w : World} {h : Heap} (ok : HOk P w H h) {ks : List NK} {vs : List V} (r : NkVs H ks vs) : ∀ {us : List Value}, Vals vs us → NItems P w h ks us := by
 induction r with
 | nil => intro us v; cases v; exact .nil
 |
  @cons k v ks vs h1 _ ih =>
  intro us v
  cases v with
  |
   cons v1 v2 =>
   refine .cons ?_ (ih v2)
   cases k with
   | inl k => cases (show _ = kV k from h1); exact kV_is v1
   |
    inr ks =>
    obtain ⟨q, rfl, hq⟩ := h1
    cases v1
    exact ⟨q, rfl, key_of ok hq⟩
theorem nest_ok {P : Program} {w : World} {h : Heap} (ok : HOk P w H h) {ks : List NK} {p : Addr} (x : NkAt H ks p) : IsNest P w h ks p := by
 obtain ⟨vs, hp, r⟩ := x
 obtain ⟨_, its, rv, o, h1, h2, n, h3⟩ := (show ObjOk P w H h p (.tup vs) from ok p _ hp)
 exact ⟨o, its.toArray, n, h1, h2, h3, by simpa using nk_items ok r rv⟩
theorem NkAt.inj {P : Program} {w : World} {h : Heap} (ok : HOk P w H h) {ks ks' : List NK} {p : Addr} (x : NkAt H ks p) (y : NkAt H ks' p) : ks = ks' := (nest_ok ok x).inj (nest_ok ok y)
end
abbrev keysOf (xs : List (List NK × Addr)) : List (List NK) := xs.map (·.1)
def hasK (xs : List (List NK × Addr)) (ks : List NK) : Bool := xs.any fun x => decide (x.1 = ks)
def nkObj (P : Program) (w : World) (a : Addr) (xs : List (List NK × Addr)) : HO := .ext fun h => ∃ o es ep, h.get? a = some o ∧ o.ExactDict ∧ o.data = .dict es ep ∧ es.toList = (xs.map fun x => entryOfKey (nestKind P w) (x.1, x.2, .bool true)) ∧ (xs.map (·.1)).Nodup ∧ (a == sysModules) = false
structure KeptAt (P : Program) (w : World) (H : Hp) (a : Addr) (xs : List (List NK × Addr)) : Prop where
 at_ : H a = some (nkObj P w a xs) ∨ (xs = [] ∧ H a = some (.dK []))
 ok : ∀ x ∈ xs, NkAt H x.1 x.2
 few : xs.length ≤ 1000
theorem KeptAt.notup {P : Program} {w : World} {H : Hp} {a : Addr} {xs : List (List NK × Addr)} (h : KeptAt P w H a xs) (ys : List V) : H a ≠ some (.tup ys) := by
 rcases h.at_ with e | ⟨_, e⟩ <;> rw [e] <;> exact fun z => nomatch z
theorem KeptAt.up {P : Program} {w : World} {H H' : Hp} {a : Addr} {xs : List (List NK × Addr)} (h : KeptAt P w H a xs) (s : Same H H') : KeptAt P w H' a xs :=
 ⟨h.at_.elim (fun e => .inl (s _ _ e)) fun ⟨e1, e2⟩ => .inr ⟨e1, s _ _ e2⟩, fun x hx => (h.ok x hx).up s, h.few⟩
section
variable {P : Program} {w : World} {H : Hp} {h : Heap} {a : Addr} {xs : List (List NK × Addr)}
def trues (xs : List (List NK × Addr)) : List (List NK × Addr × Value) := xs.map fun x => (x.1, x.2, .bool true)
theorem kept_dict (ok : HOk P w H h) (k : KeptAt P w H a xs) : (a == sysModules) = false ∧ h.DictOfH (nestKind P w) a (trues xs) := by
 rcases k.at_ with e | ⟨rfl, e⟩
 ·
  obtain ⟨⟨o, es, ep, h1, h2, h3, h4, h5, h6⟩, _⟩ := (show ObjOk P w H h a (nkObj P w a xs) from ok a _ e)
  refine ⟨h6, o, es, ep, h1, h2, h3, by rw [h4]; unfold trues; rw [List.map_map]; rfl, fun x hx => ?_, by unfold trues; rw [List.map_map]; exact h5⟩
  obtain ⟨y, hy, rfl⟩ := List.mem_map.mp hx
  exact nest_ok ok (k.ok y hy)
 ·
  obtain ⟨_, hs, vs, rel, o, es, ep, h1, h2, h3, _, h4, _⟩ := dk_of ok e
  cases rel
  have he : es.toList = [] := List.length_eq_zero_iff.mp h4.length
  exact ⟨hs, o, es, ep, h1, h2, h3, he, (fun x hx => by cases hx), List.nodup_nil⟩
theorem atKey_trues (ks : List NK) : ∀ xs : List (List NK × Addr), (atKey (trues xs) ks).isSome = hasK xs ks
 | [] => rfl
 |
  x :: xs => by
  have ih := atKey_trues ks xs
  unfold trues atKey hasK at ih ⊢
  rw [List.map_cons, List.find?_cons, List.any_cons]
  by_cases e : x.1 = ks
  · simp [e]
  ·
   simp only [e, decide_false, Bool.false_or]
   exact ih
end
section
variable {X : Cx}
theorem op_inKept (hu : X.A.units + 2 < cLine) : OpR X (compareOp .In) (fun x y H Q => ∃ (p a : Addr) (ks : List NK) (xs : List (List NK × Addr)), x = .ref p ∧ y = .ref a ∧ NkAt H ks p ∧ KeptAt X.prog X.w H a xs ∧ Q (.bl (hasK xs ks)) H) := by
 intro pins s σ H x y v u Q I rx ry h
 obtain ⟨p, a, ks, xs, rfl, rfl, hp, hk, q⟩ := h
 cases rx
 cases ry
 obtain ⟨hs, dd⟩ := kept_dict I.hok hk
 refine wpAny_in_heap (knd := nestKind X.prog X.w) hu (nest_ok I.hok hp) hs dd ?_
 rw [atKey_trues]
 exact ⟨.bl _, H, I.tok _, rfl, q⟩
theorem kept_put {A : Around} {E : Value → Shared → Prop} {pins : List (Addr × Obj)} {σ : St} {H : Hp} {s : Shared} {p a : Addr} {ks : List NK} {xs : List (List NK × Addr)} {Q : Unit → Shared → Prop} (hu : A.units + 2 < cLine) (I : Inv X pins σ H s) (hp : NkAt H ks p) (hk : KeptAt X.prog X.w H a xs) (hn : hasK xs ks = false) (hl : xs.length < 1000)
  (h : ∀ s', Inv X pins σ (upd H a (nkObj X.prog X.w a (xs ++ [(ks, p)]))) s' → Q () s') : wpAny (model X.prog X.w) A (setItem (.ref a) (.ref p) (.bool true)) Q E s := by
 obtain ⟨hs, dd⟩ := kept_dict I.hok hk
 have hz : (trues xs).length ≤ sizeLine := by unfold trues; rw [List.length_map, sizeLine_eq]; omega
 refine wpAny_setItem_heap (knd := nestKind X.prog X.w) (hsz := hz) hu (nest_ok I.hok hp) dd fun h' dd' hb => h _ ?_
 obtain ⟨q, es, ep, hq, h2, h3, h4, _, h5⟩ := dd'
 have hno : atKey (trues xs) ks = none := by
  cases e : atKey (trues xs) ks with
  | none => rfl
  |
   some z =>
   have := atKey_trues ks xs
   rw [e] at this
   rw [hn] at this; cases this
 rw [storedH_new hno] at h4 h5
 have mu : Mut (H a) := by rcases hk.at_ with e | ⟨_, e⟩ <;> rw [e] <;> exact True.intro
 refine d_write I mu hb ⟨q, hq⟩ ⟨⟨q, es, ep, hq, h2, h3, ?_, ?_, hs⟩, ⟨q, hq⟩, ?_⟩
 · rw [h4]; unfold trues; rw [List.map_append, List.map_append, List.map_map]; rfl
 · rw [show (trues xs ++ [(ks, p, Value.bool true)]).map (·.1) = (xs ++ [(ks, p)]).map (·.1) from by unfold trues; rw [List.map_append, List.map_append, List.map_map]; rfl] at h5; exact h5
 ·
  rintro h1 h2 ⟨o, es, ep, e1, e2⟩ kp
  exact ⟨o, es, ep, kp _ e1, e2⟩
theorem KeptAt.put {P : Program} {w : World} {H : Hp} {p a : Addr} {ks : List NK} {xs : List (List NK × Addr)} (hk : KeptAt P w H a xs) (hp : NkAt H ks p) (hl : xs.length < 1000) : KeptAt P w (upd H a (nkObj P w a (xs ++ [(ks, p)]))) a (xs ++ [(ks, p)]) :=
 ⟨.inl upd_same, fun x hx => by
  rcases List.mem_append.mp hx with hx | hx
  · exact (hk.ok x hx).upd hk.notup
  · rw [List.mem_singleton] at hx; subst hx; exact hp.upd hk.notup, by rw [List.length_append]; show _ + 1 ≤ _; omega⟩
end
end L2
namespace L2
open PySem PySem.W PyProof.Rows
def RawD (h : Heap) (d : Addr) (es : Array DictEntry) (ep : Nat) : Prop := ∃ o, h.get? d = some o ∧ o.ExactDict ∧ o.data = .dict es ep
section
variable {prog : Program} {w : World} {A : Around} {E : Value → Shared → Prop} {s : Shared} {d it : Addr} {es : Array DictEntry} {ep i : Nat}
theorem RawD.typeIs (h : RawD s.heap d es ep) : s.TypeIs (.ref d) "dict" := let ⟨o, ho, hc, _⟩ := h; ⟨o, ho, hc.1⟩
theorem RawD.keep {h h' : Heap} (x : RawD h d es ep) (k : ∀ o, h.get? d = some o → h'.get? d = some o) : RawD h' d es ep := let ⟨o, ho, r⟩ := x; ⟨o, k o ho, r⟩
end
end L2
namespace L2
open PySem PySem.W PyProof.Rows PySem.SeqAt DX
def nkO : KeyOrd where
 α := List NK
 blt := ltL
 irrefl := ltL_lin.irr
 trans := ltL_lin.tr
 negTrans := fun a b c h => ltL_lin.neg h
 total := ltL_lin.tot
section
variable {prog : Program} {w : World} {A : Around} {s : Shared}
theorem kat_items {C : Bool → Shared → Prop} {fin : Bool} (hu : A.units < cLine) : ∀ {ks ks' : List NK} {us us' : List Value} (i : Nat), NItems prog w s.heap ks us → NItems prog w s.heap ks' us' → okL ks ks' = true → fin = decide (ks.length < ks'.length) →
  (i = 0 → ∃ t r t' r', ks = .inl (.inr t) :: r ∧ ks' = .inl (.inr t') :: r') → C (ltL ks ks') s → KatLex prog w A true fin C (us.zip us') i s
 |
  [], ks', _, us', i, .nil, h', _, hf, _, hC => by
  have e : ltL [] ks' = fin := by rw [hf]; exact (fl_fin (op := .Lt) (.inl rfl) (lt := ltN) (xs := []) (.inl rfl)).symm
  rw [e] at hC
  exact kat_nil hC
 |
  k :: ks, [], us, _, i, h, .nil, _, hf, _, hC => by
  have e : ltL (k :: ks) [] = fin := by rw [hf]; exact (fl_fin (op := .Lt) (.inl rfl) (lt := ltN) (ys := []) (.inr rfl)).symm
  rw [e] at hC
  rw [List.zip_nil_right]
  exact kat_nil hC
 |
  k :: ks, k' :: ks', _, _, i, .cons (v := u) (vs := us) h1 h2, .cons (v := u') (vs := us') h1' h2', ok, hf, h0, hC => by
  have e : ltL (k :: ks) (k' :: ks') = if k = k' then ltL ks ks' else ltN k k' := rfl
  rw [e] at hC
  unfold okL at ok
  rw [List.zip_cons_cons]
  refine kat_cons (item_eq hu h1 h1' ?_)
  by_cases ek : k = k'
  ·
   rw [if_pos ek] at ok hC
   rw [decide_eq_true ek]
   exact kat_yes (kat_items hu (i + 1) h2 h2' ok (by rw [hf]; exact decide_eq_decide.mpr (by simp only [List.length_cons]; omega)) (fun z => absurd z (Nat.succ_ne_zero _)) hC)
  ·
   rw [if_neg ek] at ok hC
   rw [decide_eq_false ek]
   refine kat_no ?_
   by_cases hi : i = 0
   ·
    subst hi
    obtain ⟨t, r, t', r', e1, e2⟩ := h0 rfl
    injection e1 with e1 _
    injection e2 with e2 _
    subst e1 e2
    obtain ⟨tk, rfl⟩ := Value.isStrOf_shape (x := t) (v := u) h1
    obtain ⟨tk', rfl⟩ := Value.isStrOf_shape (x := t') (v := u') h1'
    exact oneLt_str hC
   ·
    have ei : (true && i == 0) = false := by rw [Bool.true_and]; exact beq_eq_false_iff_ne.mpr hi
    rw [ei]
    exact kat_one _ _ (cmp_item (op := .Lt) (.inl rfl) hu h1 h1' ok prog w _ _ hC)
abbrev StrFst (ks : List NK) : Prop := ∃ t r, ks = .inl (.inr t) :: r
theorem nest_kat {h : Heap} : ∀ {ms : List (List NK × Addr)}, (∀ x ∈ ms, IsNest prog w h x.1 x.2 ∧ StrFst x.1) → ∃ fs, KatTups h (ms.map fun x => Value.ref x.2) fs ∧ fs.length = ms.length ∧ ∀ v ∈ fs, ∃ (t : Str) (k : Tok), v = .str t k
 | [], _ => ⟨[], trivial, rfl, fun _ z => nomatch z⟩
 |
  x :: ms, H => by
  obtain ⟨fs, k, e, hv⟩ := nest_kat (ms := ms) fun y hy => H y (List.mem_cons_of_mem _ hy)
  obtain ⟨⟨o, its, n, ho, hc, hd, hi⟩, t, r, ex⟩ := H x (List.mem_cons_self ..)
  rw [ex] at hi
  generalize hl : its.toList = l at hi
  cases hi with
  |
   cons h1 h2 =>
   obtain ⟨tk, rfl⟩ := Value.isStrOf_shape (x := t) h1
   refine ⟨.str t tk :: fs, KatTups.cons ho hc hd (by rw [← Array.getElem?_toList, hl]; rfl) k, by rw [List.length_cons, List.length_cons, e], fun v hm => ?_⟩
   rcases List.mem_cons.mp hm with rfl | hm
   · exact ⟨_, _, rfl⟩
   · exact hv v hm
open Classical in
noncomputable def nkOf (prog : Program) (w : World) (h : Heap) : Value → List NK
 | .ref a => if x : ∃ ks, IsNest prog w h ks a then x.choose else []
 | _ => []
open Classical in
theorem nkOf_at {h : Heap} {ks : List NK} {a : Addr} (x : IsNest prog w h ks a) : nkOf prog w h (.ref a) = ks := by
 unfold nkOf
 have y : ∃ ks, IsNest prog w h ks a := ⟨ks, x⟩
 show (if x : ∃ ks, IsNest prog w h ks a then x.choose else []) = ks
 rw [dif_pos y]
 exact y.choose_spec.inj x
theorem IsNest.kept {h h' : Heap} {ks : List NK} {a : Addr} (x : IsNest prog w h ks a) (kp : ∀ b o, h.get? b = some o → h'.get? b = some o) : IsNest prog w h' ks a := by
 obtain ⟨o, its, n, ho, hc, hd, hi⟩ := x
 refine ⟨o, its, n, kp _ _ ho, hc, hd, ?_⟩
 generalize its.toList = vs at hi
 induction hi with
 | nil => exact .nil
 |
  @cons k v ks vs h1 _ ih =>
  refine .cons ?_ ih
  cases k with
  | inl k => exact h1
  | inr ks => obtain ⟨b, e, o, its, n, ho, r⟩ := h1; exact ⟨b, e, o, its, n, kp _ _ ho, r⟩
theorem nest_sorts {h₀ : Heap} {ms : List (List NK × Addr)} (hu : A.units < cLine) (h1 : 1 ≤ ms.length) (kp : ∀ b o, h₀.get? b = some o → s.heap.get? b = some o) (H : ∀ x ∈ ms, IsNest prog w h₀ x.1 x.2 ∧ StrFst x.1) (ok : ∀ x ∈ ms, ∀ y ∈ ms, okL x.1 y.1 = true) :
  SortsV prog w A s (tuples' true) (O := nkO) (nkOf prog w h₀) (ms.map fun x => Value.ref x.2) where
 kind := fun E Q hq => by
  obtain ⟨fs, k, e, hv⟩ := nest_kat (h := s.heap) (ms := ms) fun x hx => ⟨(H x hx).1.kept kp, (H x hx).2⟩
  refine kat_kind (T := .type "str") k (by omega) (fun v hm => ?_) rfl hq
  obtain ⟨i, t, rfl⟩ := hv v hm
  exact W.Looks.now
 cmp := fun u hu' v hv C hC => by
  obtain ⟨x, hx, rfl⟩ := List.mem_map.mp hu'
  obtain ⟨y, hy, rfl⟩ := List.mem_map.mp hv
  have ax := H x hx
  have ay := H y hy
  have hC' : C (ltL (nkOf prog w h₀ (.ref x.2)) (nkOf prog w h₀ (.ref y.2))) s := hC
  rw [nkOf_at ax.1, nkOf_at ay.1] at hC'
  obtain ⟨o, its, n, ho, hc, hd, hi⟩ := ax.1.kept kp
  obtain ⟨o', its', n', ho', hc', hd', hi'⟩ := ay.1.kept kp
  refine kat_lt ho hd ho' hd' (kat_items hu 0 hi hi' (ok x hx y hy) ?_ (fun _ => ?_) hC')
  · rw [hi.length, hi'.length, Array.length_toList, Array.length_toList]
  ·
   obtain ⟨t, r, e⟩ := ax.2
   obtain ⟨t', r', e'⟩ := ay.2
   exact ⟨t, r, t', r', e, e'⟩
end
section
variable {X : Cx}
end
end L2
namespace L2
open PySem PySem.Spec PySem.Calls PyProof.Rows
section
variable {X : Cx} {m : Str} {apos pos : Pos} {o : Expr} {ta : TE}
def tMeth0 (m : Str) (D : Addr → (V → List V → Hp → VK → Prop) → Prop) (ta : TE) : TE := fun σ H Q => ta σ H fun x H1 => ∃ a C dx fs R, x = .ref a ∧ H1 a = some (.ins C dx fs) ∧ fs.lookup m = none ∧ D C R ∧ R x [] H1 Q
theorem pe_methV0 {pl : Sem Bool} {D : Addr → (V → List V → Hp → VK → Prop) → Prop} (he : PE X o ta) (hD : ∀ C R, D C R → Ans X m 0 C R)
  (ht : eval (.Call (.Attribute o m apos) [] [] pos) X.env = (do
   let ov ← eval o X.env
   standAt apos.atName
   let (f, first) ← holding [ov] (getMethod ov m pl)
   callWith pos f first (backTo pos (starEach [] X.env)) (backToKw pos (keywordEach [] X.env))) := by rfl) :
  PE X (.Call (.Attribute o m apos) [] [] pos) (tMeth0 m D ta) := by
 intro pins s σ H Q I h
 refine W.methodCall_KW (pl := pl) (thn (he pins s σ H _ I h) fun u s1 ⟨x, H1, I1, rx, a, C, dx, fs, R, ex, ea, l, d, q⟩ => ?_) ht
 subst ex
 obtain rfl : u = Value.ref a := rx
 obtain ⟨c, f, fd, ps, ds, dvs, CX, cm, k, sp, E, hm, F, hr, hb, hd, hx, hR⟩ := hD C R d
 refine getmeth_ok I1 ea c hm l ?_
 refine W.callWith_K0 (first := [.ref a]) (Inv.kIn (I1.tok _)) hm.kp ?_
 exact run_fn (us := [.ref a]) (vs := [.ref a]) F hr hb hd hx (I1.tok _) (.cons rfl .nil) (hR _ _ _ _ rfl q)
end
end L2
namespace L2
open PySem PySem.Spec PySem.Calls PyProof.Rows
def asV (o : Option (Option V)) (k : V → Prop) : Prop := match o with | some (some v) => k v | _ => False
def asI (x : V) (k : Int → Prop) : Prop := match x with | .int i => k i | _ => False
def asB (x : V) (k : Bool → Prop) : Prop := match x with | .bl i => k i | _ => False
def asR (x : V) (k : Addr → Prop) : Prop := match x with | .ref i => k i | _ => False
def asN (x : V) (k : Prop) : Prop := match x with | .non => k | _ => False
def as2 (xs : List V) (k : V → V → Prop) : Prop := match xs with | [x, y] => k x y | _ => False
def posQ (j : Int) (k : Prop) : Prop := match j with | .ofNat (n + 1) => cond (Nat.ble (n + 1) 1073741823) k False | _ => False
def posM (j : Int) (k : Prop) : Prop := match j with | .ofNat (_ + 1) => k | _ => False
def tupQ (n : Nat) (k : Prop) : Prop := cond (Nat.ble n 1000) k False
def lenQ (vs : List V) (n : Nat) (k : Prop) : Prop := cond (Nat.beq vs.length n) k False
theorem asV_of {o : Option (Option V)} {k : V → Prop} (h : asV o k) : ∃ v, o = some (some v) ∧ k v := match o, h with | some (some v), h => ⟨v, rfl, h⟩ | some none, h => h.elim | none, h => h.elim
theorem asI_of {x : V} {k : Int → Prop} (h : asI x k) : ∃ i, x = .int i ∧ k i := by cases x <;> first | exact ⟨_, rfl, h⟩ | exact h.elim
theorem asB_of {x : V} {k : Bool → Prop} (h : asB x k) : ∃ i, x = .bl i ∧ k i := by cases x <;> first | exact ⟨_, rfl, h⟩ | exact h.elim
theorem asR_of {x : V} {k : Addr → Prop} (h : asR x k) : ∃ i, x = .ref i ∧ k i := by cases x <;> first | exact ⟨_, rfl, h⟩ | exact h.elim
theorem asN_of {x : V} {k : Prop} (h : asN x k) : x = .non ∧ k := by cases x <;> first | exact ⟨rfl, h⟩ | exact h.elim
theorem as2_of {xs : List V} {k : V → V → Prop} (h : as2 xs k) : ∃ x y, xs = [x, y] ∧ k x y := match xs, h with | [x, y], h => ⟨x, y, rfl, h⟩ | [], h => h.elim | [_], h => h.elim | _ :: _ :: _ :: _, h => h.elim
theorem cond_of {b : Bool} {k : Prop} (h : cond b k False) : b = true ∧ k := by cases b with | true => exact ⟨rfl, h⟩ | false => exact h.elim
theorem posQ_of {j : Int} {k : Prop} (h : posQ j k) : (0 < j ∧ j < 1073741824) ∧ k := by
 match j, h with
 |
  .ofNat (n + 1), h =>
  obtain ⟨e, q⟩ := cond_of h
  have := Nat.le_of_ble_eq_true e
  refine ⟨⟨?_, ?_⟩, q⟩ <;> simp only [Int.ofNat_eq_natCast] <;> omega
theorem posM_of {j : Int} {k : Prop} (h : posM j k) : 0 < j ∧ k := by
 match j, h with
 | .ofNat (n + 1), h => exact ⟨by simp only [Int.ofNat_eq_natCast]; omega, h⟩
theorem tupQ_of {n : Nat} {k : Prop} (h : tupQ n k) : n ≤ sizeLine ∧ k := by
 obtain ⟨e, q⟩ := cond_of h
 exact ⟨Nat.le_trans (Nat.le_of_ble_eq_true e) (by decide), q⟩
theorem lenQ_of {vs : List V} {n : Nat} {k : Prop} (h : lenQ vs n k) : vs.length = n ∧ k := by
 obtain ⟨e, q⟩ := cond_of h
 exact ⟨Nat.eq_of_beq_eq_true e, q⟩
structure Br (b : Bool) (A B : Prop) : Prop where
 t : b = true → A
 f : ¬ b = true → B
theorem Br.of {b : Bool} {A B : Prop} (h : Br b A B) : if b = true then A else B := by cases b with | true => exact h.t rfl | false => exact h.f (by decide)
theorem jteT {A B : Prop} (h : A) : Br true A B := ⟨fun _ => h, fun e => absurd rfl e⟩
theorem jteF {A B : Prop} (h : B) : Br false A B := ⟨fun e => (nomatch e), fun _ => h⟩
theorem jteNS {c A B : Prop} [Decidable c] (hc : c) (h : B) : Br (!decide c) A B := by rw [decide_eq_true hc]; exact jteF h
theorem jneg {b : Bool} {A B : Prop} (e : b = false) (h : B) : Br b A B := ⟨fun z => (nomatch e.symm.trans z), fun _ => h⟩
theorem jpos {b : Bool} {A B : Prop} (e : b = true) (h : A) : Br b A B := ⟨fun _ => h, fun z => absurd e z⟩
theorem jte2 {b : Bool} {A B : Prop} (h1 : b = true → A) (h2 : ¬ b = true → B) : Br b A B := ⟨h1, h2⟩
noncomputable def slot (σ : St) (i : Nat) : Option (Option V) := List.rec (motive := fun _ => Nat → Option (Option V)) (fun _ => none) (fun a _ ih i => Nat.rec (some a) (fun j _ => ih j) i) σ i
theorem slot_is : ∀ (σ : St) (i : Nat), slot σ i = σ[i]?
 | [], _ => rfl
 | _ :: _, 0 => rfl
 | _ :: σ, i + 1 => by rw [List.getElem?_cons_succ]; exact slot_is σ i
noncomputable def qVar (i : Nat) : TE := fun σ H Q => asV (slot σ i) fun v => Q v H
def rQadd : R2 := fun x y H Q => asI x fun i => asI y fun j => Q (.int (i + j)) H
def rQsub : R2 := fun x y H Q => asI x fun i => asI y fun j => Q (.int (i - j)) H
def rQlt : R2 := fun x y H Q => asI x fun i => asI y fun j => Q (.bl (decide (i < j))) H
def rQle : R2 := fun x y H Q => asI x fun i => asI y fun j => Q (.bl (decide (i ≤ j))) H
def rQgt : R2 := fun x y H Q => asI x fun i => asI y fun j => Q (.bl (decide (j < i))) H
def rQge : R2 := fun x y H Q => asI x fun i => asI y fun j => Q (.bl (decide (j ≤ i))) H
def rQmod : R2 := fun x y H Q => asI x fun i => asI y fun j => posM j (Q (.int (i % j)) H)
def rQdiv : R2 := fun x y H Q => asI x fun i => asI y fun j => posQ j (Q (.int (i / j)) H)
def uQneg : V → Hp → VK → Prop := fun x H Q => asI x fun i => Q (.int (-i)) H
def rQEq : R2 := fun x y H Q => cond (scal x y) (Q (.bl (decide (x = y))) H) False
def rQNe : R2 := fun x y H Q => cond (scal x y) (Q (.bl (!decide (x = y))) H) False
def rQis : R2 := fun x y H Q => asN y (Q (.bl (decide (x = .non))) H)
def rQno : R2 := fun x y H Q => asN y (Q (.bl (!decide (x = .non))) H)
def qTest (t : TE) : TT := fun σ H Q => t σ H fun x H' => asB x fun k => Q k H'
def qAndV (ta tb : TE) : TE := fun σ H Q => ta σ H fun x H1 => asB x fun c => Br c (tb σ H1 Q) (Q (.bl false) H1)
def qOrV (ta tb : TE) : TE := fun σ H Q => ta σ H fun x H1 => asB x fun c => Br c (Q (.bl true) H1) (tb σ H1 Q)
def qIf (t : TT) (ta tb : TE) : TE := fun σ H Q => t σ H fun c H1 => Br c (ta σ H1 Q) (tb σ H1 Q)
def qIfS (c : TT) (t u : TS) : TS := fun D σ H => c σ H fun b H1 => Br b (t D σ H1) (u D σ H1)
def qAnd (t u : TT) : TT := fun σ H Q => t σ H fun c H1 => Br c (u σ H1 Q) (Q false H1)
def qOr (t u : TT) : TT := fun σ H Q => t σ H fun c H1 => Br c (Q true H1) (u σ H1 Q)
def qWhile (c : TT) (tb : TS) : TS := fun D σ H => ∃ W : Nat → St → Hp → Prop, (∃ m, W m σ H) ∧ ∀ m σ H, W m σ H →
 c σ H fun b H1 => Br b (∃ N : St → Hp → Prop, (∀ σ' H', N σ' H' → ∃ m', m' < m ∧ W m' σ' H') ∧ tb { D with nx := N, ct := N, bk := D.nx } σ H1) (D.nx σ H1)
def qChain (r r' : R2) (ta tb tc : TE) : TE := fun σ H Q => ta σ H fun x H1 => tb σ H1 fun y H2 => r x y H2 fun z H3 => asB z fun k => Br k (tc σ H3 fun w' H4 => r' y w' H4 Q) (Q (.bl false) H3)
def qNotV (ta : TE) : TE := fun σ H Q => ta σ H fun x H1 => asB x fun c => Q (.bl (!c)) H1
def qTup (t : TA) : TE := fun σ H Q => t σ H fun xs H1 => tupQ xs.length (∀ p, H1 p = none → Q (.ref p) (upd H1 p (.tup xs)))
def qLst (t : TA) : TE := fun σ H Q => t σ H fun xs H1 => tupQ xs.length (∀ p, H1 p = none → Q (.ref p) (upd H1 p (.lst xs)))
def cQmax : List V → Hp → VK → Prop := fun xs H Q => as2 xs fun x y => asI x fun i => asI y fun j => Q (.int (if j > i then j else i)) H
def cQmin : List V → Hp → VK → Prop := fun xs H Q => as2 xs fun x y => asI x fun i => asI y fun j => Q (.int (if j < i then j else i)) H
inductive IxT (K : W.Frag) (H : Hp) (p : Addr) (i : Int) (k : V → Prop) : Prop where
 | mk {xs : List V} {v : V} (h : SqT K H p xs) (e : atI xs i = some v) (q : k v) : IxT K H p i k
inductive IxL (K : W.Frag) (H : Hp) (p : Addr) (i : Int) (k : V → Prop) : Prop where
 | mk {xs : List V} {v : V} (h : SqL K H p xs) (e : atI xs i = some v) (q : k v) : IxL K H p i k
def rQT (K : W.Frag) : R2 := fun x y H Q => asR x fun p => asI y fun i => IxT K H p i fun v => Q v H
def rQL (K : W.Frag) : R2 := fun x y H Q => asR x fun p => asI y fun i => IxL K H p i fun v => Q v H
inductive FdQ (K : W.Frag) (H : Hp) (a : Addr) (f : Str) (k : V → Prop) : Prop where
 | mk {C dx : Addr} {fs : List (Str × V)} {v : V} (h : H a = some (.ins C dx fs)) (c : Cls K C) (n : NoAttr K C f) (e : fs.lookup f = some v) (q : k v) : FdQ K H a f k
def qFld (K : W.Frag) (ta : TE) (f : Str) : TE := fun σ H Q => ta σ H fun x H1 => asR x fun a => FdQ K H1 a f fun v => Q v H1
def putG (f : Str) (v : V) : List (Str × V) → List (Str × V)
 | [] => [(f, v)]
 | (g, x) :: r => cond (g == f) ((g, v) :: r) ((g, x) :: putG f v r)
theorem putG_is (f : Str) (v : V) : ∀ fs : List (Str × V), putG f v fs = putF f v fs
 | [] => rfl
 |
  (g, x) :: r => by
  show cond (g == f) ((g, v) :: r) ((g, x) :: putG f v r) = if g = f then (g, v) :: r else (g, x) :: putF f v r
  rw [putG_is f v r]
  by_cases h : g = f
  · rw [if_pos h, show (g == f) = true by rw [beq_iff_eq]; exact h]; rfl
  · rw [if_neg h, show (g == f) = false by rw [beq_eq_false_iff_ne]; exact h]; rfl
def shQ (n : Nat) (k : Prop) : Prop := cond (Nat.ble n 999) k False
theorem shQ_of {n : Nat} {k : Prop} (h : shQ n k) : n < 1000 ∧ k := by
 obtain ⟨e, q⟩ := cond_of h
 exact ⟨Nat.lt_succ_of_le (Nat.le_of_ble_eq_true e), q⟩
inductive SfQ (K : W.Frag) (H : Hp) (a : Addr) (f : Str) (y : V) (k : Hp → Prop) : Prop where
 | mk {C dx : Addr} {fs : List (Str × V)} (h : H a = some (.ins C dx fs)) (c : Cls K C) (n : NoAttr K C f) (q : shQ fs.length (k (upd H a (.ins C dx (putG f y fs))))) : SfQ K H a f y k
def qsFld (K : W.Frag) (ta tv : TE) (f : Str) : TS := fun D σ H => tv σ H fun y H1 => ta σ H1 fun x H2 => asR x fun a => SfQ K H2 a f y (D.nx σ)
inductive MtQ (H : Hp) (a : Addr) (m : Str) (D : Addr → (V → List V → Hp → VK → Prop) → Prop) (k : (V → List V → Hp → VK → Prop) → Prop) : Prop where
 | mk {C dx : Addr} {fs : List (Str × V)} {R : V → List V → Hp → VK → Prop} (h : H a = some (.ins C dx fs)) (e : fs.lookup m = none) (d : D C R) (q : k R) : MtQ H a m D k
def qMethV (m : Str) (n : Nat) (D : Addr → (V → List V → Hp → VK → Prop) → Prop) (ta : TE) (t : TA) : TE := fun σ H Q => ta σ H fun x H1 => asR x fun a => MtQ H1 a m D fun R => t σ H1 fun vs H2 => lenQ vs n (R x vs H2 Q)
def qMeth0 (m : Str) (D : Addr → (V → List V → Hp → VK → Prop) → Prop) (ta : TE) : TE := fun σ H Q => ta σ H fun x H1 => asR x fun a => MtQ H1 a m D fun R => R x [] H1 Q
section
variable {X : Cx} {a b c e : Expr} {ta tb tc te : TE} {pos : Pos}
theorem OpR.mono {f : Value → Value → Sem Value} {r r' : R2} (h : OpR X f r) (m : ∀ x y H Q, r' x y H Q → r x y H Q) : OpR X f r' := fun p s σ H x y v u Q I rx ry q => h p s σ H x y v u Q I rx ry (m x y H Q q)
theorem PE.mono {t t' : TE} (h : PE X e t) (m : ∀ σ H Q, t' σ H Q → t σ H Q) : PE X e t' := fun p s σ H Q I q => h p s σ H Q I (m σ H Q q)
theorem PT.mono {t t' : TT} (h : PT X e t) (m : ∀ σ H Q, t' σ H Q → t σ H Q) : PT X e t' := fun p s σ H Q I q => h p s σ H Q I (m σ H Q q)
theorem opQ0 {f : Value → Value → Sem Value} {g : Int → Int → V} (h : OpR X f (rI0 g)) : OpR X f (fun x y H Q => asI x fun i => asI y fun j => Q (g i j) H) := h.mono fun x y H Q q => by
 obtain ⟨i, rfl, q1⟩ := asI_of q
 obtain ⟨j, rfl, q2⟩ := asI_of q1
 exact ⟨i, j, rfl, rfl, q2⟩
theorem opQP {f : Value → Value → Sem Value} {C : Int → Int → Prop} {g : Int → Int → V} (h : OpR X f (rI C g)) (hc : ∀ i j : Int, 0 < j → j < 1073741824 → C i j) : OpR X f (fun x y H Q => asI x fun i => asI y fun j => posQ j (Q (g i j) H)) := h.mono fun x y H Q q => by
 obtain ⟨i, rfl, q1⟩ := asI_of q
 obtain ⟨j, rfl, q2⟩ := asI_of q1
 obtain ⟨⟨l, u⟩, q⟩ := posQ_of q2
 exact ⟨i, j, rfl, rfl, hc i j l u, q⟩
theorem oq_add : OpR X (binaryOp .Add) rQadd := opQ0 op_add
theorem oq_sub : OpR X (binaryOp .Sub) rQsub := opQ0 op_sub
theorem oq_lt : OpR X (compareOp .Lt) rQlt := opQ0 op_lt
theorem oq_le : OpR X (compareOp .LtE) rQle := opQ0 op_le
theorem oq_gt : OpR X (compareOp .Gt) rQgt := opQ0 op_gt
theorem oq_ge : OpR X (compareOp .GtE) rQge := opQ0 op_ge
theorem oq_mod : OpR X (binaryOp .Mod) rQmod := op_mod.mono fun x y H Q q => by
 obtain ⟨i, rfl, q1⟩ := asI_of q
 obtain ⟨j, rfl, q2⟩ := asI_of q1
 exact ⟨i, j, rfl, rfl, posM_of q2⟩
theorem oq_fdiv : OpR X (binaryOp .FloorDiv) rQdiv := opQP op_fdiv fun _ _ h g => ⟨h, g⟩
theorem oq_eq : OpR X (compareOp .Eq) rQEq := op_eq.mono fun _ _ _ _ q => cond_of q
theorem oq_ne : OpR X (compareOp .NotEq) rQNe := op_ne.mono fun _ _ _ _ q => cond_of q
theorem oq_isN : OpR X (compareOp .Is) rQis := op_isN.mono fun _ _ _ _ q => asN_of q
theorem oq_notN : OpR X (compareOp .IsNot) rQno := op_notN.mono fun _ _ _ _ q => asN_of q
theorem uq_neg : UnR X (unaryOp .USub) uQneg := fun p s σ H x v Q I rx q => un_neg p s σ H x v Q I rx (asI_of q)
theorem qv (i : Nat) {x : Str} {pos : Pos} (hN : X.N[i]? = some x := by rfl) (hv : Vis X.env.scope x := by first | exact Or.inl rfl | exact Or.inr (Or.inl rfl) | exact Or.inr (Or.inr rfl)) (hd : (x == ("__debug__" : Str)) = false := by decide)
 (hcd : (x == ("__classdict__" : Str)) = false := by decide) : PE X (.Name x pos) (qVar i) := (pe_var hN hv hd hcd).mono fun σ _ _ q => by rw [qVar, slot_is] at q; exact asV_of q
def clo (t : TE) : TE := fun σ H Q => ∃ R, t σ H R ∧ ∀ x H1, R x H1 → Q x H1
def cloA (t : TA) : TA := fun σ H Q => ∃ R, t σ H R ∧ ∀ x H1, R x H1 → Q x H1
theorem PE.clo {t : TE} (h : PE X e t) : PE X e (clo t) := fun p s σ H _ I ⟨R, q, m⟩ => thn (h p s σ H R I q) fun _ _ ⟨v, H1, I1, r, q⟩ => ⟨v, H1, I1, r, m v H1 q⟩
theorem PA.clo {es : List Expr} {t : TA} (h : PA X es t) : PA X es (cloA t) := fun o p s σ H _ I ⟨R, q, m⟩ => thn (h o p s σ H R I q) fun _ _ ⟨v, H1, I1, r, q⟩ => ⟨v, H1, I1, r, m v H1 q⟩
theorem OpR.clo {f : Value → Value → Sem Value} {r : R2} (h : OpR X f r) : OpR X f (fun x y H Q => ∃ R, r x y H R ∧ ∀ x H1, R x H1 → Q x H1) := fun p s σ H x y v u _ I rx ry ⟨R, q, m⟩ => thn (h p s σ H x y v u R I rx ry q) fun _ _ ⟨v, H1, I1, r, q⟩ => ⟨v, H1, I1, r, m v H1 q⟩
def cloT (t : TT) : TT := fun σ H Q => ∃ R, t σ H R ∧ ∀ x H1, R x H1 → Q x H1
theorem PT.clo {t : TT} (h : PT X e t) : PT X e (cloT t) := fun p s σ H _ I ⟨R, q, m⟩ => thn (h p s σ H R I q) fun _ _ ⟨H1, I1, q⟩ => ⟨H1, I1, m _ H1 q⟩
theorem qt_cmpR {op : CmpOp} {r : R2} (ho : OpR X (compareOp op) r) (ha : PE X a ta) (hb : PE X b tb) (hm : behindInMarks op b = false) : PT X (.Compare a [op] [b] pos) (qTest (tOp r ta tb)) :=
 (pt_cmpR ho.clo ha.clo hb.clo hm).mono fun _ _ _ q => ⟨_, q, fun _ _ q => ⟨_, q, fun _ _ q => ⟨_, q, fun _ _ q => asB_of q⟩⟩⟩
theorem qt_val {t : TE} (h : PE X e t) (he : ∀ whole, isTrue e X.env whole = (do let v ← whole; standAt e.pos; holding [v] (truthy v)) := by intro _; rfl) : PT X e (qTest t) :=
 (pt_val h.clo he).mono fun _ _ _ q => ⟨_, q, fun _ _ q => asB_of q⟩
variable {rest es : List Expr} {t : TA} {K : W.Frag} {f m : Str} {o value : Expr} {tv : TE} {pos' apos : Pos}
theorem qe_and (ha : PE X a ta) (hb : PE X (.BoolOp .And (b :: rest) pos) tb) : PE X (.BoolOp .And (a :: b :: rest) pos) (qAndV ta tb) := (pe_and ha.clo hb).mono fun _ _ _ q => ⟨_, q, fun _ _ q => (asB_of q).elim fun c q => ⟨c, q.1, q.2.of⟩⟩
theorem qe_or (ha : PE X a ta) (hb : PE X (.BoolOp .Or (b :: rest) pos) tb) : PE X (.BoolOp .Or (a :: b :: rest) pos) (qOrV ta tb) := (pe_or ha.clo hb).mono fun _ _ _ q => ⟨_, q, fun _ _ q => (asB_of q).elim fun c q => ⟨c, q.1, q.2.of⟩⟩
theorem qw_and {tA tB' : TT} (ha : PT X a tA) (hb : PW X (.BoolOp .And (b :: rest) pos) tB') : PW X (.BoolOp .And (a :: b :: rest) pos) (qAnd tA tB') := fun wh p s σ H Q I q => pw_and ha.clo hb wh p s σ H Q I ⟨_, q, fun _ _ q => q.of⟩
theorem qw_or {tA tB' : TT} (ha : PT X a tA) (hb : PW X (.BoolOp .Or (b :: rest) pos) tB') : PW X (.BoolOp .Or (a :: b :: rest) pos) (qOr tA tB') := fun wh p s σ H Q I q => pw_or ha.clo hb wh p s σ H Q I ⟨_, q, fun _ _ q => q.of⟩
theorem qe_ifExp {tA : TT} (hc : PT X c tA) (ha : PE X a ta) (hb : PE X b tb) : PE X (.IfExp c a b pos) (qIf tA ta tb) := (pe_ifExp hc.clo ha hb).mono fun _ _ _ q => ⟨_, q, fun _ _ q => q.of⟩
theorem qs_if {sa sb : List Stmt} {tc : TT} {t u : TS} (hc : PT X c tc) (ha : PSs X sa t) (hb : PSs X sb u) : PS X (.If c sa sb pos) (qIfS tc t u) := fun p s σ H D I q => ps_if hc.clo ha hb p s σ H D I ⟨_, q, fun _ _ q => q.of⟩
theorem qs_while {body : List Stmt} {tc : TT} {tb : TS} (hp : PassesOwn (model X.prog X.w) X.A X.env X.xe) (hc : PT X c tc) (hb : PSs X body tb) : PS X (.While c body [] pos) (qWhile tc tb) := fun p s σ H D I ⟨W, w, q⟩ => ps_while hp hc.clo hb p s σ H D I ⟨W, w, fun m σ H w => ⟨_, q m σ H w, fun _ _ q => q.of⟩⟩
theorem qe_chain {op op' : CmpOp} {r r' : R2} (ho : OpR X (compareOp op) r) (ho' : OpR X (compareOp op') r') (ha : PE X a ta) (hb : PE X b tb) (hc : PE X c tc)
  (hm : lastMarks [op, op'] [b, c] = false := by with_unfolding_all rfl) : PE X (.Compare a [op, op'] [b, c] pos) (qChain r r' ta tb tc) :=
 (pe_chain ho.clo ho'.clo ha.clo hb.clo hc.clo hm).mono fun _ _ _ q => ⟨_, q, fun _ _ q => ⟨_, q, fun _ _ q => ⟨_, q, fun _ _ q => (asB_of q).elim fun c q => ⟨c, q.1, by
  have := q.2.of
  cases c with
  | true => exact ⟨_, this, fun _ _ q => ⟨_, q, fun _ _ q => q⟩⟩
  | false => exact this⟩⟩⟩⟩
theorem qt_chain {op op' : CmpOp} {r r' : R2} (ho : OpR X (compareOp op) r) (ho' : OpR X (compareOp op') r') (ha : PE X a ta) (hb : PE X b tb) (hc : PE X c tc)
  (hm : lastMarks [op, op'] [b, c] = false := by with_unfolding_all rfl) : PT X (.Compare a [op, op'] [b, c] pos) (qTest (qChain r r' ta tb tc)) :=
 (pt_chain ho.clo ho'.clo ha.clo hb.clo hc.clo hm).mono fun _ _ _ q => ⟨_, q, fun _ _ q => ⟨_, q, fun _ _ q => ⟨_, q, fun _ _ q => (asB_of q).elim fun c q => ⟨c, q.1, by
  have := q.2.of
  cases c with
  | true => exact ⟨_, this, fun _ _ q => ⟨_, q, fun _ _ q => asB_of q⟩⟩
  | false => exact asB_of this⟩⟩⟩⟩
theorem qe_not (ha : PE X a ta) : PE X (.UnaryOp .Not a pos) (qNotV ta) := (pe_not ha.clo).mono fun _ _ _ q => ⟨_, q, fun _ _ q => asB_of q⟩
theorem qe_tup {x1} (h : PA X es t) : PE X (.Tuple es x1 pos) (qTup t) := (pe_tup h.clo).mono fun _ _ _ q => ⟨_, q, fun _ _ q => tupQ_of q⟩
theorem qe_lst (h : PA X es t) : PE X (.List es pos) (qLst t) := (pe_lst h.clo).mono fun _ _ _ q => ⟨_, q, fun _ _ q => tupQ_of q⟩
theorem cq_max2 (hc : X.calm = true) : CallR X (.builtin "max") cQmax := fun p s σ H xs us Q I r q => call_max2 hc p s σ H xs us Q I r (by
 obtain ⟨x, y, rfl, q0⟩ := as2_of q
 obtain ⟨i, rfl, q1⟩ := asI_of q0
 obtain ⟨j, rfl, q2⟩ := asI_of q1
 exact ⟨i, j, rfl, q2⟩)
theorem cq_min2 (hc : X.calm = true) : CallR X (.builtin "min") cQmin := fun p s σ H xs us Q I r q => call_min2 hc p s σ H xs us Q I r (by
 obtain ⟨x, y, rfl, q0⟩ := as2_of q
 obtain ⟨i, rfl, q1⟩ := asI_of q0
 obtain ⟨j, rfl, q2⟩ := asI_of q1
 exact ⟨i, j, rfl, q2⟩)
theorem IxR.mono {r r' : R2} (h : IxR X r) (m : ∀ x y H Q, r' x y H Q → r x y H Q) : IxR X r' := fun a b p s σ H x y v u Q I rx ry q => h a b p s σ H x y v u Q I rx ry (m x y H Q q)
theorem iq_tup (hK : X.K = K) : IxR X (rQT K) := (ix_tupK hK).mono fun x y H Q q => by
 obtain ⟨p, rfl, q0⟩ := asR_of q
 obtain ⟨i, rfl, h, e, q⟩ := asI_of q0
 exact ⟨p, _, i, _, rfl, rfl, h, e, q⟩
theorem iq_list (hK : X.K = K) : IxR X (rQL K) := (ix_listK hK).mono fun x y H Q q => by
 obtain ⟨p, rfl, q0⟩ := asR_of q
 obtain ⟨i, rfl, h, e, q⟩ := asI_of q0
 exact ⟨p, _, i, _, rfl, rfl, h, e, q⟩
theorem qe_fld (hK : X.K = K) (he : PE X e ta) (hb : attributeBase e f X.env (eval e X.env) = eval e X.env := by rfl) : PE X (.Attribute e f pos) (qFld K ta f) := (pe_fldK hK he.clo hb).mono fun _ _ _ q => ⟨_, q, fun _ _ q => by
 obtain ⟨p, rfl, h, c, n, e, q⟩ := asR_of q
 exact ⟨p, _, _, _, _, rfl, h, c, n, e, q⟩⟩
theorem qs_fld (hK : X.K = K) (ha : PE X o ta) (hv : PE X value tv) (hs : swapsWith value (some (.Attribute o f pos')) pos.line X.env = pure false := by rfl) : PS X (.Assign [.Attribute o f pos'] value pos) (qsFld K ta tv f) :=
 fun p s σ H D I q => ps_fldK hK ha.clo hv.clo hs p s σ H D I ⟨_, q, fun _ _ q => ⟨_, q, fun _ _ q => by
  obtain ⟨p, rfl, h, c, n, q⟩ := asR_of q
  obtain ⟨l, q⟩ := shQ_of q
  rw [putG_is] at q
  exact ⟨p, _, _, _, rfl, h, c, n, l, q⟩⟩⟩
theorem qe_methV {pl : Sem Bool} {n : Nat} {D : Addr → (V → List V → Hp → VK → Prop) → Prop} (he : PE X o ta) (hD : ∀ C R, D C R → Ans X m n C R) (ha : PA X (e :: es) t)
  (hst : starEach (e :: es) X.env = (false, eval e X.env) :: starEach es X.env := by rfl) (hpl : (backTo pos (starEach es X.env)).any (·.1) = false := by rfl)
  (ht : eval (.Call (.Attribute o m apos) (e :: es) [] pos) X.env = (do
   let ov ← eval o X.env
   standAt apos.atName
   let (f, first) ← holding [ov] (getMethod ov m pl)
   callWith pos f first (backTo pos (starEach (e :: es) X.env)) (backToKw pos (keywordEach [] X.env))) := by rfl) :
  PE X (.Call (.Attribute o m apos) (e :: es) [] pos) (qMethV m n D ta t) := (pe_methV he.clo hD ha.clo hst hpl ht).mono fun _ _ _ q => ⟨_, q, fun _ _ q => by
 obtain ⟨p, rfl, h, e, d, q⟩ := asR_of q
 exact ⟨p, _, _, _, _, rfl, h, e, d, _, q, fun _ _ q => lenQ_of q⟩⟩
theorem qe_methV0 {pl : Sem Bool} {D : Addr → (V → List V → Hp → VK → Prop) → Prop} (he : PE X o ta) (hD : ∀ C R, D C R → Ans X m 0 C R)
  (ht : eval (.Call (.Attribute o m apos) [] [] pos) X.env = (do
   let ov ← eval o X.env
   standAt apos.atName
   let (f, first) ← holding [ov] (getMethod ov m pl)
   callWith pos f first (backTo pos (starEach [] X.env)) (backToKw pos (keywordEach [] X.env))) := by rfl) :
  PE X (.Call (.Attribute o m apos) [] [] pos) (qMeth0 m D ta) := (pe_methV0 he.clo hD ht).mono fun _ _ _ q => ⟨_, q, fun _ _ q => by
 obtain ⟨p, rfl, h, e, d, q⟩ := asR_of q
 exact ⟨p, _, _, _, _, rfl, h, e, d, q⟩⟩
end
section
variable {X : Cx} {K : W.Frag} {a b e value : Expr} {es : List Expr} {ta tb tv te : TE} {t : TA} {pos p pos' : Pos} {x f' : Str}
theorem qc {j k : Nat} {f : Addr} {fd : FuncData} {ps : List Str} {sp : Sp} {x1 x2 : Str} {st : Stmt} (F : FnOk X.prog X.w X.K X.mg X.base CX0 true j f fd ps sp) (hr : Room true k X.A) (hm : X.mg x = some (.ref f)) (G : Fun X.K x1 x2 st f fd) (hb : Binds X.K fd ps []) (ha : PA X (e :: es) t)
 (hj : j ≤ k := by first | decide | lia) (hg : Gl X x := by rfl) (hdb : (x == ("__debug__" : Str)) = false := by decide) (he : starEach (e :: es) X.env = (false, eval e X.env) :: starEach es X.env := by rfl) (hpl : (backTo pos (starEach es X.env)).any (·.1) = false := by rfl) :
 PE X (.Call (.Name x p) (e :: es) [] pos) (tCall sp [] E0 t) := pe_call (F.mono hj) hr hg hm G.kp hb .nil pass0 ha hdb he hpl
theorem qset (i : Nat) (hN : X.N.Nodup) (he : PE X e te) (hi : X.N[i]? = some x := by rfl) (hx : Loc X.env.scope x := by first | exact .inl rfl | exact .inr rfl) (hs : swapsWith e (some (.Name x pos')) pos.line X.env = pure false := by rfl)
 (hf : X.fn x = true ∨ X.env.scope.names.lookup x = some .local := by first | exact .inl rfl | exact .inr rfl | assumption) : PS X (.Assign [.Name x pos'] e pos) (tAsg te (gName i)) := ps_set hN hi hx he hs hf
theorem qnm (i : Nat) (hN : X.N.Nodup) (hi : X.N[i]? = some x := by rfl) (hx : Loc X.env.scope x := by first | exact .inl rfl | exact .inr rfl)
 (hf : X.fn x = true ∨ X.env.scope.names.lookup x = some .local := by first | exact .inl rfl | exact .inr rfl | assumption) : PG X (.Name x pos) (gName i) := pg_name hN hi hx hf
theorem qsc {N P : List Str} {s : Scope} (h1 : s.kind = .function := by rfl) (h2 : s.isCoroutine = false := by rfl) (h3 : s.isGenerator = false := by rfl) (h4 : N.Nodup := by decide +kernel) (h5 : N.take P.length = P := by rfl)
 (h6 : ∀ x ∈ P, s.names.lookup x = some .local ∨ s.names.lookup x = some .cell := by decide +kernel) (h7 : ∀ y ∈ s.names, y.2 ≠ .free := by decide +kernel) : FnScope N P s := ⟨h1, h2, h3, h4, h5, h6, h7⟩
theorem qix (K) (ha : PE X a ta) (hb : PE X b tb) (hK : X.K = K := by rfl) (hs : PlainIx b := by exact fun _ _ => rfl) : PE X (.Subscript a b pos) (tOp (rQT K) ta tb) := pe_ix (iq_tup hK) ha hb hs
theorem qil (K) (ha : PE X a ta) (hb : PE X b tb) (hK : X.K = K := by rfl) (hs : PlainIx b := by exact fun _ _ => rfl) : PE X (.Subscript a b pos) (tOp (rQL K) ta tb) := pe_ix (iq_list hK) ha hb hs
theorem qf (K) (he : PE X e te) (hK : X.K = K := by rfl) (hb : attributeBase e f' X.env (eval e X.env) = eval e X.env := by rfl) : PE X (.Attribute e f' pos) (qFld K te f') := qe_fld hK he hb
end
theorem Fun.go {P : Program} {w : World} {K : W.Frag} {mg : Str → Option Value} {base : Heap} {cm : Bool} {x qual : Str} {st : Stmt} {f : Addr} {fd : FuncData} {N ps : List Str} {k : Nat} {sp : Sp} (F : Fun K x qual st f fd) (S : FnScope N ps (defScope st))
 (hbody : ∀ (cdv : Value) (A : Around) (outer : List Env) (s : Shared) (H : Hp) (vs : List V) (Q : VK) (E : XK), Room cm k (A.deeper (envOfC qual (defScope st) s.heap.objs.size f cdv)) → sp vs H Q E →
  ∃ t, PSs (cxOf CX0 cm P w K mg base N qual (defScope st) f cdv A outer s H E).nox (defBody st) t ∧ t { nx := fun _ H' => Q .non H', rt := fun _ => Q } (start N vs) H)
 (len : ∀ vs H Q E, sp vs H Q E → vs.length = ps.length := by intro vs H Q E h; (repeat (first | (obtain ⟨e, _⟩ := h; subst e; rfl) | obtain ⟨_, h⟩ := h))) : FnOk P w K mg base CX0 cm (k + 1) f fd ps sp := F.ok S len hbody
theorem FunD.go {P : Program} {w : World} {K : W.Frag} {mg : Str → Option Value} {base : Heap} {cm : Bool} {x qual : Str} {st : Stmt} {f : Addr} {fd : FuncData} {N ps : List Str} {k : Nat} {sp : Sp} (F : FunD K x qual st f fd) (S : FnScope N ps (defScope st))
 (hbody : ∀ (cdv : Value) (A : Around) (outer : List Env) (s : Shared) (H : Hp) (vs : List V) (Q : VK) (E : XK), Room cm k (A.deeper (envOfC qual (defScope st) s.heap.objs.size f cdv)) → sp vs H Q E →
  ∃ t, PSs (cxOf CX0 cm P w K mg base N qual (defScope st) f cdv A outer s H E).nox (defBody st) t ∧ t { nx := fun _ H' => Q .non H', rt := fun _ => Q } (start N vs) H)
 (len : ∀ vs H Q E, sp vs H Q E → vs.length = ps.length := by intro vs H Q E h; (repeat (first | (obtain ⟨e, _⟩ := h; subst e; rfl) | obtain ⟨_, h⟩ := h))) : FnOk P w K mg base CX0 cm (k + 1) f fd ps sp := F.ok S len hbody
section
variable {X : Cx} {e : Expr} {es : List Expr} {t : TA} {pos p : Pos} {x m : Str} {n j k : Nat} {cm : Bool} {C f : Addr} {fd : FuncData} {ps : List Str} {sp : Sp}
theorem qan (c : Cls X.K C) (hm : Meth X.K C m f) (F : FnOk X.prog X.w X.K X.mg X.base CX0 cm k f fd ps sp) (hr : Room cm k X.A) (hb : Binds X.K fd ps []) : Ans X m n C (fun x vs H Q => sp (x :: (vs ++ [])) H Q E0) :=
 ⟨c, _, _, _, _, _, _, _, _, _, _, hm, F, hr, hb, .nil, pass0, fun _ _ _ _ _ h => h⟩
theorem qb {id : String} {r : List V → Hp → VK → Prop} (hc : CallR X (.builtin id) r) (hm : X.mg x = none) (ha : PA X (e :: es) t) (hg : Gl X x := by rfl) (hv : bootBuiltins x = some (.builtin id) := by decide +kernel) (hn : x ≠ "__name__" := by decide) (hdb : (x == ("__debug__" : Str)) = false := by decide)
 (he : starEach (e :: es) X.env = (false, eval e X.env) :: starEach es X.env := by rfl) (hpl : (backTo pos (starEach es X.env)).any (·.1) = false := by rfl) : PE X (.Call (.Name x p) (e :: es) [] pos) (tCB r t) := pe_callB hc hg hm hv ha hn hdb he hpl
theorem qty {T : String} {r : List V → Hp → VK → Prop} (hc : CallR X (.type T) r) (hm : X.mg x = none) (ha : PA X (e :: es) t) (hg : Gl X x := by rfl) (hv : bootBuiltins x = some (.type T) := by decide +kernel) (hn : x ≠ "__name__" := by decide) (hdb : (x == ("__debug__" : Str)) = false := by decide)
 (he : starEach (e :: es) X.env = (false, eval e X.env) :: starEach es X.env := by rfl) (hpl : (backTo pos (starEach es X.env)).any (·.1) = false := by rfl) : PE X (.Call (.Name x p) (e :: es) [] pos) (tCB r t) := pe_callTy hc hg hm hv ha hn hdb he hpl
theorem qm (M : Mk X.K C f) (F : FnOk X.prog X.w X.K X.mg X.base CX0 true j f fd ps sp) (hr : Room true (k + 1) X.A) (hm : X.mg x = some (.ref C)) (hb : Binds X.K fd ps []) (ha : PA X (e :: es) t) (hj : j ≤ k := by first | decide | lia) (hg : Gl X x := by rfl)
 (hdb : (x == ("__debug__" : Str)) = false := by decide) (he : starEach (e :: es) X.env = (false, eval e X.env) :: starEach es X.env := by rfl) (hpl : (backTo pos (starEach es X.env)).any (·.1) = false := by rfl) :
 PE X (.Call (.Name x p) (e :: es) [] pos) (tMake C sp [] E0 t) := pe_make M (F.mono hj) hr hg hm hb .nil pass0 ha hdb he hpl
end
end L2
namespace L2
open PySem PySem.Spec PyProof.Rows PySem.SeqAt
def GtV (X : Cx) (H : Hp) (v v' : V) (b : Bool) : Prop := ∀ (pins : List (Addr × Obj)) (s : Shared) (σ : St) (u u' : Value), Inv X pins σ H s → RelV v u → RelV v' u' → CmpAt .Gt X.A.in1 s u u' b
section
variable {X : Cx} {cm : Bool} {k : Nat} {f : Addr} {fd : FuncData} {pn x fx : Str} {sp : Sp} {e : Expr} {te : TE} {p p2 kpos pos : Pos}
def tMaxKey (X : Cx) (sp : Sp) (te : TE) : TE := fun σ H Q => te σ H fun v H1 => ∃ (l : Addr) (y : V) (ys : List V) (G : V → Hp → V → Prop) (gt : V → V → Bool), v = .ref l ∧ H1 l = some (.lst (y :: ys)) ∧
 (∀ z ∈ y :: ys, ∀ H', Same H1 H' → sp [z] H' (fun w H2 => Same H' H2 ∧ G z H2 w) E0) ∧ (∀ z H1 H2 w, Same H1 H2 → G z H1 w → G z H2 w) ∧
 (∀ z ∈ y :: ys, ∀ z' ∈ y :: ys, ∀ H' w w', Same H1 H' → G z H' w → G z' H' w' → GtV X H' w w' (gt z z')) ∧ ∀ H', Same H1 H' → Q (maxBy gt y ys) H'
def maxP (X : Cx) (sp : Sp) (Q : VK) (v : V) (H1 : Hp) : Prop := ∃ (l : Addr) (y : V) (ys : List V) (G : V → Hp → V → Prop) (gt : V → V → Bool), v = .ref l ∧ H1 l = some (.lst (y :: ys)) ∧
 (∀ z ∈ y :: ys, ∀ H', Same H1 H' → sp [z] H' (fun w H2 => Same H' H2 ∧ G z H2 w) E0) ∧ (∀ z H1 H2 w, Same H1 H2 → G z H1 w → G z H2 w) ∧
 (∀ z ∈ y :: ys, ∀ z' ∈ y :: ys, ∀ H' w w', Same H1 H' → G z H' w → G z' H' w' → GtV X H' w w' (gt z z')) ∧ ∀ H', Same H1 H' → Q (maxBy gt y ys) H'
def onlyP (P : V → Hp → Prop) : List V → Hp → Prop
 | [v], H => P v H
 | _, _ => False
theorem pe_maxKey (hc : X.calm = true) (F : FnOk X.prog X.w X.K X.mg X.base CX0 cm k f fd [pn] sp) (hr : Room cm (k + 1) X.A) (hb : Binds X.K fd [pn] []) (hg : Gl X "max") (hm : X.mg "max" = none) (hgf : Gl X fx) (hmf : X.mg fx = some (.ref f)) (he : PE X e te)
  (hdb : (fx == ("__debug__" : Str)) = false := by decide)
  (hst : starEach [e] X.env = (false, eval e X.env) :: starEach [] X.env := by rfl)
  (hall : (backToKw pos (keywordEach [⟨some "key", .Name fx p2, kpos⟩] X.env)).all (·.1.isSome) = true := by rfl) (hks : (backToKw pos (keywordEach [⟨some "key", .Name fx p2, kpos⟩] X.env)).filterMap (·.1) = [Str.ofString "key"] := by rfl)
  (hpl : ((backTo pos (starEach [e] X.env)).any (·.1) || (backToKw pos (keywordEach [⟨some "key", .Name fx p2, kpos⟩] X.env)).any (·.1.isNone)) = false := by rfl) : PE X (.Call (.Name "max" p) [e] [⟨some "key", .Name fx p2, kpos⟩] pos) (tMaxKey X sp te) := by
 intro pins s σ H Q I h
 refine wpAny_Call_Name_kw (ld_blt I hg hm boot_max ?_)
 have ha : PA X [e] (tCons te tNil) := pa_cons he pa_nil hst
 have hf : PE X (.Name fx p2) (fun σ H Q => Q (.ref f) H) := fun pins s σ H Q I h => ld_glob I hgf hmf ⟨.ref f, H, I, rfl, h⟩ hdb
 have hkw : PK X [⟨some "key", .Name fx p2, kpos⟩] (tCons (fun σ H Q => Q (.ref f) H) tNil) := pk_cons hf pk_nil
 refine W.callWith_of (P := fun _ => True) hpl (fun h _ => ⟨.machine, .inr (.inl rfl), W.Looks.now⟩) (evalArgs_kw2 hall (thn (ha pos pins s σ H (onlyP (maxP X sp Q)) I h) fun us s1 ⟨vs, H1, I1, r, q⟩ => ?_) hst)
 match vs, q with
 |
  [v], q =>
  refine thn (hkw pos pins s1 σ H1 (fun zs H2 => zs = [V.ref f] ∧ maxP X sp Q v H2) I1 ⟨rfl, q⟩) fun ws s2 ⟨zs, H2, I2, rz, ez, q2⟩ => ⟨True.intro, ?_⟩
  subst ez
  obtain ⟨u, rfl, ru⟩ := vals1 r
  obtain ⟨w, rfl, rw⟩ := vals1 rz
  cases rw
  rw [hks]
  obtain ⟨l, y, ys, G, gt, rfl, hl, g1, g2, g3, g4⟩ := q2
  cases ru
  refine max_listK hc hl (.inr ⟨f, rfl, fun pins s σ H' x u Q' E I' sm hx rx hq => ?_⟩) g2 (fun pins s σ H' x y v v' u u' I' sm hx hy gx gy rv rv' => g3 x hx y hy H' v v' sm gx gy pins s σ u u' I' rv rv') I2 g4
  have r2 : Vals [x] [u] := .cons rx .nil
  refine wpAny_call (codeAny_mono (F.run X.A.in1 X.stack s H' ⟨[u], []⟩ [u] [x] (fun w H2 => Same H' H2 ∧ G x H2 w) E0 hr.in1 I'.env0.in1 (by have := hb s [u] I'.kIn rfl; simpa using this) r2 (g1 x hx H' sm)) fun r s' hq' => ?_)
  cases r with
  | error e => exact False.elim hq'
  |
   ok fl =>
   cases fl with
   | ret u => obtain ⟨v, H3, I3, rv, s3, g3⟩ := I'.after hq'; exact ⟨v, H3, I3, rv, hq v H3 s3 g3⟩
   | next => exact False.elim hq'
   | brk => exact False.elim hq'
   | cont => exact False.elim hq'
end
end L2
namespace L2
open PySem PySem.Spec PyProof.Rows PySem.SeqAt
theorem vals_strs : ∀ {ts : List Str} {us : List Value}, Vals (ts.map V.str) us → StrsAre us ts
 | [], _, .nil => .nil
 |
  _ :: _, _, .cons r1 r2 => by
  obtain ⟨t, rfl⟩ := r1
  exact .cons _ t (vals_strs r2)
theorem strs_vals : ∀ {ts : List Str} {us : List Value}, StrsAre us ts → Vals (ts.map V.str) us
 | _, _, .nil => .nil
 | _, _, .cons y t h => .cons ⟨t, rfl⟩ (strs_vals h)
section
variable {X : Cx}
theorem call_sortedT : CallR X (.builtin "sorted") (fun xs H Q => ∃ (p : Addr) (ts : List Str), xs = [.ref p] ∧ H p = some (.lst (ts.map V.str)) ∧ ts.length < 64 ∧
  ∀ (D : Addr) (ms : List Str), H D = none → ms.Perm ts → sortedS ms = true → Q (.ref D) (upd H D (.lst (ms.map V.str)))) := by
 intro pins s σ H xs us Q I r h
 obtain ⟨p, ts, rfl, hp, h64, q⟩ := h
 obtain ⟨u, rfl, ru⟩ := vals1 r
 cases ru
 obtain ⟨its, rv, pl, hz⟩ := I.list (SqL.of (K := X.K) hp)
 have hi := vals_strs rv
 have hl := rv.length
 rw [List.length_map] at hl
 refine sorted_strs (vs := its) pl.isList hi (by omega) fun out ms a1 a2 a3 => ?_
 obtain ⟨c, hc⟩ := sortedAll_at s.heap its out
 have hn : H (s.heap.objs.size + 1) = none := I.hok.fresh (Nat.le_succ _)
 refine ⟨.ref (s.heap.objs.size + 1), _, I.laid (t' := s.toks) (o := .lst (ms.map V.str)) (fun b o => sortedAll_old) (Nat.le_succ _) ?_, rfl, q _ ms hn a2 a3⟩
 exact ⟨by rw [List.length_map, a2.length_eq, sizeLine_eq]; omega, out.toList, c, strs_vals a1, by rw [Array.toArray_toList]; exact hc⟩
theorem op_eqW (hu : X.A.units + 1 < cLine) : OpR X (compareOp .Eq) (fun x y H Q => ∃ t, y = .str t ∧ ((rEq x y H Q) ∨ ∃ a xs, x = .ref a ∧ H a = some (.tup xs) ∧ Q (.bl false) H)) := by
 intro pins s σ H x y v u Q I rx ry h
 obtain ⟨t, rfl, h | ⟨a, xs, rfl, ha, q⟩⟩ := h
 · exact op_eq pins s σ H _ _ v u Q I rx ry h
 ·
  cases rx
  obtain ⟨tk, rfl⟩ := ry
  obtain ⟨its, r1, p1, _⟩ := I.tuple (SqT.of (K := X.K) ha)
  exact RcAt.tuple_str t tk p1 (by omega) X.prog X.w X.xe _ ⟨.bl false, H, I, rfl, q⟩
end
end L2
namespace HT
open PySem PySem.Spec PyProof.Rows
section
variable {prog : Program} {w : World} {A : Around} {E : Value → Shared → Prop} {s : Shared}
theorem getItem_tuple_whole {t sl : Addr} {items : Array Value} {vl vu : Value} {lo hi : Option Int} {Q : Value → Shared → Prop} (ht : IsTup s.heap t items) (hs : s.heap.IsSliceOf sl vl vu .none) (pl : IsPart vl lo) (pu : IsPart vu hi)
  (hw : sIx items.size 0 lo = 0 ∧ sIx items.size items.size hi = items.size) (h : Q (.ref t) s) : wpAny (model prog w) A (getItem (.ref t) (.ref sl)) Q E s := by
 obtain ⟨os, hos, hcs, hds⟩ := id hs
 have hTs : s.TypeIs (.ref sl) "slice" := ⟨os, hos, hcs⟩
 unfold getItem
 try with_reducible refine wpAny_holding ?_
 first | refine wpAny_bind (wpAny_pure ?_) | skip
 refine wpAny_bind (wpAny_sequenceKey ht.typeIs (by decide) ?_)
 refine wpAny_bind (wpAny_callSpecial?_slot (name := Str.ofString "__getitem__") ht.typeIs PyProof.Rows.slot_tuple_getitem
  (wpAny_call_entry PyProof.Rows.slot_tuple_getitem ht.typeIs entry_tuple_getitem ?_ (args_tuple_getitem _ _)))
 show wpAny _ _ (Builtin.Tuple.tupleItemsOf (.ref t) >>= _) _ _ s
 refine wpAny_bind (tupleItemsOf_ ht ?_)
 refine wpAny_bind (wpAny_typeOf hTs ?_)
 rw [if_pos (by decide)]
 refine wpAny_bind (sliceApplied_gen hs pl pu ?_)
 have hyes : (((sIx items.size 0 lo : Nat) : Int) == 0 && (1 : Int) == 1 && (sIx items.size items.size hi - sIx items.size 0 lo) == items.size) = true := by
  rw [hw.1, hw.2, Nat.sub_zero]
  simp
 show wpAny _ _ (if (((sIx items.size 0 lo : Nat) : Int) == 0 && (1 : Int) == 1 && (sIx items.size items.size hi - sIx items.size 0 lo) == items.size) = true then _ else _) _ _ s
 rw [if_pos hyes]
 unfold Builtin.Tuple.tupleIsExact
 refine wpAny_bind (wpAny_bind (wpAny_typeOf ht.typeIs (wpAny_pure ?_)))
 rw [if_pos (by decide)]
 first
  | exact wpAny_bind (wpAny_pure (wpAny_pure ⟨_, rfl, wpAny_pure h⟩))
  | exact wpAny_bind (wpAny_rule (wpAny_pure ⟨_, rfl, wpAny_pure h⟩))
  | exact wpAny_pure ⟨_, rfl, wpAny_pure h⟩
end
end HT
namespace L2
open PySem PySem.Spec PyProof.Rows PySem.SeqAt
theorem cutV_all {xs : List V} {lo hi : Option Int} (hw : HT.sIx xs.length 0 lo = 0 ∧ HT.sIx xs.length xs.length hi = xs.length) : cutV xs lo hi = xs := by
 unfold cutV
 rw [hw.1, hw.2, List.drop_zero, Nat.sub_zero, List.take_length]
section
variable {X : Cx}
theorem sl_tupA : SlR X (fun x lo hi H Q => ∃ (a : Addr) (xs : List V), x = .ref a ∧ H a = some (.tup xs) ∧ ∀ p H', Same H H' → H' p = some (.tup (cutV xs lo hi)) → Q (.ref p) H') := by
 intro pins s σ H x v vl vu lo hi sl Q I rx hs pl pu h
 obtain ⟨a, xs, rfl, ha, q⟩ := h
 by_cases hw : HT.sIx xs.length 0 lo = 0 ∧ HT.sIx xs.length xs.length hi = xs.length
 ·
  cases rx
  obtain ⟨its, r, ht, hz⟩ := I.tuple (SqT.of (K := X.K) ha)
  have hlen : its.toArray.size = xs.length := by rw [List.size_toArray]; exact r.length.symm
  refine ⟨"tuple", _, PyProof.Rows.slot_tuple_getitem.lookup, ht.typeIs, ?_⟩
  refine HT.getItem_tuple_whole ht hs pl pu (by rw [hlen]; exact hw) ⟨.ref a, H, I, rfl, q a H (Same.refl _) ?_⟩
  rw [cutV_all hw]
  exact ha
 · exact sl_tup pins s σ H _ v vl vu lo hi sl Q I rx hs pl pu ⟨a, xs, rfl, SqT.of ha, hw, fun p hp => q p _ (same_upd hp) upd_same⟩
end
end L2
namespace HT
open PySem PySem.Spec PyProof.Rows
section
variable {prog : Program} {w : World} {A : Around} {E : Value → Shared → Prop} {s : Shared}
end
end HT
namespace L2
open PySem PySem.Spec PyProof.Rows PySem.SeqAt
section
variable {X : Cx}
end
end L2
namespace L2
open PySem PySem.Spec PyProof.Rows
end L2
namespace DW
open PySem PySem.Spec L2
inductive W where
 | n
 | b (x : Bool)
 | i (z : Int)
 | s (t : Str)
 | ts (l : List Str)
 | ti (z : Int)
section
variable (nm : Str → Bool)
def numW : W → Bool
 | .i _ => true
 | _ => false
def fromW : W → Int → Bool
 | .i z, k => decide (k ≤ z)
 | _, _ => false
def callW : W → Bool
 | .s t => nm t
 | _ => false
def eqS : W → Str → Bool
 | .s t, u => decide (t = u)
 | _, _ => false
def riseS : List Str → Bool
 | x :: y :: r => decide (x.cps.toList < y.cps.toList) && riseS (y :: r)
 | _ => true
def handsW : W → Str → Nat → Bool
 | .ts l, a, k => decide (k ≤ l.length) && decide (l.length ≤ 20) && l.all nm && riseS l && !decide (a ∈ l)
 | _, _, _ => false
def spanW : W → W → Bool
 | .i x, .i y => decide (x < y)
 | _, _ => false
def nmOf : W → Str
 | .s t => t
 | _ => ""
def at_ (ws : List W) (j : Nat) : W := ws.getD j .n
def bidW (ws : List W) : Bool := decide (ws.length = 7) && (fromW (at_ ws 3) 1 && (numW (at_ ws 4) && (numW (at_ ws 5) && (spanW (at_ ws 4) (at_ ws 5) && handsW nm (at_ ws 6) (nmOf (at_ ws 1)) 1))))
def offW (ws : List W) : Bool := decide (ws.length = 4) && fromW (at_ ws 3) 2
def closeW (ws : List W) : Bool := decide (ws.length = 5) && (fromW (at_ ws 3) 1 && handsW nm (at_ ws 4) (nmOf (at_ ws 1)) 0)
def ansW (ws : List W) : Bool := decide (ws.length = 7) && (fromW (at_ ws 3) 1 && (callW nm (at_ ws 4) && (!eqS (at_ ws 4) (nmOf (at_ ws 1)) && (fromW (at_ ws 5) 0 && (eqS (at_ ws 6) "yes" || eqS (at_ ws 6) "no")))))
def kindW (ws : List W) : Bool := if eqS (at_ ws 0) "bid" then bidW nm ws else if eqS (at_ ws 0) "off" then offW ws else if eqS (at_ ws 0) "close" then closeW nm ws else (eqS (at_ ws 0) "answer" && ansW nm ws)
def isL (ws : List W) : Bool := decide (4 ≤ ws.length) && (callW nm (at_ ws 1) && (fromW (at_ ws 2) 0 && kindW nm ws))
end
section
variable {nm : Str → Bool} {ws : List W}
theorem isL_len (h : ¬ 4 ≤ ws.length) : isL nm ws = false := by unfold isL; rw [decide_eq_false h, Bool.false_and]
theorem isL_call (h : callW nm (at_ ws 1) = false) : isL nm ws = false := by unfold isL; rw [h, Bool.false_and, Bool.and_false]
theorem isL_two (h : fromW (at_ ws 2) 0 = false) : isL nm ws = false := by unfold isL; rw [h, Bool.false_and, Bool.and_false, Bool.and_false]
theorem isL_go (h1 : 4 ≤ ws.length) (h2 : callW nm (at_ ws 1) = true) (h3 : fromW (at_ ws 2) 0 = true) : isL nm ws = kindW nm ws := by unfold isL; rw [decide_eq_true h1, h2, h3]; rfl
theorem kind_bid (h : eqS (at_ ws 0) "bid" = true) : kindW nm ws = bidW nm ws := by unfold kindW; rw [if_pos h]
theorem eqS_ne {w : W} {t u : Str} (h : eqS w t = true) (n : t ≠ u) : eqS w u = false := by
 cases w <;> simp only [eqS, Bool.false_eq_true, decide_eq_true_eq] at h ⊢
 subst h
 exact decide_eq_false n
theorem kind_off (h : eqS (at_ ws 0) "off" = true) : kindW nm ws = offW ws := by unfold kindW; rw [if_neg (by rw [eqS_ne h (by decide)]; decide), if_pos h]
theorem kind_close (h : eqS (at_ ws 0) "close" = true) : kindW nm ws = closeW nm ws := by unfold kindW; rw [if_neg (by rw [eqS_ne h (by decide)]; decide), if_neg (by rw [eqS_ne h (by decide)]; decide), if_pos h]
theorem kind_ans (h : eqS (at_ ws 0) "answer" = true) : kindW nm ws = ansW nm ws := by unfold kindW; rw [if_neg (by rw [eqS_ne h (by decide)]; decide), if_neg (by rw [eqS_ne h (by decide)]; decide), if_neg (by rw [eqS_ne h (by decide)]; decide), h, Bool.true_and]
theorem kind_none (h1 : eqS (at_ ws 0) "bid" = false ∨ ws.length ≠ 7) (h2 : eqS (at_ ws 0) "off" = false) (h3 : eqS (at_ ws 0) "close" = false ∨ ws.length ≠ 5) (h4 : eqS (at_ ws 0) "answer" = false ∨ ws.length ≠ 7) : kindW nm ws = false := by
 unfold kindW
 rw [h2]
 by_cases z1 : eqS (at_ ws 0) "bid" = true
 ·
  rw [if_pos z1]
  unfold bidW
  rw [decide_eq_false (h1.resolve_left (by rw [z1]; decide)), Bool.false_and]
 ·
  rw [if_neg z1, if_neg (by decide)]
  by_cases z3 : eqS (at_ ws 0) "close" = true
  ·
   rw [if_pos z3]
   unfold closeW
   rw [decide_eq_false (h3.resolve_left (by rw [z3]; decide)), Bool.false_and]
  ·
   rw [if_neg z3]
   rcases h4 with h4 | h4
   · rw [h4, Bool.false_and]
   ·
    unfold ansW
    rw [decide_eq_false h4, Bool.false_and, Bool.and_false]
theorem num_i {w : W} (h : numW w = true) : ∃ z, w = .i z := by cases w <;> simp only [numW, Bool.false_eq_true] at h; exact ⟨_, rfl⟩
theorem call_s {w : W} (h : callW nm w = true) : ∃ t, w = .s t ∧ nm t = true := by cases w <;> simp only [callW, Bool.false_eq_true] at h; exact ⟨_, rfl, h⟩
end
theorem lt_tot : ∀ {a b : List Nat}, ltCps b a = false → a ≠ b → ltCps a b = true
 | [], [], _, h => absurd rfl h
 | [], _ :: _, _, _ => rfl
 | _ :: _, [], h, _ => by cases h
 |
  x :: a, y :: b, h, hn => by
  simp only [ltCps, Bool.or_eq_false_iff, decide_eq_false_iff_not, Bool.and_eq_false_iff, beq_eq_false_iff_ne] at h
  simp only [ltCps, Bool.or_eq_true, decide_eq_true_eq, Bool.and_eq_true, beq_iff_eq]
  by_cases e : x = y
  ·
   subst e
   refine .inr ⟨rfl, lt_tot (h.2.resolve_left (fun z => z rfl)) (fun z => hn (by rw [z]))⟩
  · exact .inl (by have := h.1; omega)
theorem str_ne {a b : Str} (h : a ≠ b) : a.cps.toList ≠ b.cps.toList := fun z => h (by
 obtain ⟨⟨a⟩⟩ := a
 obtain ⟨⟨b⟩⟩ := b
 simp at z
 rw [z])
theorem rise_of : ∀ {l : List Str}, PyProof.Rows.sortedS l = true → l.Nodup → riseS l = true
 | [], _, _ => rfl
 | [_], _, _ => rfl
 |
  x :: y :: r, h, hn => by
  simp only [PyProof.Rows.sortedS, PyProof.Rows.risingS, Bool.and_eq_true, Bool.not_eq_true'] at h
  have hn2 := (List.nodup_cons.mp hn)
  have hxy : x ≠ y := fun e => hn2.1 (by rw [e]; exact List.mem_cons_self ..)
  have ih := rise_of (l := y :: r) (by simp only [PyProof.Rows.sortedS]; exact h.2) hn2.2
  have h1 := lt_tot h.1 (str_ne hxy)
  rw [PyProof.Rows.ltCps_eq] at h1
  show (decide (x.cps.toList < y.cps.toList) && riseS (y :: r)) = true
  rw [h1, ih]
  rfl
theorem rise_all : ∀ (l : List Str), ((List.range (l.length - 1)).all fun j => decide ((l.getD j "").cps.toList < (l.getD (j + 1) "").cps.toList)) = riseS l
 | [] => rfl
 | [x] => rfl
 |
  x :: y :: r => by
  have ih := rise_all (y :: r)
  show ((List.range (r.length + 1)).all fun j => decide (((x :: y :: r).getD j "").cps.toList < ((x :: y :: r).getD (j + 1) "").cps.toList)) = _
  rw [List.range_succ_eq_map, List.all_cons, List.all_map]
  show (decide (x.cps.toList < y.cps.toList) && _) = (decide (x.cps.toList < y.cps.toList) && riseS (y :: r))
  rw [← ih]
  rfl
end DW
namespace DW
open PySem PySem.Spec L2
def WV (H : Hp) : W → V → Prop
 | .n, v => v = .non
 | .b x, v => v = .bl x
 | .i z, v => v = .int z
 | .s t, v => v = .str t ∧ t.length ≤ 10000
 | .ts l, v => ∃ r, v = .ref r ∧ H r = some (.tup (l.map V.str)) ∧ l.length ≤ 1000 ∧ ∀ t ∈ l, t.length ≤ 10000
 | .ti z, v => ∃ r, v = .ref r ∧ H r = some (.tup [.int z])
theorem WV.up {H H' : Hp} {w : W} {v : V} (h : WV H w v) (s : Same H H') : WV H' w v := by
 cases w with
 | n => exact h
 | b x => exact h
 | i z => exact h
 | s t => exact h
 | ts l => obtain ⟨r, e, h1, h2⟩ := h; exact ⟨r, e, s _ _ h1, h2⟩
 | ti z => obtain ⟨r, e, h1⟩ := h; exact ⟨r, e, s _ _ h1⟩
abbrev PW_ := V × W
def ws (ps : List PW_) : List W := ps.map (·.2)
def vs (ps : List PW_) : List V := ps.map (·.1)
theorem ws_len (ps : List PW_) : (ws ps).length = ps.length := List.length_map ..
theorem vs_len (ps : List PW_) : (vs ps).length = ps.length := List.length_map ..
structure LetAt (H : Hp) (p : Addr) (ps : List PW_) : Prop where
 at_ : H p = some (.tup (vs ps))
 ok : ∀ q ∈ ps, WV H q.2 q.1
 few : ps.length ≤ 1000
theorem LetAt.up {H H' : Hp} {p : Addr} {ps : List PW_} (h : LetAt H p ps) (s : Same H H') : LetAt H' p ps := ⟨s _ _ h.at_, fun q hq => (h.ok q hq).up s, h.few⟩
theorem at_get {ps : List PW_} {j : Nat} (hj : j < ps.length) : ∃ q ∈ ps, ps[j]? = some q ∧ L2.atI (vs ps) (j : Int) = some q.1 ∧ DW.at_ (ws ps) j = q.2 := by
 refine ⟨ps[j], List.getElem_mem hj, List.getElem?_eq_getElem hj, ?_, ?_⟩
 ·
  refine atI_nat ?_
  unfold vs
  rw [List.getElem?_map, List.getElem?_eq_getElem hj]
  rfl
 ·
  unfold DW.at_ ws
  rw [List.getD_eq_getElem?_getD, List.getElem?_map, List.getElem?_eq_getElem hj]
  rfl
theorem LetAt.get {H : Hp} {p : Addr} {ps : List PW_} (h : LetAt H p ps) {j : Nat} (hj : j < ps.length) : ∃ v, L2.atI (vs ps) (j : Int) = some v ∧ WV H (DW.at_ (ws ps) j) v := by
 obtain ⟨q, hq, _, e1, e2⟩ := at_get hj
 exact ⟨q.1, e1, by rw [e2]; exact h.ok q hq⟩
theorem flat_strs (l : List Str) : (l.map V.str).all flatV = true := by rw [List.all_map]; exact List.all_eq_true.mpr fun _ _ => rfl
theorem inV_strs (a : Str) (l : List Str) : inV (.str a) (l.map V.str) = decide (a ∈ l) := by
 unfold inV
 rw [List.any_map, Bool.eq_iff_iff, List.any_eq_true, decide_eq_true_eq]
 constructor
 ·
  rintro ⟨x, hx, e⟩
  have e' : eqV (.str x) (.str a) = true := e
  simp only [eqV, beq_iff_eq] at e'
  rw [← e']
  exact hx
 ·
  intro h
  exact ⟨a, h, by show eqV (.str a) (.str a) = true; simp [eqV]⟩
theorem hands_eq {nm : Str → Bool} {l : List Str} {a : Str} {m : Nat} : handsW nm (.ts l) a m = (decide (m ≤ l.length) && decide (l.length ≤ 20) && l.all nm && riseS l && !decide (a ∈ l)) := rfl
theorem hands_few {nm : Str → Bool} {l : List Str} {a : Str} {m : Nat} (h : l.length < m) : false = handsW nm (.ts l) a m := by rw [hands_eq, decide_eq_false (by omega), Bool.false_and, Bool.false_and, Bool.false_and, Bool.false_and]
theorem hands_many {nm : Str → Bool} {l : List Str} {a : Str} {m : Nat} (h : 20 < l.length) : false = handsW nm (.ts l) a m := by rw [hands_eq, decide_eq_false (p := l.length ≤ 20) (by omega), Bool.and_false, Bool.false_and, Bool.false_and, Bool.false_and]
theorem hands_nm {nm : Str → Bool} {l : List Str} {a : Str} {m : Nat} (h : l.all nm = false) : false = handsW nm (.ts l) a m := by rw [hands_eq, h, Bool.and_false, Bool.false_and, Bool.false_and]
theorem hands_rise {nm : Str → Bool} {l : List Str} {a : Str} {m : Nat} (h : riseS l = false) : false = handsW nm (.ts l) a m := by rw [hands_eq, h, Bool.and_false, Bool.false_and]
theorem hands_go {nm : Str → Bool} {l : List Str} {a : Str} {m : Nat} (h1 : m ≤ l.length) (h2 : l.length ≤ 20) (h3 : l.all nm = true) (h4 : riseS l = true) : handsW nm (.ts l) a m = (!decide (a ∈ l)) := by rw [hands_eq, decide_eq_true h1, decide_eq_true h2, h3, h4, Bool.and_self, Bool.and_self, Bool.and_self, Bool.true_and]
end DW
namespace DW
open PySem PySem.Spec L2
def neF (a : Str) : V → Bool
 | .str t => !decide (t = a)
 | _ => false
theorem fil_strs (ns : List Str) (a : Str) : (((ns.map V.str).filter (neF a)).map fun v => v) = (ns.filter fun t => !decide (t = a)).map V.str := by
 rw [List.map_id', List.filter_map]
 rfl
def Og (AL : List Nat) : W → Prop
 | .i z => -(10 ^ 18) ≤ z ∧ z ≤ 10 ^ 18
 | .s t => (∀ c ∈ t.cps.toList, c ∈ AL) ∧ t.length ≤ 8
 | .ts l => l.length ≤ 22 ∧ ∀ t ∈ l, t.length ≤ 8
 | _ => False
structure LetO (AL : List Nat) (H : Hp) (p : Addr) (ps : List PW_) : Prop where
 is : LetAt H p ps
 og : ∀ q ∈ ps, Og AL q.2
 lo : 4 ≤ ps.length
 hi : ps.length ≤ 7
 one : ∃ a, DW.at_ (ws ps) 1 = .s a
 bid : eqS (DW.at_ (ws ps) 0) "bid" = true → ps.length = 7 ∧ ∃ z, DW.at_ (ws ps) 4 = .i z
theorem LetO.up {AL : List Nat} {H H' : Hp} {p : Addr} {ps : List PW_} (h : LetO AL H p ps) (s : Same H H') : LetO AL H' p ps := ⟨h.is.up s, h.og, h.lo, h.hi, h.one, h.bid⟩
theorem vs_app (a b : List PW_) : vs a ++ vs b = vs (a ++ b) := (List.map_append ..).symm
theorem LetAt.mk' {H : Hp} {p : Addr} {a b : List PW_} (e : H p = some (.tup (vs a ++ vs b))) (ha : ∀ q ∈ a, WV H q.2 q.1) (hb : ∀ q ∈ b, WV H q.2 q.1) (h : a.length + b.length ≤ 1000) : LetAt H p (a ++ b) :=
 ⟨by rw [e, vs_app], fun q hq => (List.mem_append.mp hq).elim (ha q) (hb q), by rw [List.length_append]; exact h⟩
theorem WV.set {H : Hp} {w : W} {v : V} {S : Addr} {xs ys : List V} (h : WV H w v) (hS : H S = some (.lst xs)) : WV (upd H S (.lst ys)) w v := by
 cases w with
 | n => exact h
 | b x => exact h
 | i z => exact h
 | s t => exact h
 |
  ts l =>
  obtain ⟨r, e, h1, h2⟩ := h
  exact ⟨r, e, by rw [upd_ne (fun z => by rw [z, hS] at h1; cases h1)]; exact h1, h2⟩
 |
  ti z =>
  obtain ⟨r, e, h1⟩ := h
  exact ⟨r, e, by rw [upd_ne (fun z => by rw [z, hS] at h1; cases h1)]; exact h1⟩
theorem neg1 {α : Type} {xs : List α} (h : 0 < xs.length) : atI xs (-1) = xs[xs.length - 1]? := by
 unfold atI ixN
 rw [if_neg (by decide), if_pos (by omega)]
 show xs[((-1 : Int) + (xs.length : Int)).toNat]? = _
 rw [show ((-1 : Int) + (xs.length : Int)).toNat = xs.length - 1 by omega]
theorem some_not {ns : List Str} (h2 : 2 ≤ ns.length) (hn : ns.Nodup) (a : Str) : 0 < (ns.filter fun t => !decide (t = a)).length := by
 match ns, h2, hn with
 |
  x :: y :: r, _, hn =>
  have hxy : x ≠ y := fun e => (List.nodup_cons.mp hn).1 (by rw [e]; exact List.mem_cons_self ..)
  apply List.length_pos_of_mem (a := if x = a then y else x)
  rw [List.mem_filter]
  by_cases e : x = a
  ·
   rw [if_pos e]
   exact ⟨by simp, by simp; exact fun z => hxy (e.trans z.symm)⟩
  ·
   rw [if_neg e]
   exact ⟨by simp, by simp [e]⟩
end DW
namespace DW
open PySem PySem.Spec L2
def TS (H : Hp) (r : Addr) : Prop := ∃ l : List Str, H r = some (.tup (l.map V.str)) ∧ l.length ≤ 100 ∧ ∀ t ∈ l, t.length ≤ 10000
theorem TS.up {H H' : Hp} {r : Addr} (h : TS H r) (s : Same H H') : TS H' r := by
 obtain ⟨l, e, h1, h2⟩ := h
 exact ⟨l, s _ _ e, h1, h2⟩
theorem TS.wv {H : Hp} {r : Addr} (h : TS H r) : ∃ w, WV H w (.ref r) := by
 obtain ⟨l, e, h1, h2⟩ := h
 exact ⟨.ts l, r, rfl, e, by omega, h2⟩
def Mx (H : Hp) (S : Addr) : Prop := ∃ xs, H S = some (.lst xs) ∧ xs.length = 12 ∧ ∀ x ∈ xs, ∃ w, WV H w x
theorem Mx.up {H H' : Hp} {S : Addr} (h : Mx H S) (s : Same H H') : Mx H' S := by
 obtain ⟨xs, e, h1, h2⟩ := h
 exact ⟨xs, s _ _ e, h1, fun x hx => (h2 x hx).imp fun w hw => hw.up s⟩
theorem Mx.put {H : Hp} {S : Addr} {xs : List V} {v : V} (e : H S = some (.lst xs)) (h1 : xs.length = 12) (h2 : ∀ x ∈ xs, ∃ w, WV H w x) (hv : ∃ w, WV H w v) : Mx (upd H S (.lst (xs.set 11 v))) S :=
 ⟨xs.set 11 v, upd_same, by rw [List.length_set]; exact h1, fun x hx => by
  rcases List.mem_or_eq_of_mem_set hx with hx | rfl
  · exact (h2 x hx).imp fun w hw => hw.set e
  · exact hv.imp fun w hw => hw.set e⟩
end DW
namespace DW
open PySem PySem.Spec L2
theorem LetO.last {AL : List Nat} {H : Hp} {p : Addr} {ps : List PW_} (h : LetO AL H p ps) : ∃ v w, L2.atI (vs ps) (-1) = some v ∧ WV H w v ∧ Og AL w := by
 have h4 := h.lo
 obtain ⟨q, hq, e, _⟩ := at_get (ps := ps) (j := ps.length - 1) (by omega)
 refine ⟨q.1, q.2, ?_, h.is.ok q hq, h.og q hq⟩
 rw [neg1 (by rw [vs_len]; omega), vs_len]
 unfold vs
 rw [List.getElem?_map, e]
 rfl
end DW
namespace L2
open PySem PySem.Spec PyProof.Rows PySem.SeqAt DX DW
inductive Lt where
 | bid (a : Str) (n t b e : Int) (hs : List Str)
 | off (a : Str) (n t : Int)
 | close (a : Str) (n t : Int) (hs : List Str)
 | ans (a : Str) (n t : Int) (h : Str) (g : Int) (w : Str)
abbrev nS (x : Str) : NK := .inl (.inr x)
abbrev nI (i : Int) : NK := .inl (.inl i)
abbrev nT (l : List Str) : NK := .inr (l.map Sum.inr)
def Lt.nk : Lt → List NK
 | .bid a n t b e hs => [nS "bid", nS a, nI n, nI t, nI b, nI e, nT hs]
 | .off a n t => [nS "off", nS a, nI n, nI t]
 | .close a n t hs => [nS "close", nS a, nI n, nI t, nT hs]
 | .ans a n t h g w => [nS "answer", nS a, nI n, nI t, nS h, nI g, nS w]
def Lt.ws : Lt → List W
 | .bid a n t b e hs => [.s "bid", .s a, .i n, .i t, .i b, .i e, .ts hs]
 | .off a n t => [.s "off", .s a, .i n, .i t]
 | .close a n t hs => [.s "close", .s a, .i n, .i t, .ts hs]
 | .ans a n t h g w => [.s "answer", .s a, .i n, .i t, .s h, .i g, .s w]
def Lt.asker : Lt → Str
 | .bid a .. => a
 | .off a .. => a
 | .close a .. => a
 | .ans a .. => a
def Lt.number : Lt → Int
 | .bid _ n .. => n
 | .off _ n _ => n
 | .close _ n .. => n
 | .ans _ n .. => n
def Lt.turn : Lt → Int
 | .bid _ _ t .. => t
 | .off _ _ t => t
 | .close _ _ t _ => t
 | .ans _ _ t .. => t
def Lt.kind : Lt → Str
 | .bid .. => "bid"
 | .off .. => "off"
 | .close .. => "close"
 | .ans .. => "answer"
def LtVs (H : Hp) : Lt → List V → Prop
 | .bid a n t b e hs, vs => ∃ q, vs = [.str "bid", .str a, .int n, .int t, .int b, .int e, .ref q] ∧ H q = some (.tup (hs.map V.str))
 | .off a n t, vs => vs = [.str "off", .str a, .int n, .int t]
 | .close a n t hs, vs => ∃ q, vs = [.str "close", .str a, .int n, .int t, .ref q] ∧ H q = some (.tup (hs.map V.str))
 | .ans a n t h g w, vs => vs = [.str "answer", .str a, .int n, .int t, .str h, .int g, .str w]
def LtAt (H : Hp) (l : Lt) (p : Addr) : Prop := ∃ vs, H p = some (.tup vs) ∧ LtVs H l vs
theorem LtAt.up {H H' : Hp} {l : Lt} {p : Addr} (h : LtAt H l p) (s : Same H H') : LtAt H' l p := by
 obtain ⟨vs, hp, r⟩ := h
 refine ⟨vs, s _ _ hp, ?_⟩
 cases l with
 | bid => obtain ⟨q, e, h⟩ := r; exact ⟨q, e, s _ _ h⟩
 | off => exact r
 | close => obtain ⟨q, e, h⟩ := r; exact ⟨q, e, s _ _ h⟩
 | ans => exact r
theorem hs_key (hs : List Str) : (hs.map (Sum.inr : Str → Key)).map kV = hs.map V.str := by rw [List.map_map]; rfl
theorem LtAt.nk {H : Hp} {l : Lt} {p : Addr} (h : LtAt H l p) : NkAt H l.nk p := by
 obtain ⟨vs, hp, r⟩ := h
 cases l with
 | bid a n t b e hs => obtain ⟨q, rfl, h⟩ := r; exact ⟨_, hp, .cons rfl (.cons rfl (.cons rfl (.cons rfl (.cons rfl (.cons rfl (.cons ⟨q, rfl, by rw [hs_key]; exact h⟩ .nil))))))⟩
 | off a n t => cases r; exact ⟨_, hp, .cons rfl (.cons rfl (.cons rfl (.cons rfl .nil)))⟩
 | close a n t hs => obtain ⟨q, rfl, h⟩ := r; exact ⟨_, hp, .cons rfl (.cons rfl (.cons rfl (.cons rfl (.cons ⟨q, rfl, by rw [hs_key]; exact h⟩ .nil))))⟩
 | ans a n t h g w => cases r; exact ⟨_, hp, .cons rfl (.cons rfl (.cons rfl (.cons rfl (.cons rfl (.cons rfl (.cons rfl .nil))))))⟩
theorem okT_strs : ∀ (a b : List Str), okT (a.map Sum.inr) (b.map Sum.inr) = true
 | [], _ => rfl
 | _ :: _, [] => rfl
 |
  x :: a, y :: b => by
  show (if (Sum.inr x : Key) = Sum.inr y then okT (a.map Sum.inr) (b.map Sum.inr) else okK (.inr x) (.inr y)) = true
  split
  · exact okT_strs a b
  · rfl
theorem okL_cons {x y : NK} {xs ys : List NK} (h1 : okN x y = true) (h2 : okL xs ys = true) : okL (x :: xs) (y :: ys) = true := by
 show (if x = y then okL xs ys else okN x y) = true
 split
 · exact h2
 · exact h1
theorem okL_ne {x y : NK} {xs ys : List NK} (h1 : okN x y = true) (h2 : x ≠ y) : okL (x :: xs) (y :: ys) = true := by
 show (if x = y then okL xs ys else okN x y) = true
 rw [if_neg h2]
 exact h1
theorem Lt.ok (l l' : Lt) : okL l.nk l'.nk = true := by
 cases l <;> cases l' <;> first
  | exact okL_ne rfl (by decide)
  | exact okL_cons rfl (okL_cons rfl (okL_cons rfl (okL_cons rfl rfl)))
  | exact okL_cons rfl (okL_cons rfl (okL_cons rfl (okL_cons rfl (okL_cons (okT_strs _ _) rfl))))
  | exact okL_cons rfl (okL_cons rfl (okL_cons rfl (okL_cons rfl (okL_cons rfl (okL_cons rfl (okL_cons rfl rfl))))))
  | exact okL_cons rfl (okL_cons rfl (okL_cons rfl (okL_cons rfl (okL_cons rfl (okL_cons rfl (okL_cons (okT_strs _ _) rfl))))))
theorem Lt.fst (l : Lt) : StrFst l.nk := by cases l <;> exact ⟨_, _, rfl⟩
def LtSz : Lt → Prop
 | .bid a _ _ _ _ hs => a.length ≤ 10000 ∧ hs.length ≤ 1000 ∧ ∀ t ∈ hs, t.length ≤ 10000
 | .off a _ _ => a.length ≤ 10000
 | .close a _ _ hs => a.length ≤ 10000 ∧ hs.length ≤ 1000 ∧ ∀ t ∈ hs, t.length ≤ 10000
 | .ans a _ _ h _ w => a.length ≤ 10000 ∧ h.length ≤ 10000 ∧ w.length ≤ 10000
theorem LtAt.letAt {H : Hp} {l : Lt} {p : Addr} (h : LtAt H l p) (z : LtSz l) : ∃ ps, LetAt H p ps ∧ DW.ws ps = l.ws := by
 obtain ⟨vs, hp, r⟩ := h
 have all : ∀ {ps : List PW_} (h : DW.vs ps = vs), (∀ q ∈ ps, WV H q.2 q.1) → ps.length ≤ 1000 → LetAt H p ps := fun e h1 h2 => ⟨by rw [e]; exact hp, h1, h2⟩
 cases l with
 |
  bid a n t b e hs =>
  obtain ⟨q, rfl, h⟩ := r
  refine ⟨[(.str "bid", .s "bid"), (.str a, .s a), (.int n, .i n), (.int t, .i t), (.int b, .i b), (.int e, .i e), (.ref q, .ts hs)], all rfl ?_ (by show 7 ≤ 1000; decide), rfl⟩
  simp only [List.mem_cons, List.not_mem_nil, or_false, forall_eq_or_imp, forall_eq]
  exact ⟨⟨rfl, by decide +kernel⟩, ⟨rfl, z.1⟩, rfl, rfl, rfl, rfl, q, rfl, h, z.2⟩
 |
  off a n t =>
  cases r
  refine ⟨[(.str "off", .s "off"), (.str a, .s a), (.int n, .i n), (.int t, .i t)], all rfl ?_ (by show 4 ≤ 1000; decide), rfl⟩
  simp only [List.mem_cons, List.not_mem_nil, or_false, forall_eq_or_imp, forall_eq]
  exact ⟨⟨rfl, by decide +kernel⟩, ⟨rfl, z⟩, rfl, rfl⟩
 |
  close a n t hs =>
  obtain ⟨q, rfl, h⟩ := r
  refine ⟨[(.str "close", .s "close"), (.str a, .s a), (.int n, .i n), (.int t, .i t), (.ref q, .ts hs)], all rfl ?_ (by show 5 ≤ 1000; decide), rfl⟩
  simp only [List.mem_cons, List.not_mem_nil, or_false, forall_eq_or_imp, forall_eq]
  exact ⟨⟨rfl, by decide +kernel⟩, ⟨rfl, z.1⟩, rfl, rfl, q, rfl, h, z.2⟩
 |
  ans a n t h g w =>
  cases r
  refine ⟨[(.str "answer", .s "answer"), (.str a, .s a), (.int n, .i n), (.int t, .i t), (.str h, .s h), (.int g, .i g), (.str w, .s w)], all rfl ?_ (by show 7 ≤ 1000; decide), rfl⟩
  simp only [List.mem_cons, List.not_mem_nil, or_false, forall_eq_or_imp, forall_eq]
  exact ⟨⟨rfl, by decide +kernel⟩, ⟨rfl, z.1⟩, rfl, rfl, ⟨rfl, z.2.1⟩, rfl, ⟨rfl, z.2.2⟩⟩
theorem LtVs.four {H : Hp} {l : Lt} {vs : List V} (h : LtVs H l vs) : ∃ r, vs = .str l.kind :: .str l.asker :: .int l.number :: .int l.turn :: r := by
 cases l with
 | bid => obtain ⟨q, rfl, _⟩ := h; exact ⟨_, rfl⟩
 | off => cases h; exact ⟨_, rfl⟩
 | close => obtain ⟨q, rfl, _⟩ := h; exact ⟨_, rfl⟩
 | ans => cases h; exact ⟨_, rfl⟩
end L2
namespace L2
open PySem PySem.Spec PyProof.Rows PySem.SeqAt DX DW
structure LtsAt (H : Hp) (l : Addr) (ms : List (Lt × Addr)) : Prop where
 at_ : H l = some (.lst (ms.map fun x => V.ref x.2))
 ok : ∀ x ∈ ms, LtAt H x.1 x.2
 few : ms.length ≤ 1000
def nks (ms : List (Lt × Addr)) : List (List NK × Addr) := ms.map fun x => (x.1.nk, x.2)
theorem nks_refs (ms : List (Lt × Addr)) : ((nks ms).map fun x => V.ref x.2) = ms.map fun x => V.ref x.2 := by unfold nks; rw [List.map_map]; rfl
theorem nks_ok {H : Hp} {ms : List (Lt × Addr)} (h : ∀ x ∈ ms, LtAt H x.1 x.2) : ∀ x ∈ nks ms, NkAt H x.1 x.2 := fun x hx => by
 obtain ⟨y, hy, rfl⟩ := List.mem_map.mp hx
 exact (h y hy).nk
theorem vals_refN : ∀ {ms : List (List NK × Addr)} {us : List Value}, Vals (ms.map fun x => V.ref x.2) us → us = ms.map fun x => Value.ref x.2
 | [], _, .nil => rfl
 | _ :: _, _, .cons r1 r2 => by rw [show _ = Value.ref _ from r1, vals_refN r2]; rfl
section
variable {X : Cx}
theorem in_facts {A : Around} {pins : List (Addr × Obj)} {σ : St} {H : Hp} {s : Shared} {p l : Addr} {ks : List NK} {ms : List (List NK × Addr)} (hu : A.units + 2 < cLine) (I : Inv X pins σ H s) (hp : NkAt H ks p) (hl : H l = some (.lst (ms.map fun x => V.ref x.2))) (ok : ∀ x ∈ ms, NkAt H x.1 x.2) :
  ∃ (items : Array Value) (e : Value → Bool), s.heap.IsList l items ∧ (∀ y, y ∈ items → EqAt A.in1 s y (.ref p) (e y)) ∧ items.any e = hasK ms ks := by
 obtain ⟨its, rv, pl, hz⟩ := I.list (SqL.of (K := X.K) hl)
 have e := vals_refN rv
 subst e
 refine ⟨_, fun v => decide (nkOf X.prog X.w s.heap v = ks), pl.isList, fun y hy => ?_, ?_⟩
 ·
  obtain ⟨x, hx, rfl⟩ := List.mem_map.mp (show y ∈ ms.map fun x => Value.ref x.2 by simpa using hy)
  have := eq_nest (A := A.in1) (s := s) (by show A.units + 1 + 1 < cLine; omega) (nest_ok I.hok (ok x hx)) (nest_ok I.hok hp)
  show EqAt A.in1 s _ _ (decide (nkOf X.prog X.w s.heap (.ref x.2) = ks))
  rw [nkOf_at (nest_ok I.hok (ok x hx))]
  exact this
 ·
  rw [List.any_toArray, List.any_map]
  unfold hasK
  refine Bool.eq_iff_iff.mpr ?_
  rw [List.any_eq_true, List.any_eq_true]
  constructor
  ·
   rintro ⟨x, hx, z⟩
   exact ⟨x, hx, by have z' : decide (nkOf X.prog X.w s.heap (.ref x.2) = ks) = true := z; rw [nkOf_at (nest_ok I.hok (ok x hx))] at z'; exact z'⟩
  ·
   rintro ⟨x, hx, z⟩
   refine ⟨x, hx, ?_⟩
   show decide (nkOf X.prog X.w s.heap (.ref x.2) = ks) = true
   rw [nkOf_at (nest_ok I.hok (ok x hx))]
   exact z
abbrev rInN (b : Bool) (x y : V) (H : Hp) (Q : VK) : Prop := ∃ (p l : Addr) (ks : List NK) (ms : List (List NK × Addr)), x = .ref p ∧ y = .ref l ∧ NkAt H ks p ∧ H l = some (.lst (ms.map fun x => V.ref x.2)) ∧ (∀ x ∈ ms, NkAt H x.1 x.2) ∧ Q (.bl (b != hasK ms ks)) H
theorem op_notinN (hu : X.A.units + 2 < cLine) : OpR X (compareOp .NotIn) (rInN true) := by
 intro pins s σ H x y v u Q I rx ry h
 obtain ⟨p, l, ks, ms, rfl, rfl, hp, hl, ok, q⟩ := h
 cases rx
 cases ry
 obtain ⟨items, e, h1, h2, h3⟩ := in_facts hu I hp hl ok
 refine notIn_listAt e h1 h2 ⟨.bl _, H, I, rfl, ?_⟩
 rw [h3]
 cases hk : hasK ms ks <;> rw [hk] at q <;> exact q
theorem gtv_nest {H : Hp} {ks ks' : List NK} {p q : Addr} (hu : X.A.units + 2 < cLine) (h : NkAt H ks p) (h' : NkAt H ks' q) (ok : okL ks ks' = true) : GtV X H (.ref p) (.ref q) (ltL ks' ks) := by
 intro pins s σ u u' I r r'
 cases r
 cases r'
 exact cmp_nest (op := .Gt) (.inr rfl) (A := X.A.in1) hu (nest_ok I.hok h) (nest_ok I.hok h') ok
def gtTurn (a b : Int × List NK) : Bool := decide (b.1 < a.1) || (decide (a.1 = b.1) && ltL b.2 a.2)
theorem gtv_turn {H : Hp} {t t' : Int} {ks ks' : List NK} {p q p0 q0 : Addr} (hu : X.A.units + 3 < cLine) (hp : H p0 = some (.tup [.int t, .ref p])) (hq : H q0 = some (.tup [.int t', .ref q])) (h : NkAt H ks p) (h' : NkAt H ks' q) (ok : okL ks ks' = true) : GtV X H (.ref p0) (.ref q0) (gtTurn (t, ks) (t', ks')) := by
 intro pins s σ u u' I r r'
 cases r
 cases r'
 obtain ⟨its, rv, tp, _⟩ := I.tuple (SqT.of (K := X.K) hp)
 obtain ⟨its', rv', tq, _⟩ := I.tuple (SqT.of (K := X.K) hq)
 cases rv with
 | cons r1 rv =>
 cases rv with
 | cons r2 rv =>
 cases rv
 cases rv' with
 | cons r1' rv' =>
 cases rv' with
 | cons r2' rv' =>
 cases rv'
 obtain ⟨tk, rfl⟩ := r1
 obtain ⟨tk', rfl⟩ := r1'
 cases r2
 cases r2'
 refine CmpAt.gtT tp tq (by show X.A.units + 1 < cLine; omega) ?_
 show LexAt .Gt X.A.in1.in1 s [.int t tk, .ref p] [.int t' tk', .ref q] (decide (t' < t) || (decide (t = t') && ltL ks' ks))
 have he := eq_key (A := X.A.in1.in1) (s := s) (k := .inl t) (k' := .inl t') (u := .int t tk) (u' := .int t' tk') (keyIs_int t tk) (keyIs_int t' tk')
 by_cases e : t = t'
 ·
  subst e
  rw [decide_eq_true rfl] at he
  rw [decide_eq_false (Int.lt_irrefl _), decide_eq_true rfl, Bool.false_or, Bool.true_and]
  refine .eq he ?_
  have hn := eq_nest (A := X.A.in1.in1) (s := s) hu (nest_ok I.hok h) (nest_ok I.hok h')
  by_cases ek : ks = ks'
  ·
   subst ek
   rw [decide_eq_true rfl] at hn
   rw [ltL_lin.irr]
   exact .eq hn (.fin (.inl rfl))
  ·
   rw [decide_eq_false ek] at hn
   exact .ne hn (cmp_nest (op := .Gt) (.inr rfl) (A := X.A.in1.in1) hu (nest_ok I.hok h) (nest_ok I.hok h') ok)
 ·
  rw [decide_eq_false (fun z => e (Sum.inl.inj z))] at he
  rw [decide_eq_false e, Bool.false_and, Bool.or_false]
  exact .ne he (cmp_key (op := .Gt) (.inr rfl) (k := .inl t) (k' := .inl t') (keyIs_int t tk) (keyIs_int t' tk') rfl)
theorem gtv_key {H : Hp} {ks ks' : List Key} {p q : Addr} (hu : X.A.units + 2 < cLine) (hp : H p = some (.tup (ks.map kV))) (hq : H q = some (.tup (ks'.map kV))) (ok : okT ks ks' = true) : GtV X H (.ref p) (.ref q) (lexB ltK ks' ks) := by
 intro pins s σ u u' I r r'
 cases r
 cases r'
 obtain ⟨xs, t1, i1⟩ := itk_tup (key_of I.hok hp)
 obtain ⟨ys, t2, i2⟩ := itk_tup (key_of I.hok hq)
 exact CmpAt.gtT t1 t2 (by show X.A.units + 1 < cLine; omega) (lex_keys (op := .Gt) (.inr rfl) i1 i2 ok)
theorem call_maxN (hc : X.calm = true) : CallR X (.builtin "max") (fun xs H Q => ∃ (l : Addr) (y : V) (ys : List V) (gt : V → V → Bool), xs = [.ref l] ∧ H l = some (.lst (y :: ys)) ∧ (∀ z ∈ y :: ys, ∀ z' ∈ y :: ys, ∀ H', Same H H' → GtV X H' z z' (gt z z')) ∧ ∀ H', Same H H' → Q (maxBy gt y ys) H') := by
 intro pins s σ H xs us Q I r h
 obtain ⟨l, y, ys, gt, rfl, hl, g, q⟩ := h
 obtain ⟨u, rfl, ru⟩ := vals1 r
 cases ru
 exact max_listN hc hl (fun pins s σ H' x y v v' u u' I' sm hx hy e1 e2 r1 r2 => by subst e1 e2; exact g _ hx _ hy H' sm pins s σ u u' I' r1 r2) I q
theorem call_max2N (hc : X.calm = true) : CallR X (.builtin "max") (fun xs H Q => ∃ (x y : V) (gt : V → V → Bool), xs = [x, y] ∧ (∀ z ∈ [x, y], ∀ z' ∈ [x, y], ∀ H', Same H H' → GtV X H' z z' (gt z z')) ∧ ∀ H', Same H H' → Q (if gt y x then y else x) H') := by
 intro pins s σ H xs us Q I r h
 obtain ⟨x, y, gt, rfl, g, q⟩ := h
 cases r with
 | cons r1 r =>
 cases r with
 | cons r2 r =>
 cases r
 exact max_twoN hc r1 r2 (fun H1 s1 pins s σ H' x y v v' u u' I' sm hx hy e1 e2 ra rb => by subst e1 e2; exact g _ hx _ hy H' (s1.trans sm) pins s σ u u' I' ra rb) I q
end
end L2
namespace L2
open PySem PySem.Spec PyProof.Rows
section
variable {prog : Program} {w : World} {K : Type} [DecidableEq K] {knd : HeapKind prog w K} {A : Around} {E : Value → Shared → Prop} {s : Shared}
theorem setDefault_heap {d a : Addr} {xs : List (K × Addr × Value)} {k : K} {v : Value} {Q : Value → Shared → Prop} (hu : knd.room A) (hkey : knd.is s.heap k a) (hm : s.heap.DictOfH knd d xs) (hsz : xs.length ≤ sizeLine)
  (h1 : ∀ p, atKey xs k = some p → Q p.2 { s with toks := s.toks + knd.draws k })
  (h2 : atKey xs k = none → ∀ h', h'.DictOfH knd d (xs ++ [(k, a, v)]) → Heap.SameBut d s.heap h' → Q v { s with heap := h', toks := s.toks + knd.draws k }) :
  wpAny (model prog w) A (dictSetDefault d (.ref a) v) Q E s := by
 obtain ⟨o, es, ep, ho, hc, hd, he, his, hn⟩ := hm
 unfold dictSetDefault
 try with_reducible refine wpAny_holding ?_
 refine wpAny_bind (knd.pyHash hu hkey (wpAny_bind (wpAny_dictFind_heap (s := { s with toks := s.toks + knd.draws k }) hu hkey ho hd he his hn ?_ ?_)))
 ·
  intro hno
  have hnot : k ∉ xs.map (·.1) := not_mem_keys_of_get hno
  refine wpAny_bind (wpAny_rule (wpAny_bind (wpAny_updateDictKeys (hz := by have e := size_of_entries he; omega) (s := { s with toks := s.toks + knd.draws k }) ho hd (wpAny_pure (h2 (atKey_none_of_get hno) _ ⟨_, _, ep + 1, Heap.get?_update_self _ ho (Obj.isFreed_of_dict (Obj.data_mapDictKeys hd _)),
   hc.mapDictKeys _, Obj.data_mapDictKeys hd _, by simp [he, entryOfKey], fun x hx => ?_, ?_⟩ (Heap.SameBut.update ..))))))
  ·
   rcases List.mem_append.mp hx with hx | hx
   · exact knd.keeps (his x hx) ho hd (Heap.SameBut.update ..)
   ·
    rw [List.mem_singleton] at hx
    subst hx
    exact knd.keeps hkey ho hd (Heap.SameBut.update ..)
  ·
   rw [List.map_append, List.nodup_append]
   refine ⟨hn, by simp, fun x hx y hy => ?_⟩
   simp only [List.map_cons, List.map_nil, List.mem_singleton] at hy
   subst hy
   exact fun e => hnot (e ▸ hx)
 ·
  intro j p hj
  refine wpAny_bind (wpAny_dictEntries (s := { s with toks := s.toks + knd.draws k }) ho hd ?_)
  rw [entry_at he j, hj]
  exact wpAny_bind (wpAny_rule (wpAny_pure (h1 p (atKey_of_get hn hj))))
end
section
variable {X : Cx}
theorem mt_setdef (hu : X.A.units + 1 < cLine) : MtR X "dict.setdefault" (fun x xs H Q => ∃ (a b : Addr) (kvs : List (List Key × V)) (k : List Key) (v : V), x = .ref a ∧ xs = [.ref b, v] ∧ H a = some (.dT kvs) ∧ H b = some (.tup (k.map kV)) ∧ kvs.length < sizeLine ∧
  ((∃ w, valV kvs k = some w ∧ Q w H) ∨ (valV kvs k = none ∧ Q v (upd H a (.dT (putK kvs k v)))))) := by
 intro pins s σ H x xs v us Q I rx r h
 obtain ⟨a, b, kvs, k, v0, rfl, rfl, ha, hb, hl, h⟩ := h
 cases rx
 cases r with
 | cons r1 r =>
 cases r with
 | @cons _ u2 _ _ r2 r =>
 cases r
 cases r1
 obtain ⟨z, hd, ys, rel, dd⟩ := dt_of I.hok ha
 have hz : ys.length ≤ sizeLine := by rw [← Paired.length rel]; exact z
 refine wpAny_call_entry PySem.F.slot_dict_setdefault dd.typeIs PySem.F.entry_dict_setdefault ?_ (PySem.F.args_dict_setdefault_3 _ _ _)
 unfold Builtin.«dict.setdefault»
 refine wpAny_bind ?_
 unfold Builtin.Dict.keyAndDefault
 refine wpAny_bind (wpAny_notOrdered_dict dd.typeIs ?_)
 show wpAny _ _ (pure (a, Value.ref b, some u2)) _ _ s
 refine wpAny_pure ?_
 show wpAny _ _ (if (a == sysModules) = true then _ else (dictSetDefault a (.ref b) u2 >>= _)) _ _ s
 rw [if_neg (by rw [hd]; exact Bool.false_ne_true)]
 refine wpAny_bind (setDefault_heap (knd := tupleKind (mixKind X.prog X.w)) (tupleKind_room_in1 hu) (key_of I.hok hb) dd hz (fun p hp => ?_) fun hno h' dd' hs => ?_)
 ·
  have rv := rel.val k
  rw [hp] at rv
  rcases h with ⟨w, e, q⟩ | ⟨e, _⟩
  ·
   rw [e] at rv
   exact wpAny_pure ⟨_, rfl, w, H, I.tok _, rv, q⟩
  ·
   rw [e] at rv
   exact rv.elim
 ·
  have rv := rel.val k
  rw [hno] at rv
  rcases h with ⟨w, e, q⟩ | ⟨e, q⟩
  ·
   rw [e] at rv
   exact rv.elim
  ·
   obtain ⟨o, es, ep, hq, h2, h3, h4, _, h5⟩ := dd'
   have st : storedH ys k b u2 = ys ++ [(k, b, u2)] := storedH_new hno b u2
   have hl' : (putK kvs k v0).length ≤ sizeLine := by have := length_putK kvs k v0; omega
   refine wpAny_pure ⟨_, rfl, v0, _, d_write (ob := .dT (putK kvs k v0)) I (by rw [ha]; exact True.intro) hs ⟨o, hq⟩ ⟨hl', hd, _, (rel.put k hb r2).keeps fun c zs ec => ?_, o, es, ep, hq, h2, h3, by rw [st]; exact h4, by rw [st]; exact h5⟩, r2, q⟩
   rw [upd_ne (ne_of ec ha (fun z => nomatch z))]
   exact ec
end
section
variable {X : Cx} {o i value : Expr} {td ty tv : TE} {pos pos' : Pos}
def sKeptPut (P : Program) (w : World) (td ty tv : TE) : TS := fun D σ H => tv σ H fun v H1 => td σ H1 fun x H2 => ty σ H2 fun y H3 => ∃ (a p : Addr) (ks : List NK) (xs : List (List NK × Addr)), x = .ref a ∧ y = .ref p ∧ v = .bl true ∧ NkAt H3 ks p ∧ KeptAt P w H3 a xs ∧ hasK xs ks = false ∧ xs.length < 1000 ∧
 D.nx σ (upd H3 a (nkObj P w a (xs ++ [(ks, p)])))
theorem ps_keptput (hu : X.A.units + 2 < cLine) (ho : PE X o td) (hi : PE X i ty) (hv : PE X value tv) (hs : swapsWith value (some (.Subscript o i pos')) pos.line X.env = pure false) : PS X (.Assign [.Subscript o i pos'] value pos) (sKeptPut X.prog X.w td ty tv) := by
 intro pins s σ H D I h
 refine wpAny_Assign_Subscript (thn (hv pins s σ H _ I h) fun r s1 ⟨v, H1, I1, rv, q1⟩ => thn (ho pins s1 σ H1 _ I1 q1) fun u s2 ⟨x, H2, I2, rx, q2⟩ => thn (hi pins s2 σ H2 _ I2 q2) fun iv s3 ⟨y, H3, I3, ry, a, p, ks, xs, ex, ey, ev, hp, hk, hn, hl, q3⟩ => ?_) hs
 subst ex ey ev
 cases rx
 cases ry
 cases rv
 exact kept_put hu I3 hp hk hn hl fun s4 I4 => ⟨σ, _, I4, q3⟩
end
end L2
namespace L2
open PySem PySem.Spec PyProof.Rows
abbrev MBs := List ((Str × Int) × Addr × List (Lt × Addr))
def bsK (bs : MBs) : List (List Key × V) := bs.map fun b => ([.inr b.1.1, .inl b.1.2], .ref b.2.1)
def Lt.mk (l : Lt) : Str × Int := (l.asker, l.number)
def ofM (k : Str × Int) (ms : List (Lt × Addr)) : List (Lt × Addr) := ms.filter fun y => decide (y.1.mk = k)
theorem ofM_app (k : Str × Int) (ms : List (Lt × Addr)) (y : Lt × Addr) : ofM k (ms ++ [y]) = ofM k ms ++ (if y.1.mk = k then [y] else []) := by
 unfold ofM
 rw [List.filter_append, List.filter_cons]
 by_cases e : y.1.mk = k
 · rw [decide_eq_true e, if_pos rfl, if_pos e]; rfl
 · rw [decide_eq_false e, if_neg Bool.false_ne_true, if_neg e]; rfl
theorem nd_inj {α β : Type} {f : α → β} : ∀ {l : List α}, (l.map f).Nodup → ∀ {x y : α}, x ∈ l → y ∈ l → f x = f y → x = y
 | [], _, _, _, h, _, _ => nomatch h
 |
  a :: l, nd, x, y, hx, hy, e => by
  rw [List.map_cons, List.nodup_cons] at nd
  rcases List.mem_cons.mp hx with hx1 | hx1
  ·
   subst hx1
   rcases List.mem_cons.mp hy with rfl | hy
   · rfl
   · exact absurd (by rw [e]; exact List.mem_map_of_mem hy) nd.1
  ·
   rcases List.mem_cons.mp hy with hy1 | hy1
   ·
    subst hy1
    exact absurd (by rw [← e]; exact List.mem_map_of_mem hx1) nd.1
   · exact nd_inj nd.2 hx1 hy1 e
structure BsOk (H : Hp) (ms : List (Lt × Addr)) (bs : MBs) : Prop where
 at_ : ∀ b ∈ bs, H b.2.1 = some (.lst (b.2.2.map fun x => V.ref x.2))
 is_ : ∀ b ∈ bs, b.2.2 = ofM b.1 ms
 nd : (bs.map (·.2.1)).Nodup
 kd : (bs.map (·.1)).Nodup
 all : ∀ y ∈ ms, y.1.mk ∈ bs.map (·.1)
theorem BsOk.up {H H' : Hp} {ms : List (Lt × Addr)} {bs : MBs} (h : BsOk H ms bs) (e : ∀ b ∈ bs, ∀ o, H b.2.1 = some o → H' b.2.1 = some o) : BsOk H' ms bs := ⟨fun b hb => e b hb _ (h.at_ b hb), h.is_, h.nd, h.kd, h.all⟩
theorem bsK_val {bs : MBs} {k : Str × Int} {v : V} (h : valV (bsK bs) [.inr k.1, .inl k.2] = some v) : ∃ b ∈ bs, b.1 = k ∧ v = .ref b.2.1 := by
 unfold valV at h
 obtain ⟨x, hx, rfl⟩ := Option.map_eq_some_iff.mp h
 obtain ⟨b, hb, rfl⟩ := List.mem_map.mp (List.mem_of_find?_eq_some hx)
 have e := List.find?_some hx
 have e' := of_decide_eq_true e
 injection e' with e1 e2
 injection e2 with e2 _
 exact ⟨b, hb, Prod.ext (Sum.inr.inj e1) (Sum.inl.inj e2), rfl⟩
theorem bsK_none {bs : MBs} {k : Str × Int} (h : valV (bsK bs) [.inr k.1, .inl k.2] = none) : k ∉ bs.map (·.1) := fun z => by
 obtain ⟨b, hb, rfl⟩ := List.mem_map.mp z
 unfold valV at h
 rw [Option.map_eq_none_iff, List.find?_eq_none] at h
 exact h _ (List.mem_map_of_mem (f := fun b : (Str × Int) × Addr × List (Lt × Addr) => (([.inr b.1.1, .inl b.1.2], .ref b.2.1) : List Key × V)) hb) (decide_eq_true rfl)
def addL (l : Lt) (p : Addr) (y : (Str × Int) × Addr × List (Lt × Addr)) : (Str × Int) × Addr × List (Lt × Addr) := (y.1, y.2.1, y.2.2 ++ (if l.mk = y.1 then [(l, p)] else []))
theorem bsK_add (l : Lt) (p : Addr) (bs : MBs) : bsK (bs.map (addL l p)) = bsK bs := by unfold bsK; rw [List.map_map]; rfl
theorem BsOk.putS {H H' : Hp} {ms : List (Lt × Addr)} {bs : MBs} {l : Lt} {p : Addr} {b : (Str × Int) × Addr × List (Lt × Addr)} (h : BsOk H ms bs) (hb : b ∈ bs) (hk : b.1 = l.mk)
  (e1 : H' b.2.1 = some (.lst ((b.2.2.map fun x => V.ref x.2) ++ [.ref p]))) (e2 : ∀ y ∈ bs, y.2.1 ≠ b.2.1 → H' y.2.1 = H y.2.1) : BsOk H' (ms ++ [(l, p)]) (bs.map (addL l p)) where
 at_ := fun y' hy' => by
  obtain ⟨y, hy, rfl⟩ := List.mem_map.mp hy'
  show H' y.2.1 = some (.lst ((y.2.2 ++ (if l.mk = y.1 then [(l, p)] else [])).map fun x => V.ref x.2))
  by_cases e : y.1 = l.mk
  ·
   have : y = b := nd_inj h.kd hy hb (e.trans hk.symm)
   subst this
   rw [e1, if_pos e.symm, List.map_append]
   rfl
  ·
   have ne : y.2.1 ≠ b.2.1 := fun z => e (by rw [nd_inj h.nd hy hb z]; exact hk)
   rw [e2 y hy ne, if_neg (fun z => e z.symm), List.append_nil]
   exact h.at_ y hy
 is_ := fun y' hy' => by
  obtain ⟨y, hy, rfl⟩ := List.mem_map.mp hy'
  show y.2.2 ++ _ = ofM y.1 (ms ++ [(l, p)])
  rw [ofM_app, ← h.is_ y hy]
 nd := by
  rw [List.map_map]
  exact h.nd
 kd := by
  rw [List.map_map]
  exact h.kd
 all := fun y hy => by
  rw [List.map_map]
  show y.1.mk ∈ bs.map (·.1)
  rcases List.mem_append.mp hy with hy | hy
  · exact h.all y hy
  ·
   rw [List.mem_singleton] at hy
   subst hy
   rw [← hk]
   exact List.mem_map_of_mem hb
theorem ofM_none {k : Str × Int} {ms : List (Lt × Addr)} (h : ∀ y ∈ ms, y.1.mk ≠ k) : ofM k ms = [] := by
 unfold ofM
 rw [List.filter_eq_nil_iff]
 intro y hy z
 exact h y hy (of_decide_eq_true z)
theorem BsOk.putN {H H' : Hp} {ms : List (Lt × Addr)} {bs : MBs} {l : Lt} {p N : Addr} (h : BsOk H ms bs) (hk : l.mk ∉ bs.map (·.1)) (hN : ∀ y ∈ bs, y.2.1 ≠ N)
  (e1 : H' N = some (.lst [.ref p])) (e2 : ∀ y ∈ bs, H' y.2.1 = H y.2.1) : BsOk H' (ms ++ [(l, p)]) (bs ++ [(l.mk, N, [(l, p)])]) where
 at_ := fun y hy => by
  rcases List.mem_append.mp hy with hy | hy
  · rw [e2 y hy]; exact h.at_ y hy
  ·
   rw [List.mem_singleton] at hy
   subst hy
   exact e1
 is_ := fun y hy => by
  rw [ofM_app]
  rcases List.mem_append.mp hy with hy | hy
  · rw [← h.is_ y hy, if_neg (fun z => hk (by rw [show l.mk = y.1 from z]; exact List.mem_map_of_mem hy)), List.append_nil]
  ·
   rw [List.mem_singleton] at hy
   subst hy
   rw [ofM_none (fun z hz e => hk ((show z.1.mk = l.mk from e) ▸ h.all z hz)), if_pos rfl]
   rfl
 nd := by
  rw [List.map_append, List.nodup_append]
  refine ⟨h.nd, List.pairwise_singleton _ _, fun x hx y hy => ?_⟩
  obtain ⟨z, hz, rfl⟩ := List.mem_map.mp hx
  rw [List.map_singleton, List.mem_singleton] at hy
  subst hy
  exact hN z hz
 kd := by
  rw [List.map_append, List.nodup_append]
  refine ⟨h.kd, List.pairwise_singleton _ _, fun x hx y hy => ?_⟩
  rw [List.map_singleton, List.mem_singleton] at hy
  subst hy
  exact fun e => hk ((show x = l.mk from e) ▸ hx)
 all := fun y hy => by
  rw [List.map_append, List.mem_append]
  rcases List.mem_append.mp hy with hy | hy
  · exact .inl (h.all y hy)
  ·
   rw [List.mem_singleton] at hy
   subst hy
   exact .inr (List.mem_singleton.mpr rfl)
theorem LtAt.upT {H H' : Hp} {l : Lt} {p : Addr} (h : LtAt H l p) (ht : ∀ b xs, H b = some (.tup xs) → H' b = some (.tup xs)) : LtAt H' l p := by
 obtain ⟨vs, hp, r⟩ := h
 refine ⟨vs, ht _ _ hp, ?_⟩
 cases l with
 | bid => obtain ⟨q, e, h⟩ := r; exact ⟨q, e, ht _ _ h⟩
 | off => exact r
 | close => obtain ⟨q, e, h⟩ := r; exact ⟨q, e, ht _ _ h⟩
 | ans => exact r
structure TabAt (P : Program) (w : World) (C : Addr) (H : Hp) (x k m t : Addr) (ms : List (Lt × Addr)) (bs : MBs) (ts : List (List Key × V)) : Prop where
 ins : ∃ dx, H x = some (.ins C dx [("kept", .ref k), ("by_meeting", .ref m), ("tellings", .ref t)])
 kept : KeptAt P w H k (nks ms)
 ok : ∀ y ∈ ms, LtAt H y.1 y.2
 sz : ∀ y ∈ ms, LtSz y.1
 byM : H m = some (.dT (bsK bs))
 told : H t = some (.dT ts)
 ne : m ≠ t
 by_ : BsOk H ms bs
 few : ms.length ≤ 900 ∧ bs.length ≤ ms.length ∧ ts.length ≤ ms.length
theorem bs_lts {H : Hp} {ms : List (Lt × Addr)} {bs : MBs} (h : BsOk H ms bs) (ok : ∀ y ∈ ms, LtAt H y.1 y.2) (hf : ms.length ≤ 901) {b : (Str × Int) × Addr × List (Lt × Addr)} (hb : b ∈ bs) : LtsAt H b.2.1 b.2.2 := by
 refine ⟨h.at_ b hb, fun y hy => ok y ?_, ?_⟩
 ·
  rw [h.is_ b hb] at hy
  exact (List.mem_filter.mp hy).1
 ·
  rw [h.is_ b hb]
  exact Nat.le_trans (List.length_filter_le _ _) (by omega)
def OwnT (k m t : Addr) (bs : MBs) (b : Addr) : Prop := b = k ∨ b = m ∨ b = t ∨ ∃ y ∈ bs, y.2.1 = b
theorem TabAt.up {P : Program} {w : World} {C : Addr} {H H' : Hp} {x k m t : Addr} {ms : List (Lt × Addr)} {bs : MBs} {ts : List (List Key × V)} (h : TabAt P w C H x k m t ms bs ts) (s : Same H H') : TabAt P w C H' x k m t ms bs ts :=
 ⟨let ⟨dx, e⟩ := h.ins; ⟨dx, s _ _ e⟩, h.kept.up s, fun y hy => (h.ok y hy).up s, h.sz, s _ _ h.byM, s _ _ h.told, h.ne, h.by_.up fun _ _ o e => s _ o e, h.few⟩
theorem TabAt.own {P : Program} {w : World} {C : Addr} {H : Hp} {x k m t : Addr} {ms : List (Lt × Addr)} {bs : MBs} {ts : List (List Key × V)} (h : TabAt P w C H x k m t ms bs ts) {b : Addr} (o : OwnT k m t bs b) : H b ≠ none := by
 rcases o with rfl | rfl | rfl | ⟨y, hy, rfl⟩
 · rcases h.kept.at_ with e | ⟨_, e⟩ <;> rw [e] <;> exact fun z => nomatch z
 · rw [h.byM]; exact fun z => nomatch z
 · rw [h.told]; exact fun z => nomatch z
 · rw [h.by_.at_ y hy]; exact fun z => nomatch z
noncomputable def Frm (M : Addr → Prop) (H : Hp) : Hp := fun b => open Classical in if M b then none else H b
theorem Frm.iff {M : Addr → Prop} {H : Hp} {b : Addr} {o : HO} : Frm M H b = some o ↔ ¬ M b ∧ H b = some o := by
 unfold Frm
 by_cases h : M b
 · rw [if_pos h]; exact ⟨(fun z => nomatch z), (fun z => absurd h z.1)⟩
 · rw [if_neg h]; exact ⟨fun z => ⟨h, z⟩, fun z => z.2⟩
theorem Frm.same {M : Addr → Prop} {H : Hp} : Same (Frm M H) H := fun _ _ e => (Frm.iff.mp e).2
theorem Frm.step {M M' : Addr → Prop} {H H' : Hp} (h : ∀ b o, H b = some o → ¬ M b → H' b = some o) (hm : ∀ b, M' b → M b ∨ H b = none) : Same (Frm M H) (Frm M' H') := fun b o e => by
 obtain ⟨h1, h2⟩ := Frm.iff.mp e
 exact Frm.iff.mpr ⟨(fun z => (hm b z).elim h1 (fun y => by rw [h2] at y; cases y)), h b o h2 h1⟩
theorem Frm.grow {M : Addr → Prop} {H H' : Hp} (s : Same H H') : Same (Frm M H) (Frm M H') := Frm.step (fun b o e _ => s b o e) fun _ h => .inl h
theorem Frm.put {M : Addr → Prop} {H : Hp} {a : Addr} {o : HO} (ha : M a) : Same (Frm M H) (Frm M (upd H a o)) := Frm.step (fun b u e n => by rw [upd_ne (fun z => n (by rw [z]; exact ha))]; exact e) fun _ h => .inl h
theorem Frm.laid {M : Addr → Prop} {H : Hp} {a : Addr} {o : HO} (hM : ∀ b, M b → H b ≠ none) (ha : H a = none) : Frm M (upd H a o) a = some o := Frm.iff.mpr ⟨fun z => hM a z ha, upd_same⟩
theorem TabAt.frame {P : Program} {w : World} {C : Addr} {H H' : Hp} {x k m t : Addr} {ms : List (Lt × Addr)} {bs : MBs} {ts : List (List Key × V)} (h : TabAt P w C H x k m t ms bs ts) (e : ∀ b o, H b = some o → OwnT k m t bs b ∨ b = x → H' b = some o) (ht : ∀ y ∈ ms, LtAt H' y.1 y.2) : TabAt P w C H' x k m t ms bs ts :=
 ⟨let ⟨dx, e1⟩ := h.ins; ⟨dx, e _ _ e1 (.inr rfl)⟩, ⟨h.kept.at_.elim (fun z => .inl (e _ _ z (.inl (.inl rfl)))) (fun z => .inr ⟨z.1, e _ _ z.2 (.inl (.inl rfl))⟩), nks_ok ht, h.kept.few⟩, ht, h.sz, e _ _ h.byM (.inl (.inr (.inl rfl))), e _ _ h.told (.inl (.inr (.inr (.inl rfl)))), h.ne, h.by_.up fun b hb o z => e _ _ z (.inl (.inr (.inr (.inr ⟨b, hb, rfl⟩)))), h.few⟩
section
variable {P : Program} {w : World} {C : Addr} {H H3 H4 H5 : Hp} {x dx k m t q L N p : Addr} {l : Lt} {ms : List (Lt × Addr)} {bs bs' : MBs} {ts : List (List Key × V)}
theorem KeptAt.upL {H' : Hp} {xs : List (List NK × Addr)} (hk : KeptAt P w H k xs) (ht : ∀ b ys, H b = some (.tup ys) → H' b = some (.tup ys)) (e : H' k = H k) : KeptAt P w H' k xs := ⟨by rw [e]; exact hk.at_, fun x hx => (hk.ok x hx).upT ht, hk.few⟩
theorem KeptAt.ne_lst {xs : List (List NK × Addr)} {a : Addr} {ys : List V} (hk : KeptAt P w H k xs) (ha : H a = some (.lst ys)) : k ≠ a := by
 rcases hk.at_ with e | ⟨_, e⟩
 · exact ne_of e ha (fun z => nomatch z)
 · exact ne_of e ha (fun z => nomatch z)
theorem KeptAt.ne_dT {xs : List (List NK × Addr)} {a : Addr} {ys : List (List Key × V)} (hk : KeptAt P w H k xs) (ha : H a = some (.dT ys)) : k ≠ a := by
 rcases hk.at_ with e | ⟨_, e⟩
 · exact ne_of e ha (fun z => nomatch z)
 · exact ne_of e ha (fun z => nomatch z)
structure MidT (P : Program) (w : World) (C : Addr) (H H4 : Hp) (x dx k m t q L : Addr) (l : Lt) (p : Addr) (ms : List (Lt × Addr)) (bs bs' : MBs) (ts : List (List Key × V)) : Prop where
 fr : ∀ b o, H b = some o → ¬ OwnT k m t bs b → H4 b = some o
 new : ∀ y ∈ bs', (∃ z ∈ bs, z.2.1 = y.2.1) ∨ H y.2.1 = none
 q_ : H4 q = some (.tup [.str l.asker, .int l.number])
 ins : H4 x = some (.ins C dx [("kept", .ref k), ("by_meeting", .ref m), ("tellings", .ref t)])
 kept : KeptAt P w H4 k (nks (ms ++ [(l, p)]))
 ok : ∀ y ∈ ms ++ [(l, p)], LtAt H4 y.1 y.2
 byM : H4 m = some (.dT (bsK bs'))
 told : H4 t = some (.dT ts)
 by_ : BsOk H4 (ms ++ [(l, p)]) bs'
 few : bs'.length ≤ bs.length + 1
 at_ : ∃ b ∈ bs', b.1 = l.mk ∧ b.2.1 = L
 val : valV (bsK bs') [.inr l.asker, .inl l.number] = some (.ref L)
theorem mid_some {b : (Str × Int) × Addr × List (Lt × Addr)} (fr : ∀ b o, H b = some o → b ≠ k → H3 b = some o) (hq : H3 q = some (.tup [.str l.asker, .int l.number])) (hx : H3 x = some (.ins C dx [("kept", .ref k), ("by_meeting", .ref m), ("tellings", .ref t)]))
  (hk : KeptAt P w H3 k (nks (ms ++ [(l, p)]))) (hok : ∀ y ∈ ms ++ [(l, p)], LtAt H3 y.1 y.2) (hm : H3 m = some (.dT (bsK bs))) (ht : H3 t = some (.dT ts)) (hb : BsOk H3 ms bs) (hN : H3 N = none) (hv : valV (bsK bs) [.inr l.asker, .inl l.number] = some (.ref b.2.1)) (hbm : b ∈ bs) (hbk : b.1 = l.mk) :
  MidT P w C H (upd (upd H3 N (.lst [])) b.2.1 (.lst ((b.2.2.map fun x => V.ref x.2) ++ [.ref p]))) x dx k m t q b.2.1 l p ms bs (bs.map (addL l p)) ts := by
 have hL := hb.at_ b hbm
 have go : ∀ {c : Addr} {o : HO}, H3 c = some o → c ≠ b.2.1 → (upd (upd H3 N (.lst [])) b.2.1 (.lst ((b.2.2.map fun x => V.ref x.2) ++ [.ref p]))) c = some o := fun {c o} e ne => by rw [upd_ne ne, upd_ne (ne_of_none e hN)]; exact e
 have tp : ∀ c ys, H3 c = some (.tup ys) → (upd (upd H3 N (.lst [])) b.2.1 (.lst ((b.2.2.map fun x => V.ref x.2) ++ [.ref p]))) c = some (.tup ys) := fun c ys e => go e (ne_of e hL (fun z => nomatch z))
 refine ⟨fun c o e n => ?_, fun y hy => ?_, tp _ _ hq, go hx (ne_of hx hL (fun z => nomatch z)), hk.upL tp ?_, fun y hy => (hok y hy).upT tp, ?_, go ht (ne_of ht hL (fun z => nomatch z)), hb.putS hbm hbk upd_same (fun y hy ne => ?_), by rw [List.length_map]; exact Nat.le_succ _, ⟨addL l p b, List.mem_map_of_mem hbm, hbk, rfl⟩, by rw [bsK_add]; exact hv⟩
 · exact go (fr c o e fun z => n (.inl z)) fun z => n (.inr (.inr (.inr ⟨b, hbm, z.symm⟩)))
 ·
  obtain ⟨z, hz, rfl⟩ := List.mem_map.mp hy
  exact .inl ⟨z, hz, rfl⟩
 ·
  rw [upd_ne (hk.ne_lst hL), upd_ne]
  rintro rfl
  rcases hk.at_ with e | ⟨_, e⟩ <;> rw [e] at hN <;> cases hN
 ·
  rw [bsK_add]
  exact go hm (ne_of hm hL (fun z => nomatch z))
 · rw [upd_ne ne, upd_ne (ne_of_none (hb.at_ y hy) hN)]
theorem mid_none (fr : ∀ b o, H b = some o → b ≠ k → H3 b = some o) (hq : H3 q = some (.tup [.str l.asker, .int l.number])) (hx : H3 x = some (.ins C dx [("kept", .ref k), ("by_meeting", .ref m), ("tellings", .ref t)]))
  (hk : KeptAt P w H3 k (nks (ms ++ [(l, p)]))) (hk0 : H k ≠ none) (hok : ∀ y ∈ ms ++ [(l, p)], LtAt H3 y.1 y.2) (hm : H3 m = some (.dT (bsK bs))) (ht : H3 t = some (.dT ts)) (ne : m ≠ t) (hb : BsOk H3 ms bs) (hN : H3 N = none) (hv : valV (bsK bs) [.inr l.asker, .inl l.number] = none) :
  MidT P w C H (upd (upd (upd H3 N (.lst [])) m (.dT (putK (bsK bs) [.inr l.asker, .inl l.number] (.ref N)))) N (.lst ([] ++ [.ref p]))) x dx k m t q N l p ms bs (bs ++ [(l.mk, N, [(l, p)])]) ts := by
 have hkN : k ≠ N := by
  rintro rfl
  rcases hk.at_ with e | ⟨_, e⟩ <;> rw [e] at hN <;> cases hN
 have hmN : m ≠ N := ne_of_none hm hN
 have go : ∀ {c : Addr} {o : HO}, H3 c = some o → c ≠ m → (upd (upd (upd H3 N (.lst [])) m (.dT (putK (bsK bs) [.inr l.asker, .inl l.number] (.ref N)))) N (.lst ([] ++ [.ref p]))) c = some o := fun {c o} e n => by
  have nN := ne_of_none e hN
  rw [upd_ne nN, upd_ne n, upd_ne nN]; exact e
 have tp : ∀ c ys, H3 c = some (.tup ys) → (upd (upd (upd H3 N (.lst [])) m (.dT (putK (bsK bs) [.inr l.asker, .inl l.number] (.ref N)))) N (.lst ([] ++ [.ref p]))) c = some (.tup ys) := fun c ys e => go e (ne_of e hm (fun z => nomatch z))
 have eK : putK (bsK bs) [.inr l.asker, .inl l.number] (.ref N) = bsK (bs ++ [(l.mk, N, [(l, p)])]) := by
  rw [putK_new _ hv]
  unfold bsK
  rw [List.map_append]
  rfl
 have lN : ∀ y ∈ bs, y.2.1 ≠ N := fun y hy => ne_of_none (hb.at_ y hy) hN
 refine ⟨fun c o e n => ?_, fun y hy => ?_, tp _ _ hq, go hx (ne_of hx hm (fun z => nomatch z)), hk.upL tp ?_, fun y hy => (hok y hy).upT tp, ?_, go ht (fun z => ne z.symm), hb.putN (bsK_none (k := l.mk) hv) lN upd_same (fun y hy => ?_), by rw [List.length_append]; exact Nat.le_refl _, ⟨_, List.mem_append_right _ (List.mem_singleton.mpr rfl), rfl, rfl⟩, ?_⟩
 · exact go (fr c o e fun z => n (.inl z)) fun z => n (.inr (.inl z))
 ·
  rcases List.mem_append.mp hy with hy | hy
  · exact .inl ⟨y, hy, rfl⟩
  ·
   rw [List.mem_singleton] at hy
   subst hy
   right
   show H N = none
   cases e : H N with
   | none => rfl
   | some o => rw [fr N o e (fun z => hkN z.symm)] at hN; cases hN
 · rw [upd_ne hkN, upd_ne (hk.ne_dT hm), upd_ne hkN]
 ·
  rw [← eK, upd_ne hmN]
  exact upd_same
 · rw [upd_ne (lN y hy), upd_ne (ne_of (hb.at_ y hy) hm (fun z => nomatch z)), upd_ne (lN y hy)]
 ·
  rw [← eK]
  rw [valV_put, if_pos rfl]
theorem MidT.tab (M : MidT P w C H H4 x dx k m t q L l p ms bs bs' ts) (hsz : ∀ y ∈ ms, LtSz y.1) (sl : LtSz l) (f1 : ms.length < 900) (f2 : bs.length ≤ ms.length) (f3 : ts.length ≤ ms.length) (ne : m ≠ t) (s : Same H4 H5) : TabAt P w C H5 x k m t (ms ++ [(l, p)]) bs' ts :=
 TabAt.up (H := H4) ⟨⟨dx, M.ins⟩, M.kept, M.ok, fun y hy => (List.mem_append.mp hy).elim (hsz y) fun z => by rw [List.mem_singleton] at z; subst z; exact sl, M.byM, M.told, ne, M.by_, by rw [List.length_append]; show _ + 1 ≤ _; omega, by rw [List.length_append]; exact Nat.le_trans M.few (Nat.succ_le_succ f2), by rw [List.length_append]; exact Nat.le_succ_of_le f3⟩ s
theorem TabAt.tell {ts' : List (List Key × V)} (h : TabAt P w C H x k m t ms bs ts) (hl : ts'.length ≤ ms.length) : TabAt P w C (upd H t (.dT ts')) x k m t ms bs ts' := by
 have go : ∀ {c : Addr} {o : HO}, H c = some o → o ≠ .dT ts → (upd H t (.dT ts')) c = some o := fun {c o} e n => by rw [upd_ne (ne_of e h.told n)]; exact e
 have tp : ∀ c ys, H c = some (.tup ys) → (upd H t (.dT ts')) c = some (.tup ys) := fun c ys e => go e (fun z => nomatch z)
 refine ⟨let ⟨dx, e⟩ := h.ins; ⟨dx, go e (fun z => nomatch z)⟩, h.kept.upL tp (by rw [upd_ne (h.kept.ne_dT h.told)]), fun y hy => (h.ok y hy).upT tp, h.sz, by rw [upd_ne h.ne]; exact h.byM, upd_same, h.ne, h.by_.up fun b hb o e => ?_, h.few.1, h.few.2.1, hl⟩
 rw [h.by_.at_ b hb] at e
 cases e
 exact go (h.by_.at_ b hb) (fun z => nomatch z)
end
theorem TabAt.notup {P : Program} {w : World} {C : Addr} {H : Hp} {x k m t : Addr} {ms : List (Lt × Addr)} {bs : MBs} {ts : List (List Key × V)} (T : TabAt P w C H x k m t ms bs ts) {b : Addr} {xs : List V} (h : H b = some (.tup xs)) : ¬ OwnT k m t bs b := by
 rintro (z | z | z | ⟨y, hy, z⟩)
 · rw [z] at h; exact T.kept.notup _ h
 · rw [z, T.byM] at h; cases h
 · rw [z, T.told] at h; cases h
 · rw [← z, T.by_.at_ y hy] at h; cases h
def Atm : V → Prop
 | .int _ => True
 | .str _ => True
 | .non => True
 | _ => False
def AlH (H : Hp) : Nat → V → V → Prop
 | 0, _, _ => False
 | n + 1, v, u => (v = u ∧ Atm v) ∨ ∃ (p q : Addr) (xs ys : List V), v = .ref p ∧ u = .ref q ∧ ((H p = some (.tup xs) ∧ H q = some (.tup ys)) ∨ (H p = some (.lst xs) ∧ H q = some (.lst ys))) ∧ xs.length = ys.length ∧ ys.length ≤ 1000 ∧ ∀ (i : Nat) (x y : V), xs[i]? = some x → ys[i]? = some y → AlH H n x y
theorem AlH.up {H H' : Hp} (s : Same H H') : ∀ {n : Nat} {v u : V}, AlH H n v u → AlH H' n v u
 | 0, _, _, h => h
 | n + 1, _, _, h => h.imp id fun ⟨p, q, xs, ys, e1, e2, e3, e4, e5, e6⟩ => ⟨p, q, xs, ys, e1, e2, e3.imp (fun z => ⟨s _ _ z.1, s _ _ z.2⟩) (fun z => ⟨s _ _ z.1, s _ _ z.2⟩), e4, e5, fun i x y h1 h2 => AlH.up s (e6 i x y h1 h2)⟩
theorem al_nil {A : V → V → Prop} : ∀ (i : Nat) (x y : V), ([] : List V)[i]? = some x → ([] : List V)[i]? = some y → A x y := fun i x y h => by cases h
theorem al_cons {A : V → V → Prop} {x y : V} {xs ys : List V} (h : A x y) (t : ∀ (i : Nat) (x y : V), xs[i]? = some x → ys[i]? = some y → A x y) : ∀ (i : Nat) (a b : V), (x :: xs)[i]? = some a → (y :: ys)[i]? = some b → A a b
 | 0, a, b, e, f => by cases e; cases f; exact h
 | i + 1, a, b, e, f => t i a b (by simpa using e) (by simpa using f)
theorem al_map {α : Type} {A : V → V → Prop} {f g : α → V} : ∀ {l : List α}, (∀ z ∈ l, A (f z) (g z)) → ∀ (i : Nat) (x y : V), (l.map f)[i]? = some x → (l.map g)[i]? = some y → A x y
 | [], _ => al_nil
 | z :: l, h => al_cons (h z (List.mem_cons_self ..)) (al_map fun z hz => h z (List.mem_cons_of_mem _ hz))
theorem al_strs {H : Hp} {n : Nat} {p q : Addr} {l : List Str} (hp : H p = some (.tup (l.map V.str))) (hq : H q = some (.tup (l.map V.str))) (hl : l.length ≤ 1000) : AlH H (n + 2) (.ref p) (.ref q) :=
 .inr ⟨p, q, _, _, rfl, rfl, .inl ⟨hp, hq⟩, rfl, by rw [List.length_map]; exact hl, al_map fun z _ => .inl ⟨rfl, True.intro⟩⟩
theorem al_i {H : Hp} {n : Nat} {i : Int} : AlH H (n + 1) (.int i) (.int i) := .inl ⟨rfl, True.intro⟩
theorem al_s {H : Hp} {n : Nat} {x : Str} : AlH H (n + 1) (.str x) (.str x) := .inl ⟨rfl, True.intro⟩
theorem al_n {H : Hp} {n : Nat} : AlH H (n + 1) .non .non := .inl ⟨rfl, True.intro⟩
theorem ix_seqK {X : Cx} {K : W.Frag} (hK : X.K = K) : IxR X (rIx K) := by subst hK; exact ix_seq
end L2
namespace L2
open PySem PySem.Spec PyProof.Rows
def MK (k m t : Addr) (bs : MBs) (Kp Hd : Addr) (b : Addr) : Prop := OwnT k m t bs b ∨ b = Kp ∨ b = Hd
def HeldAt (H : Hp) (h : Addr) : Prop := ∃ v u, H h = some (.tup [v, u]) ∧ AlH H 6 v u
theorem HeldAt.up {H H' : Hp} {h : Addr} (x : HeldAt H h) (s : Same H H') : HeldAt H' h := let ⟨v, u, e, q⟩ := x; ⟨v, u, s _ _ e, q.up s⟩
structure LI (F : Lt → Prop) (P : Program) (w : World) (C : Addr) (H0 H : Hp) (x k m t Kp Hd : Addr) (ms : List (Lt × Addr)) (bs : MBs) (ts : List (List Key × V)) (hs : List Addr) : Prop where
 base : Same H0 (Frm (MK k m t bs Kp Hd) H)
 tab : TabAt P w C H x k m t ms bs ts
 lok : ∀ y ∈ ms, F y.1
 nd : (ms.map fun y => y.1.nk).Nodup
 kp : H Kp = some (.lst (ms.map fun y => V.ref y.2))
 hd : H Hd = some (.lst (hs.map V.ref))
 held : ∀ h ∈ hs, HeldAt (Frm (MK k m t bs Kp Hd) H) h
 sep : ∀ y ∈ bs, y.2.1 ≠ Kp ∧ y.2.1 ≠ Hd
 ne : Kp ≠ Hd
section
variable {F : Lt → Prop} {P : Program} {w : World} {C : Addr} {H0 H H' : Hp} {x k m t Kp Hd : Addr} {ms : List (Lt × Addr)} {bs bs' : MBs} {ts ts' : List (List Key × V)} {hs : List Addr} {l : Lt} {p : Addr}
theorem LI.up (I : LI F P w C H0 H x k m t Kp Hd ms bs ts hs) (s : Same H H') : LI F P w C H0 H' x k m t Kp Hd ms bs ts hs :=
 ⟨I.base.trans (Frm.grow s), I.tab.up s, I.lok, I.nd, s _ _ I.kp, s _ _ I.hd, fun h hh => (I.held h hh).up (Frm.grow s), I.sep, I.ne⟩
theorem tab_ne {a : Addr} {ys : List V} (T : TabAt P w C H x k m t ms bs ts) (ha : H a = some (.lst ys)) (hn : ∀ y ∈ bs, y.2.1 ≠ a) : ¬ OwnT k m t bs a ∧ a ≠ x := by
 obtain ⟨dx, hx⟩ := T.ins
 refine ⟨?_, ne_of ha hx (fun z => nomatch z)⟩
 rintro (z | z | z | ⟨y, hy, z⟩)
 · exact T.kept.ne_lst ha z.symm
 · exact ne_of ha T.byM (fun z => nomatch z) z
 · exact ne_of ha T.told (fun z => nomatch z) z
 · exact hn y hy z
theorem tab_lst {a : Addr} {ys zs : List V} (T : TabAt P w C H x k m t ms bs ts) (ha : H a = some (.lst ys)) (hn : ∀ y ∈ bs, y.2.1 ≠ a) : TabAt P w C (upd H a (.lst zs)) x k m t ms bs ts := by
 obtain ⟨h1, h2⟩ := tab_ne T ha hn
 refine T.frame (fun b o e z => ?_) (fun y hy => (T.ok y hy).upT fun b xs e => ?_)
 ·
  rw [upd_ne]
  · exact e
  ·
   rintro rfl
   exact z.elim h1 h2
 ·
  rw [upd_ne (ne_of e ha (fun z => nomatch z))]
  exact e
theorem hasK_not {l : Lt} (h : hasK (nks ms) l.nk = false) : l.nk ∉ ms.map fun y => y.1.nk := fun z => by
 obtain ⟨y, hy, e⟩ := List.mem_map.mp z
 have : hasK (nks ms) l.nk = true := by
  unfold hasK nks
  rw [List.any_eq_true]
  exact ⟨(y.1.nk, y.2), List.mem_map_of_mem (f := fun x : Lt × Addr => (x.1.nk, x.2)) hy, decide_eq_true e⟩
 rw [h] at this
 cases this
theorem LI.took (I : LI F P w C H0 H x k m t Kp Hd ms bs ts hs) (fr : ∀ b o, H b = some o → ¬ OwnT k m t bs b → H' b = some o) (new : ∀ y ∈ bs', (∃ z ∈ bs, z.2.1 = y.2.1) ∨ H y.2.1 = none) (T' : TabAt P w C H' x k m t (ms ++ [(l, p)]) bs' ts') (hok : F l) (hn : hasK (nks ms) l.nk = false) :
  H' Kp = some (.lst (ms.map fun y => V.ref y.2)) ∧ LI F P w C H0 (upd H' Kp (.lst ((ms.map fun y => V.ref y.2) ++ [.ref p]))) x k m t Kp Hd (ms ++ [(l, p)]) bs' ts' hs := by
 have nk := (tab_ne I.tab I.kp fun y hy => (I.sep y hy).1).1
 have nh := (tab_ne I.tab I.hd fun y hy => (I.sep y hy).2).1
 have kp' := fr _ _ I.kp nk
 have hd' := fr _ _ I.hd nh
 have sep' : ∀ y ∈ bs', y.2.1 ≠ Kp ∧ y.2.1 ≠ Hd := fun y hy => by
  rcases new y hy with ⟨z, hz, e⟩ | e
  · rw [← e]; exact I.sep z hz
  ·
   refine ⟨fun z => ?_, fun z => ?_⟩
   · rw [z, I.kp] at e; cases e
   · rw [z, I.hd] at e; cases e
 have st : Same (Frm (MK k m t bs Kp Hd) H) (Frm (MK k m t bs' Kp Hd) (upd H' Kp (.lst ((ms.map fun y => V.ref y.2) ++ [.ref p])))) := by
  refine Same.trans (Frm.step (fun b o e n => fr b o e fun z => n (.inl z)) ?_) (Frm.put (.inr (.inl rfl)))
  rintro b ((z | z | z | ⟨y, hy, z⟩) | z)
  · exact .inl (.inl (.inl z))
  · exact .inl (.inl (.inr (.inl z)))
  · exact .inl (.inl (.inr (.inr (.inl z))))
  ·
   rcases new y hy with ⟨u, hu, e⟩ | e
   · exact .inl (.inl (.inr (.inr (.inr ⟨u, hu, e.trans z⟩))))
   · exact .inr (by rw [← z]; exact e)
  · exact .inl (.inr z)
 refine ⟨kp', I.base.trans st, tab_lst T' kp' fun y hy => (sep' y hy).1, fun y hy => ?_, ?_, ?_, ?_, fun h hh => (I.held h hh).up st, sep', I.ne⟩
 ·
  rcases List.mem_append.mp hy with hy | hy
  · exact I.lok y hy
  · rw [List.mem_singleton] at hy; subst hy; exact hok
 ·
  rw [List.map_append, List.nodup_append]
  refine ⟨I.nd, List.pairwise_singleton _ _, fun a ha b hb => ?_⟩
  rw [List.map_singleton, List.mem_singleton] at hb
  subst hb
  exact fun e => hasK_not hn ((show a = l.nk from e) ▸ ha)
 · rw [List.map_append]; exact upd_same
 · rw [upd_ne (fun z => I.ne z.symm)]; exact hd'
theorem LI.keep (I : LI F P w C H0 H x k m t Kp Hd ms bs ts hs) {h : Addr} (hh : HeldAt (Frm (MK k m t bs Kp Hd) H) h) : LI F P w C H0 (upd H Hd (.lst ((hs.map V.ref) ++ [.ref h]))) x k m t Kp Hd ms bs ts (hs ++ [h]) := by
 have st : Same (Frm (MK k m t bs Kp Hd) H) (Frm (MK k m t bs Kp Hd) (upd H Hd (.lst ((hs.map V.ref) ++ [.ref h])))) := Frm.put (.inr (.inr rfl))
 refine ⟨I.base.trans st, tab_lst I.tab I.hd fun y hy => (I.sep y hy).2, I.lok, I.nd, ?_, ?_, fun g hg => ?_, I.sep, I.ne⟩
 · rw [upd_ne I.ne]; exact I.kp
 · rw [List.map_append]; exact upd_same
 ·
  rcases List.mem_append.mp hg with hg | hg
  · exact (I.held g hg).up st
  · rw [List.mem_singleton] at hg; subst hg; exact hh.up st
theorem LI.mk_ (I : LI F P w C H0 H x k m t Kp Hd ms bs ts hs) {b : Addr} (h : MK k m t bs Kp Hd b) : H b ≠ none := by
 rcases h with h | rfl | rfl
 · exact I.tab.own h
 · rw [I.kp]; exact fun z => nomatch z
 · rw [I.hd]; exact fun z => nomatch z
theorem LI.rebase {H1 : Hp} (I : LI F P w C H1 H x k m t Kp Hd ms bs ts hs) (s : Same H0 H1) : LI F P w C H0 H x k m t Kp Hd ms bs ts hs := ⟨s.trans I.base, I.tab, I.lok, I.nd, I.kp, I.hd, I.held, I.sep, I.ne⟩
theorem LI.self (I : LI F P w C H0 H x k m t Kp Hd ms bs ts hs) : LI F P w C (Frm (MK k m t bs Kp Hd) H) H x k m t Kp Hd ms bs ts hs := ⟨Same.refl _, I.tab, I.lok, I.nd, I.kp, I.hd, I.held, I.sep, I.ne⟩
theorem LI.tupF (I : LI F P w C H0 H x k m t Kp Hd ms bs ts hs) (b : Addr) (xs : List V) (h : H b = some (.tup xs)) : Frm (MK k m t bs Kp Hd) H b = some (.tup xs) := by
 refine Frm.iff.mpr ⟨?_, h⟩
 rintro (z | z | z)
 · exact I.tab.notup h z
 · rw [z, I.kp] at h; cases h
 · rw [z, I.hd] at h; cases h
end
theorem held_list {H : Hp} : ∀ {hs : List Addr}, (∀ h ∈ hs, HeldAt H h) → ∃ rs : List (Addr × V × V), hs = rs.map (·.1) ∧ ∀ r ∈ rs, H r.1 = some (.tup [r.2.1, r.2.2]) ∧ AlH H 6 r.2.1 r.2.2
 | [], _ => ⟨[], rfl, fun _ z => nomatch z⟩
 |
  h :: hs, k => by
  obtain ⟨rs, e, q⟩ := held_list fun x hx => k x (List.mem_cons_of_mem _ hx)
  obtain ⟨v, u, e1, e2⟩ := k h (List.mem_cons_self ..)
  refine ⟨(h, v, u) :: rs, by rw [e]; rfl, fun r hr => ?_⟩
  rcases List.mem_cons.mp hr with rfl | hr
  · exact ⟨e1, e2⟩
  · exact q r hr
theorem tOr_go {t u : TT} {σ : St} {H : Hp} {K : Bool → Hp → Prop} (h : ∀ b, K b H) (r : (∀ b, K b H) → tOr t u σ H K) : tOr t u σ H K := r h
end L2
namespace L2
open PySem PySem.Spec PyProof.Rows
theorem Paired.snoc {α β : Type} {F : α → β → Prop} : ∀ {l : List α} {m : List β}, Paired F l m → ∀ {x : α} {y : β}, F x y → Paired F (l ++ [x]) (m ++ [y])
 | _, _, .nil, _, _, h => .cons h .nil
 | _, _, .cons r t, _, _, h => .cons r (Paired.snoc t h)
theorem comp_rel {J : It} {cap : List (Option Nat)} {tt : TT} {te : TE} {σ : St} {H1 : Hp} {Q : VK} {xs : List V} (hJ : Seq J H1 xs) (p : V → Bool) (Rl : Hp → V → V → Prop) (hup : ∀ H H' x y, (∀ b ys, H b = some (.tup ys) → H' b = some (.tup ys)) → Rl H x y → Rl H' x y) (hsz : xs.length ≤ 100000)
  (hp : ∀ x ∈ xs, ∀ H', Same H1 H' → ∀ R : Bool → Hp → Prop, (∀ H'', Same H' H'' → R (p x) H'') → tt ((capt cap σ).set 0 (some x)) H' R)
  (he : ∀ x ∈ xs, p x = true → ∀ H', Same H1 H' → ∀ R : VK, (∀ y H'', Same H' H'' → Rl H'' x y → R y H'') → te ((capt cap σ).set 0 (some x)) H' R)
  (k : ∀ D H' ys, Same H1 H' → H1 D = none → H' D = some (.lst ys) → Paired (Rl H') (xs.filter p) ys → Q (.ref D) H') :
  compBody J H1 cap (gName 0) tt te σ Q := by
 intro D hD
 refine ⟨fun i m ys σ' H' => m = xs.length - i ∧ i ≤ xs.length ∧ (∀ v, σ'.set 0 v = (capt cap σ).set 0 v) ∧ H' D = some (.lst ys) ∧ Same H1 H' ∧ Paired (Rl H') ((xs.take i).filter p) ys,
  ⟨xs.length, by simp, Nat.zero_le _, fun _ => rfl, upd_same, same_upd hD, by rw [List.take_zero]; exact .nil⟩, ?_⟩
 rintro i m ys σ' H' ⟨rfl, hi, hσ, hl, sm, hG⟩
 refine ⟨hl, ?_⟩
 obtain ⟨q1, q2⟩ := hJ H' sm
 have hle : ys.length ≤ i := by
  rw [← Paired.length hG]
  exact Nat.le_trans (List.length_filter_le _ _) (by rw [List.length_take]; omega)
 by_cases hlt : i < xs.length
 ·
  have e : xs[i]? = some xs[i] := by simp [hlt]
  obtain ⟨go, y⟩ := q1 i _ e
  refine .inr ⟨go, fun x H2 hy => ?_⟩
  obtain ⟨rfl, rfl⟩ := y x H2 hy
  have hm : xs[i] ∈ xs := List.getElem_mem hlt
  have hss : ∀ v, ((capt cap σ).set 0 (some xs[i])).set 0 v = (capt cap σ).set 0 v := fun v => by rw [List.set_set]
  have et : xs.take (i + 1) = xs.take i ++ [xs[i]] := by rw [List.take_add_one, e]; rfl
  show tt (σ'.set 0 (some xs[i])) _ _
  rw [hσ]
  refine hp _ hm _ sm _ fun H3 s3 => ?_
  cases hb : p xs[i] with
  |
   true =>
   refine iteT ?_
   refine he _ hm hb _ (sm.trans s3) _ fun y H4 s4 hy => ?_
   have hl4 := s4 _ _ (s3 _ _ hl)
   have tp : ∀ b zs, H4 b = some (.tup zs) → (upd H4 D (.lst (ys ++ [y]))) b = some (.tup zs) := fun b zs eb => by rw [upd_ne (ne_of eb hl4 (fun z => nomatch z))]; exact eb
   refine ⟨hl4, Nat.lt_of_le_of_lt (by omega : ys.length ≤ 100000) (by decide), xs.length - (i + 1), by omega, rfl, hlt, hss, upd_same, fun c o ec => ?_, ?_⟩
   ·
    rw [upd_ne (ne_of_none ec hD)]
    exact s4 _ _ (s3 _ _ (sm _ _ ec))
   ·
    rw [et, List.filter_append, List.filter_cons, if_pos hb]
    exact Paired.snoc (Paired.mapP hG fun a b h => hup _ _ a b (fun c zs ec => tp _ _ (s4 _ _ (s3 _ _ ec))) h) (hup _ _ _ _ tp hy)
  |
   false =>
   refine iteF ?_
   refine ⟨xs.length - (i + 1), by omega, rfl, hlt, hss, s3 _ _ hl, sm.trans s3, ?_⟩
   rw [et, List.filter_append, List.filter_cons, if_neg (by rw [hb]; exact Bool.false_ne_true), List.filter_nil, List.append_nil]
   exact Paired.mapP hG fun a b h => hup _ _ a b (fun c zs ec => s3 _ _ ec) h
 ·
  have e : i = xs.length := by omega
  subst e
  rw [List.take_length] at hG
  exact .inl ⟨q2, k D _ ys sm hD hl hG⟩
end L2
namespace L2
open PySem PySem.Spec PyProof.Rows PySem.SeqAt
def idxF (ts : List Str) (t : Str) : Nat := ts.findIdx fun y => decide (y = t)
section
variable {X : Cx}
theorem mt_indexF : MtR X "list.index" (fun x xs H Q => ∃ (l : Addr) (ts : List Str) (t : Str), x = .ref l ∧ xs = [.str t] ∧ SqL X.K H l (ts.map V.str) ∧ t ∈ ts ∧ Q (.int (idxF ts t : Nat)) H) := by
 intro pins s σ H x xs v us Q I rx r h
 obtain ⟨l, ts, t, rfl, rfl, hl, hm, q⟩ := h
 cases rx
 obtain ⟨u, rfl, ru⟩ := r.one
 obtain ⟨tk, rfl⟩ := ru
 obtain ⟨its, rv, pl, hz⟩ := I.list hl
 have hs := vals_strs rv
 obtain ⟨⟨c0, d0, t0, s0⟩, ho, hc, n, hd⟩ := pl.isList
 simp only at hc hd
 subst hc hd
 have hlen : its.length = ts.length := by rw [← rv.length, List.length_map]
 obtain ⟨j, hj, e1, e2, e3⟩ : ∃ j, ∃ (hj : j < its.toArray.size), (match its.toArray[j] with | .str y _ => y == t | _ => false) = true ∧ (∀ m (hm : m < its.toArray.size), m < j → (match its.toArray[m] with | .str y _ => y == t | _ => false) = false) ∧ j = idxF ts t := by
  clear ho pl hz rv q hl
  unfold idxF
  induction hs with
  | nil => exact nomatch hm
  |
   @cons y ty vs ys hs ih =>
   by_cases hy : y = t
   · exact ⟨0, by simp, by simp [hy], fun m _ h => absurd h (Nat.not_lt_zero _), by rw [List.findIdx_cons, decide_eq_true hy]; rfl⟩
   ·
    obtain ⟨j, hj, e1, e2, e3⟩ := ih ((List.mem_cons.mp hm).resolve_left fun z => hy z.symm) (by simpa using hlen)
    refine ⟨j + 1, by simpa using hj, by simpa using e1, fun m hm' hlt => ?_, by rw [List.findIdx_cons, decide_eq_false hy, e3]; rfl⟩
    cases m with
    | zero => simp [hy]
    | succ m => have := e2 m (by simpa using hm') (by omega); simpa using this
 have hj' : j < ts.length := by rw [List.size_toArray, hlen] at hj; exact hj
 have hsm : (j : Int) < 2 ^ 63 - 1 := by
  have h2 : ts.length ≤ sizeLine := by rw [List.length_map] at hz; exact hz
  have h3 : (sizeLine : Nat) < 2 ^ 62 := by decide
  omega
 refine call_meets PySem.F.slot_list_index ⟨_, ho, rfl⟩ PySem.F.entry_list_index (PySem.F.args_list_index_2 _ _) (PySem.SeqAt.list_indexAt l _ n d0 s0 (.str t tk) (fun y => match y with | .str y _ => y == t | _ => false) j hj hsm e1 e2) ⟨ho, fun y hy => ?_, ?_⟩
 ·
  obtain ⟨x, tx, rfl⟩ := hs.all y (by simpa using hy)
  exact PySem.SeqAt.EqAt.str_str x tx t tk
 ·
  rw [← e3] at q
  exact ⟨.int j, H, I.tok _, ⟨_, rfl⟩, q⟩
end
end L2
namespace L2
open PySem PySem.Spec PyProof.Rows DX
def Lt.bo : Lt → Bool
 | .bid .. => true
 | .off .. => true
 | _ => false
structure Td where
 a : Str
 n : Int
 t : Int
 st : Str
 be : Option (Int × Int)
 yes : List Str
 no : List Str
 sil : List Str
 come : List Str
 late : List Str
section
variable (ltP : Int × Str → Int × Str → Bool) (S : Lt → Prop)
def IsBest (t : Int) (h : Str) (g : Int) (w : Str) : Prop := (∃ a n, S (.ans a n t h g w)) ∧ ∀ a n g' w', S (.ans a n t h g' w') → ltP (g, w) (g', w') = false
def WordIs (t : Int) (h : Str) : Option Str → Prop
 | none => ∀ a n g w, ¬ S (.ans a n t h g w)
 | some w => ∃ g, IsBest ltP S t h g w
def wfil (wf : Str → Option Str) (o : Option Str) (hs : List Str) : List Str := hs.filter fun h => decide (wf h = o)
def ToldOf : Lt → Td → Prop
 | .off a n t, td => td = ⟨a, n, t, "off", none, [], [], [], [], []⟩
 | .bid a n t b e hs, td => ∃ wf : Str → Option Str, (∀ h ∈ hs, WordIs ltP S t h (wf h)) ∧
  (
   ((∀ a' n' hs', ¬ S (.close a' n' t hs')) ∧ td = ⟨a, n, t, "open", some (b, e), wfil wf (some (Str.ofString "yes")) hs, wfil wf (some (Str.ofString "no")) hs, wfil wf none hs, [], []⟩) ∨
   ∃ a' n' hs', S (.close a' n' t hs') ∧ td = ⟨a, n, t, "closed", some (b, e), wfil wf (some (Str.ofString "yes")) hs, wfil wf (some (Str.ofString "no")) hs, wfil wf none hs, hs', (wfil wf (some (Str.ofString "yes")) hs).filter fun h => !decide (h ∈ hs')⟩)
 | _, _ => False
def IsLast (x : Lt) : Prop := S x ∧ x.bo = true ∧ ∀ y, S y → y.bo = true → y.turn ≤ x.turn
def IsTold : Option Td → Prop
 | none => ∀ x, S x → x.bo = false
 | some td => ∃ x, IsLast S x ∧ ToldOf ltP S x td
end
structure Uniq (S : Lt → Prop) : Prop where
 bo : ∀ x y, S x → S y → x.bo = true → y.bo = true → x.turn = y.turn → x = y
 cl : ∀ a n t hs a' n' hs', S (.close a n t hs) → S (.close a' n' t hs') → hs = hs'
section
variable {ltP : Int × Str → Int × Str → Bool} {S : Lt → Prop}
theorem IsLast.uniq (U : Uniq S) {x y : Lt} (h : IsLast S x) (h' : IsLast S y) : x = y :=
 U.bo x y h.1 h'.1 h.2.1 h'.2.1 (Int.le_antisymm (h'.2.2 x h.1 h.2.1) (h.2.2 y h'.1 h'.2.1))
theorem WordIs.uniq (L : DX.Lin ltP) {t : Int} {h : Str} {o o' : Option Str} (k : WordIs ltP S t h o) (k' : WordIs ltP S t h o') : o = o' := by
 cases o with
 |
  none =>
  cases o' with
  | none => rfl
  | some w => obtain ⟨g, ⟨a, n, e⟩, _⟩ := k'; exact absurd e (k a n g w)
 |
  some w =>
  obtain ⟨g, ⟨a, n, e⟩, m⟩ := k
  cases o' with
  | none => exact absurd e (k' a n g w)
  |
   some w' =>
   obtain ⟨g', ⟨a', n', e'⟩, m'⟩ := k'
   have := L.tot (g, w) (g', w') (m _ _ _ _ e') (m' _ _ _ _ e)
   injection this with _ e2
   rw [e2]
theorem wfil_congr {wf wf' : Str → Option Str} {hs : List Str} (h : ∀ x ∈ hs, wf x = wf' x) (o : Option Str) : wfil wf o hs = wfil wf' o hs := by
 unfold wfil
 refine List.filter_congr fun x hx => ?_
 rw [h x hx]
theorem ToldOf.uniq (L : DX.Lin ltP) (U : Uniq S) {x : Lt} {d d' : Td} (h : ToldOf ltP S x d) (h' : ToldOf ltP S x d') : d = d' := by
 cases x with
 | off a n t => exact h.trans h'.symm
 | close => exact h.elim
 | ans => exact h.elim
 |
  bid a n t b e hs =>
  obtain ⟨wf, hw, r⟩ := h
  obtain ⟨wf', hw', r'⟩ := h'
  have ew : ∀ z ∈ hs, wf z = wf' z := fun z hz => (hw z hz).uniq L (hw' z hz)
  have e1 := wfil_congr ew (some (Str.ofString "yes"))
  have e2 := wfil_congr ew (some (Str.ofString "no"))
  have e3 := wfil_congr ew none
  rcases r with ⟨c, rfl⟩ | ⟨a1, n1, h1, c, rfl⟩
  ·
   rcases r' with ⟨c', rfl⟩ | ⟨a2, n2, h2, c', rfl⟩
   · rw [e1, e2, e3]
   · exact absurd c' (c _ _ _)
  ·
   rcases r' with ⟨c', rfl⟩ | ⟨a2, n2, h2, c', rfl⟩
   · exact absurd c (c' _ _ _)
   · rw [e1, e2, e3, U.cl _ _ _ _ _ _ _ c c']
theorem IsTold.uniq (L : DX.Lin ltP) (U : Uniq S) {o o' : Option Td} (h : IsTold ltP S o) (h' : IsTold ltP S o') : o = o' := by
 cases o with
 |
  none =>
  cases o' with
  | none => rfl
  | some d => obtain ⟨x, hx, _⟩ := h'; have := h x hx.1; rw [hx.2.1] at this; cases this
 |
  some d =>
  obtain ⟨x, hx, k⟩ := h
  cases o' with
  | none => have := h' x hx.1; rw [hx.2.1] at this; cases this
  |
   some d' =>
   obtain ⟨y, hy, k'⟩ := h'
   have e := hx.uniq U hy
   subst e
   rw [k.uniq L U k']
end
def pk (x : Int × Str) : List Key := [.inl x.1, .inr x.2]
def ltP (a b : Int × Str) : Bool := lexB ltK (pk a) (pk b)
theorem pk_inj {a b : Int × Str} (h : pk a = pk b) : a = b := by
 injection h with h1 h2
 injection h2 with h2 _
 exact Prod.ext (Sum.inl.inj h1) (Sum.inr.inj h2)
theorem ltP_lin : Lin ltP where
 irr := fun a => (lex_lin ltK_lin).irr (pk a)
 tr := fun a b c => (lex_lin ltK_lin).tr (pk a) (pk b) (pk c)
 tot := fun a b h1 h2 => pk_inj ((lex_lin ltK_lin).tot _ _ h1 h2)
theorem ltP_fst {a b : Int × Str} (h : a.1 < b.1) : ltP a b = true := by
 show lexB ltK [.inl a.1, .inr a.2] [.inl b.1, .inr b.2] = true
 unfold lexB
 rw [if_neg (fun z => by have := Sum.inl.inj z; omega)]
 exact decide_eq_true h
theorem maxBy_top {gt : V → V → Bool} (irr : ∀ a, gt a a = false) (neg : ∀ a b c, gt a c = true → gt a b = true ∨ gt b c = true) (asym : ∀ a b, gt a b = true → gt b a = false) : ∀ {xs : List V} {b : V}, ∀ z ∈ b :: xs, gt z (maxBy gt b xs) = false
 |
  [], b, z, hz => by
  rw [List.mem_singleton] at hz
  subst hz
  exact irr _
 |
  x :: xs, b, z, hz => by
  have ih := maxBy_top irr neg asym (xs := xs) (b := if gt x b then x else b)
  have e : maxBy gt b (x :: xs) = maxBy gt (if gt x b then x else b) xs := rfl
  rw [e]
  generalize maxBy gt (if gt x b then x else b) xs = M at *
  have two : ∀ u v, gt u v = false → gt v M = false → gt u M = false := fun u v h1 h2 => by
   cases h : gt u M with
   | false => rfl
   | true =>
     rcases neg u v M h with h | h
     · rw [h1] at h; cases h
     · rw [h2] at h; cases h
  rcases List.mem_cons.mp hz with rfl | hz
  ·
   cases hg : gt x z with
   | false => rw [hg] at ih; exact ih z (List.mem_cons_self ..)
   | true => rw [hg] at ih; exact two z x (asym _ _ hg) (ih x (List.mem_cons_self ..))
  ·
   rcases List.mem_cons.mp hz with rfl | hz
   ·
    cases hg : gt z b with
    | false => rw [hg] at ih; exact two z b hg (ih b (List.mem_cons_self ..))
    | true => rw [hg] at ih; exact ih z (List.mem_cons_self ..)
   · exact ih z (List.mem_cons_of_mem _ hz)
theorem gtT_irr (a : Int × List NK) : gtTurn a a = false := by
 unfold gtTurn
 rw [ltL_lin.irr, decide_eq_false (Int.lt_irrefl _), Bool.and_false, Bool.or_false]
theorem gtT_iff {a b : Int × List NK} : gtTurn a b = true ↔ b.1 < a.1 ∨ (a.1 = b.1 ∧ ltL b.2 a.2 = true) := by
 unfold gtTurn
 rw [Bool.or_eq_true, Bool.and_eq_true, decide_eq_true_eq, decide_eq_true_eq]
theorem gtT_neg (a b c : Int × List NK) (h : gtTurn a c = true) : gtTurn a b = true ∨ gtTurn b c = true := by
 rw [gtT_iff, gtT_iff]
 rcases gtT_iff.mp h with h | ⟨h1, h2⟩
 ·
  by_cases e : b.1 < a.1
  · exact .inl (.inl e)
  · exact .inr (.inl (by omega))
 ·
  by_cases e : b.1 < a.1
  · exact .inl (.inl e)
  ·
   by_cases e2 : a.1 < b.1
   · exact .inr (.inl (by omega))
   ·
    rcases ltL_lin.neg (b := b.2) h2 with z | z
    · exact .inr (.inr ⟨by omega, z⟩)
    · exact .inl (.inr ⟨by omega, z⟩)
theorem gtT_asym (a b : Int × List NK) (h : gtTurn a b = true) : gtTurn b a = false := by
 cases e : gtTurn b a with
 | false => rfl
 |
  true =>
  rcases gtT_iff.mp h with h | ⟨h1, h2⟩ <;> rcases gtT_iff.mp e with e | ⟨e1, e2⟩
  · omega
  · omega
  · omega
  · rw [ltL_lin.asym h2] at e2; cases e2
theorem gtT_le {a b : Int × List NK} (h : gtTurn a b = false) : a.1 ≤ b.1 := by
 rcases Int.lt_or_le b.1 a.1 with z | z
 · rw [gtT_iff.mpr (.inl z)] at h; cases h
 · exact z
def AnsB (H : Hp) (S : Lt → Prop) (t : Int) (kvs : List (Key × V)) : Prop := ∀ h : Str, (valV kvs (.inr h) = none ∧ ∀ a n g w, ¬ S (.ans a n t h g w)) ∨ ∃ (q : Addr) (g : Int) (w : Str), valV kvs (.inr h) = some (.ref q) ∧ H q = some (.tup [.int g, .str w]) ∧ IsBest ltP S t h g w
def KnowW (H : Hp) (kvs : List (Key × V)) (h : Str) (o : Option Str) : Prop := (valV kvs (.inr h) = none ∧ o = none) ∨ ∃ (q : Addr) (g : Int) (w : Str), valV kvs (.inr h) = some (.ref q) ∧ H q = some (.tup [.int g, .str w]) ∧ o = some w
theorem KnowW.up {H H' : Hp} {kvs : List (Key × V)} {h : Str} {o : Option Str} (k : KnowW H kvs h o) (s : Same H H') : KnowW H' kvs h o := k.imp id fun ⟨q, g, w, e1, e2, e3⟩ => ⟨q, g, w, e1, s _ _ e2, e3⟩
theorem AnsB.up {H H' : Hp} {S : Lt → Prop} {t : Int} {kvs : List (Key × V)} (h : AnsB H S t kvs) (ht : ∀ b xs, H b = some (.tup xs) → H' b = some (.tup xs)) : AnsB H' S t kvs := fun x => (h x).imp id fun ⟨q, g, w, e1, e2, e3⟩ => ⟨q, g, w, e1, ht _ _ e2, e3⟩
theorem AnsB.know {H : Hp} {S : Lt → Prop} {t : Int} {kvs : List (Key × V)} (h : AnsB H S t kvs) : ∃ wf : Str → Option Str, ∀ x, KnowW H kvs x (wf x) ∧ WordIs ltP S t x (wf x) := by
 refine ⟨fun x => Classical.choose (show ∃ o, KnowW H kvs x o ∧ WordIs ltP S t x o from ?_), fun x => Classical.choose_spec (p := fun o => KnowW H kvs x o ∧ WordIs ltP S t x o) _⟩
 rcases h x with ⟨e, k⟩ | ⟨q, g, w, e1, e2, e3⟩
 · exact ⟨none, .inl ⟨e, rfl⟩, k⟩
 · exact ⟨some w, .inr ⟨q, g, w, e1, e2, rfl⟩, g, e3⟩
theorem AnsB.skip {H : Hp} {S S' : Lt → Prop} {t : Int} {kvs : List (Key × V)} (h : AnsB H S t kvs) (e : ∀ a n x g w, S' (.ans a n t x g w) ↔ S (.ans a n t x g w)) : AnsB H S' t kvs := fun x => (h x).imp (fun ⟨e1, e2⟩ => ⟨e1, fun a n g w z => e2 a n g w ((e a n x g w).mp z)⟩) fun ⟨q, g, w, e1, e2, ⟨a, n, e3⟩, e4⟩ => ⟨q, g, w, e1, e2, ⟨a, n, (e a n x g w).mpr e3⟩, fun a' n' g' w' z => e4 a' n' g' w' ((e a' n' x g' w').mp z)⟩
theorem AnsB.put {H : Hp} {S S' : Lt → Prop} {t g0 : Int} {w0 x0 a0 : Str} {n0 : Int} {kvs : List (Key × V)} {q : Addr} {g : Int} {w : Str} (h : AnsB H S t kvs) (e : ∀ a n x g w, S' (.ans a n t x g w) ↔ S (.ans a n t x g w) ∨ Lt.ans a n t x g w = .ans a0 n0 t x0 g0 w0)
  (hq : H q = some (.tup [.int g, .str w])) (hb : IsBest ltP S' t x0 g w) : AnsB H S' t (putK kvs (.inr x0) (.ref q)) := fun x => by
 by_cases ex : x = x0
 ·
  subst ex
  exact .inr ⟨q, g, w, by rw [valV_put, if_pos rfl], hq, hb⟩
 ·
  have ev : valV (putK kvs (.inr x0) (.ref q)) (.inr x) = valV kvs (.inr x) := by rw [valV_put, if_neg (fun z => ex (Sum.inr.inj z))]
  rw [ev]
  have e' : ∀ a n g w, S' (.ans a n t x g w) ↔ S (.ans a n t x g w) := fun a n g w => by
   rw [e]
   exact ⟨fun z => z.elim id fun y => absurd (by injection y) ex, .inl⟩
  exact (h x).imp (fun ⟨e1, e2⟩ => ⟨e1, fun a n g w z => e2 a n g w ((e' a n g w).mp z)⟩) fun ⟨q, g, w, e1, e2, ⟨a, n, e3⟩, e4⟩ => ⟨q, g, w, e1, e2, ⟨a, n, (e' a n g w).mpr e3⟩, fun a' n' g' w' z => e4 a' n' g' w' ((e' a' n' g' w').mp z)⟩
theorem best_new {S S' : Lt → Prop} {t g0 : Int} {w0 x0 a0 : Str} {n0 : Int} (e : ∀ a n x g w, S' (.ans a n t x g w) ↔ S (.ans a n t x g w) ∨ Lt.ans a n t x g w = .ans a0 n0 t x0 g0 w0) (h : ∀ a n g w, S (.ans a n t x0 g w) → ltP (g0, w0) (g, w) = false) : IsBest ltP S' t x0 g0 w0 := by
 refine ⟨⟨a0, n0, (e _ _ _ _ _).mpr (.inr rfl)⟩, fun a n g' w' z => ?_⟩
 rcases (e _ _ _ _ _).mp z with z | z
 · exact h a n g' w' z
 ·
  injection z with _ _ _ _ z1 z2
  subst z1 z2
  exact ltP_lin.irr _
theorem best_old {S S' : Lt → Prop} {t g0 g : Int} {w0 w x0 a0 : Str} {n0 : Int} (e : ∀ a n x g w, S' (.ans a n t x g w) ↔ S (.ans a n t x g w) ∨ Lt.ans a n t x g w = .ans a0 n0 t x0 g0 w0) (h : IsBest ltP S t x0 g w) (hn : ltP (g, w) (g0, w0) = false) : IsBest ltP S' t x0 g w := by
 obtain ⟨⟨a, n, h1⟩, h2⟩ := h
 refine ⟨⟨a, n, (e _ _ _ _ _).mpr (.inl h1)⟩, fun a' n' g' w' z => ?_⟩
 rcases (e _ _ _ _ _).mp z with z | z
 · exact h2 a' n' g' w' z
 ·
  injection z with _ _ _ _ z1 z2
  subst z1 z2
  exact hn
def beV : Option (Int × Int) → V × V
 | none => (.non, .non)
 | some (b, e) => (.int b, .int e)
structure TdAt (H : Hp) (d : Td) (r : Addr) : Prop where
 at_ : ∃ q1 q2 q3 q4 q5 : Addr, H r = some (.tup [.str d.a, .int d.n, .int d.t, .str d.st, (beV d.be).1, (beV d.be).2, .ref q1, .ref q2, .ref q3, .ref q4, .ref q5]) ∧ H q1 = some (.tup (d.yes.map V.str)) ∧ H q2 = some (.tup (d.no.map V.str)) ∧ H q3 = some (.tup (d.sil.map V.str)) ∧ H q4 = some (.tup (d.come.map V.str)) ∧ H q5 = some (.tup (d.late.map V.str))
 few : d.yes.length ≤ 1000 ∧ d.no.length ≤ 1000 ∧ d.sil.length ≤ 1000 ∧ d.come.length ≤ 1000 ∧ d.late.length ≤ 1000
theorem TdAt.upT {H H' : Hp} {d : Td} {r : Addr} (h : TdAt H d r) (s : ∀ b xs, H b = some (.tup xs) → H' b = some (.tup xs)) : TdAt H' d r := ⟨let ⟨q1, q2, q3, q4, q5, e0, e1, e2, e3, e4, e5⟩ := h.at_; ⟨q1, q2, q3, q4, q5, s _ _ e0, s _ _ e1, s _ _ e2, s _ _ e3, s _ _ e4, s _ _ e5⟩, h.few⟩
theorem TdAt.up {H H' : Hp} {d : Td} {r : Addr} (h : TdAt H d r) (s : Same H H') : TdAt H' d r := h.upT fun b _ e => s b _ e
end L2
namespace L2
open PySem PySem.Spec PyProof.Rows DX
def mkK (k : Str × Int) : List Key := [.inr k.1, .inl k.2]
theorem mkK_inj {k k' : Str × Int} (h : mkK k = mkK k') : k = k' := by
 injection h with h1 h2
 injection h2 with h2 _
 exact Prod.ext (Sum.inr.inj h1) (Sum.inl.inj h2)
def inM (ms : List (Lt × Addr)) (x : Lt) : Prop := x ∈ ms.map (·.1)
def inK (ms : List (Lt × Addr)) (k : Str × Int) (x : Lt) : Prop := inM ms x ∧ x.mk = k
theorem inM_of (k : Str × Int) (ms : List (Lt × Addr)) : inM (ofM k ms) = inK ms k := by
 funext x
 refine propext ⟨fun h => ?_, fun h => ?_⟩
 ·
  obtain ⟨y, hy, rfl⟩ := List.mem_map.mp h
  obtain ⟨h1, h2⟩ := List.mem_filter.mp hy
  exact ⟨List.mem_map_of_mem h1, of_decide_eq_true h2⟩
 ·
  obtain ⟨h1, h2⟩ := h
  obtain ⟨y, hy, rfl⟩ := List.mem_map.mp h1
  exact List.mem_map_of_mem (List.mem_filter.mpr ⟨hy, decide_eq_true h2⟩)
theorem inK_new {ms : List (Lt × Addr)} {l : Lt} {p : Addr} {k : Str × Int} (h : k ≠ l.mk) : inK (ms ++ [(l, p)]) k = inK ms k := by
 funext x
 unfold inK inM
 rw [List.map_append, List.mem_append]
 refine propext ⟨fun z => ⟨z.1.elim id fun y => ?_, z.2⟩, fun z => ⟨.inl z.1, z.2⟩⟩
 have e : x = l := List.mem_singleton.mp y
 exact absurd (by rw [← z.2, e]) h
theorem inK_old {ms : List (Lt × Addr)} {l : Lt} {p : Addr} {k : Str × Int} {x : Lt} (h : inK ms k x) : inK (ms ++ [(l, p)]) k x := by
 unfold inK inM at h ⊢
 rw [List.map_append, List.mem_append]
 exact ⟨.inl h.1, h.2⟩
structure TlOk (H : Hp) (ms : List (Lt × Addr)) (ts : List (List Key × V)) : Prop where
 val : ∀ k : Str × Int, (valV ts (mkK k) = none ∧ IsTold ltP (inK ms k) none) ∨ ∃ (r : Addr) (d : Td), valV ts (mkK k) = some (.ref r) ∧ TdAt H d r ∧ IsTold ltP (inK ms k) (some d)
 keys : ∀ kv ∈ ts, ∃ k : Str × Int, kv.1 = mkK k
theorem TlOk.upT {H H' : Hp} {ms : List (Lt × Addr)} {ts : List (List Key × V)} (h : TlOk H ms ts) (s : ∀ b xs, H b = some (.tup xs) → H' b = some (.tup xs)) : TlOk H' ms ts := ⟨fun k => (h.val k).imp id fun ⟨r, d, e1, e2, e3⟩ => ⟨r, d, e1, e2.upT s, e3⟩, h.keys⟩
theorem TlOk.up {H H' : Hp} {ms : List (Lt × Addr)} {ts : List (List Key × V)} (h : TlOk H ms ts) (s : Same H H') : TlOk H' ms ts := h.upT fun b _ e => s b _ e
theorem TlOk.non {H : Hp} {ms : List (Lt × Addr)} {ts : List (List Key × V)} {l : Lt} {p : Addr} (h : TlOk H ms ts) (hn : IsTold ltP (inK (ms ++ [(l, p)]) l.mk) none) : TlOk H (ms ++ [(l, p)]) ts := ⟨fun k => by
 by_cases e : k = l.mk
 ·
  subst e
  rcases h.val l.mk with ⟨h1, _⟩ | ⟨r, d, h1, h2, x, hx, _⟩
  · exact .inl ⟨h1, hn⟩
  ·
   have := hn x (inK_old hx.1)
   rw [hx.2.1] at this
   cases this
 ·
  rw [inK_new e]
  exact h.val k, h.keys⟩
theorem TlOk.put {H : Hp} {ms : List (Lt × Addr)} {ts : List (List Key × V)} {l : Lt} {p r : Addr} {d : Td} (h : TlOk H ms ts) (ht : TdAt H d r) (hd : IsTold ltP (inK (ms ++ [(l, p)]) l.mk) (some d)) : TlOk H (ms ++ [(l, p)]) (putK ts (mkK l.mk) (.ref r)) := ⟨fun k => by
 rw [valV_put]
 by_cases e : k = l.mk
 ·
  subst e
  rw [if_pos rfl]
  exact .inr ⟨r, d, rfl, ht, hd⟩
 ·
  rw [if_neg (fun z => e (mkK_inj z)), inK_new e]
  exact h.val k, fun kv hkv => by
 unfold putK at hkv
 split at hkv
 ·
  obtain ⟨y, hy, rfl⟩ := List.mem_map.mp hkv
  split
  · exact h.keys y hy
  · exact h.keys y hy
 ·
  rcases List.mem_append.mp hkv with hkv | hkv
  · exact h.keys kv hkv
  ·
   rw [List.mem_singleton] at hkv
   subst hkv
   exact ⟨l.mk, rfl⟩⟩
theorem al_td {H : Hp} {n : Nat} {d : Td} {r r' : Addr} (h : TdAt H d r) (h' : TdAt H d r') : AlH H (n + 3) (.ref r) (.ref r') := by
 obtain ⟨q1, q2, q3, q4, q5, e0, e1, e2, e3, e4, e5⟩ := h.at_
 obtain ⟨p1, p2, p3, p4, p5, f0, f1, f2, f3, f4, f5⟩ := h'.at_
 obtain ⟨z1, z2, z3, z4, z5⟩ := h.few
 have hb : AlH H (n + 2) (beV d.be).1 (beV d.be).1 ∧ AlH H (n + 2) (beV d.be).2 (beV d.be).2 := by
  cases d.be with
  | none => exact ⟨al_n, al_n⟩
  | some x => exact ⟨al_i, al_i⟩
 exact .inr ⟨r, r', _, _, rfl, rfl, .inl ⟨e0, f0⟩, rfl, by show 11 ≤ 1000; decide, al_cons al_s (al_cons al_i (al_cons al_i (al_cons al_s (al_cons hb.1 (al_cons hb.2 (al_cons (al_strs e1 f1 z1) (al_cons (al_strs e2 f2 z2) (al_cons (al_strs e3 f3 z3) (al_cons (al_strs e4 f4 z4) (al_cons (al_strs e5 f5 z5) al_nil))))))))))⟩
theorem told_alike {H : Hp} {ms : List (Lt × Addr)} {ts : List (List Key × V)} {k : Str × Int} {v : V} (tl : TlOk H ms ts) (U : Uniq (inK ms k)) (hv : (v = .non ∧ IsTold ltP (inK ms k) none) ∨ ∃ (r : Addr) (d : Td), v = .ref r ∧ TdAt H d r ∧ IsTold ltP (inK ms k) (some d)) : AlH H 6 ((valV ts (mkK k)).getD .non) v := by
 rcases tl.val k with ⟨e1, h1⟩ | ⟨r, d, e1, t1, h1⟩
 ·
  rcases hv with ⟨rfl, _⟩ | ⟨r', d', rfl, t2, h2⟩
  · rw [e1]; exact al_n
  · cases IsTold.uniq ltP_lin U h1 h2
 ·
  rcases hv with ⟨rfl, h2⟩ | ⟨r', d', rfl, t2, h2⟩
  · cases IsTold.uniq ltP_lin U h1 h2
  ·
   have e := Option.some.inj (IsTold.uniq ltP_lin U h1 h2)
   subst e
   rw [e1]
   exact al_td t1 t2
end L2
namespace L2
open PySem PySem.W PyProof.Rows PySem.SeqAt DX
abbrev IntFst (ks : List NK) : Prop := ∃ i r, ks = .inl (.inl i) :: r
section
variable {prog : Program} {w : World} {A : Around} {s : Shared}
theorem kat_items2 {C : Bool → Shared → Prop} {fin : Bool} (hu : A.units < cLine) {ks ks' : List NK} {us us' : List Value} (h : NItems prog w s.heap ks us) (h' : NItems prog w s.heap ks' us') (ok : okL ks ks' = true) (hf : fin = decide (ks.length < ks'.length))
  (i1 : IntFst ks) (i2 : IntFst ks') (hC : C (ltL ks ks') s) : KatLex prog w A true fin C (us.zip us') 0 s := by
 obtain ⟨i, r, rfl⟩ := i1
 obtain ⟨j, r', rfl⟩ := i2
 cases h with
 | @cons _ u _ us h1 h2 =>
 cases h' with
 | @cons _ u' _ us' h1' h2' =>
 have e : ltL (.inl (.inl i) :: r) (.inl (.inl j) :: r') = if (Sum.inl (Sum.inl i) : NK) = .inl (.inl j) then ltL r r' else ltN (.inl (.inl i)) (.inl (.inl j)) := rfl
 rw [e] at hC
 unfold okL at ok
 rw [List.zip_cons_cons]
 refine kat_cons (item_eq hu h1 h1' ?_)
 by_cases ek : (Sum.inl (Sum.inl i) : NK) = .inl (.inl j)
 ·
  rw [if_pos ek] at ok hC
  rw [decide_eq_true ek]
  exact kat_yes (kat_items hu 1 h2 h2' ok (by rw [hf]; exact decide_eq_decide.mpr (by simp only [List.length_cons]; omega)) (fun z => absurd z (by decide)) hC)
 ·
  rw [if_neg ek] at ok hC
  rw [decide_eq_false ek]
  refine kat_no ?_
  obtain ⟨tk, rfl⟩ := Value.isInt_shape (k := i) (v := u) h1
  obtain ⟨tk', rfl⟩ := Value.isInt_shape (k := j) (v := u') h1'
  exact oneLt_int hC
theorem nest_katI {h : Heap} : ∀ {ms : List (List NK × Addr)}, (∀ x ∈ ms, IsNest prog w h x.1 x.2 ∧ IntFst x.1) → ∃ fs, KatTups h (ms.map fun x => Value.ref x.2) fs ∧ fs.length = ms.length ∧ ∀ v ∈ fs, ∃ (t : Int) (k : Tok), v = .int t k
 | [], _ => ⟨[], trivial, rfl, fun _ z => nomatch z⟩
 |
  x :: ms, H => by
  obtain ⟨fs, k, e, hv⟩ := nest_katI (ms := ms) fun y hy => H y (List.mem_cons_of_mem _ hy)
  obtain ⟨⟨o, its, n, ho, hc, hd, hi⟩, t, r, ex⟩ := H x (List.mem_cons_self ..)
  rw [ex] at hi
  generalize hl : its.toList = l at hi
  cases hi with
  |
   cons h1 h2 =>
   obtain ⟨tk, rfl⟩ := Value.isInt_shape (k := t) h1
   refine ⟨.int t tk :: fs, KatTups.cons ho hc hd (by rw [← Array.getElem?_toList, hl]; rfl) k, by rw [List.length_cons, List.length_cons, e], fun v hm => ?_⟩
   rcases List.mem_cons.mp hm with rfl | hm
   · exact ⟨_, _, rfl⟩
   · exact hv v hm
theorem nest_sortsI {h₀ : Heap} {ms : List (List NK × Addr)} (hu : A.units < cLine) (h1 : 1 ≤ ms.length) (kp : ∀ b o, h₀.get? b = some o → s.heap.get? b = some o) (H : ∀ x ∈ ms, IsNest prog w h₀ x.1 x.2 ∧ IntFst x.1) (ok : ∀ x ∈ ms, ∀ y ∈ ms, okL x.1 y.1 = true) :
  SortsV prog w A s (tuples' true) (O := nkO) (nkOf prog w h₀) (ms.map fun x => Value.ref x.2) where
 kind := fun E Q hq => by
  obtain ⟨fs, k, e, hv⟩ := nest_katI (h := s.heap) (ms := ms) fun x hx => ⟨(H x hx).1.kept kp, (H x hx).2⟩
  refine kat_kind (T := .type "int") k (by omega) (fun v hm => ?_) rfl hq
  obtain ⟨i, t, rfl⟩ := hv v hm
  exact W.Looks.now
 cmp := fun u hu' v hv C hC => by
  obtain ⟨x, hx, rfl⟩ := List.mem_map.mp hu'
  obtain ⟨y, hy, rfl⟩ := List.mem_map.mp hv
  have ax := H x hx
  have ay := H y hy
  have hC' : C (ltL (nkOf prog w h₀ (.ref x.2)) (nkOf prog w h₀ (.ref y.2))) s := hC
  rw [nkOf_at ax.1, nkOf_at ay.1] at hC'
  obtain ⟨o, its, n, ho, hc, hd, hi⟩ := ax.1.kept kp
  obtain ⟨o', its', n', ho', hc', hd', hi'⟩ := ay.1.kept kp
  refine kat_lt ho hd ho' hd' (kat_items2 hu hi hi' (ok x hx y hy) ?_ ax.2 ay.2 hC')
  rw [hi.length, hi'.length, Array.length_toList, Array.length_toList]
end
section
variable {X : Cx}
theorem call_sortedN (hu : X.A.units + 2 < cLine) : CallR X (.builtin "sorted") (fun xs H Q => ∃ (l : Addr) (ms : List (List NK × Addr)), xs = [.ref l] ∧ H l = some (.lst (ms.map fun x => V.ref x.2)) ∧ (∀ x ∈ ms, NkAt H x.1 x.2) ∧ ms.length < 64 ∧ ((∀ x ∈ ms, StrFst x.1) ∨ (∀ x ∈ ms, IntFst x.1)) ∧ (∀ x ∈ ms, ∀ y ∈ ms, okL x.1 y.1 = true) ∧
  ∀ (D : Addr) (qs : List (List NK × Addr)), H D = none → qs.Perm ms → (keysOf qs).Pairwise (fun x y => ltL y x = false) → Q (.ref D) (upd H D (.lst (qs.map fun x => V.ref x.2)))) := by
 intro pins s σ H xs us Q I r h
 obtain ⟨l, ms, rfl, hl, hk, h64, hs, ok, q⟩ := h
 obtain ⟨u, rfl, ru⟩ := vals1 r
 cases ru
 obtain ⟨its, rv, pl, hz⟩ := I.list (SqL.of (K := X.K) hl)
 have e := vals_refN rv
 subst e
 have hn : ∀ x ∈ ms, IsNest X.prog X.w s.heap x.1 x.2 := fun x hx => nest_ok I.hok (hk x hx)
 refine small_sortedC (G := fun vs => vs = ms.map fun x => Value.ref x.2) (O := nkO) (key := nkOf X.prog X.w s.heap) (κ := tuples' true)
  (fun E' Q' hq => collect_list pl.isList (hq _ s.toks _ (fun b o q => by rw [Heap.get?_update_ne _ _ _ _ (Nat.ne_of_lt (Heap.lt_size q)), Heap.get?_push_ne _ _ _ (Nat.ne_of_lt (Heap.lt_size q))]; exact q) (by rw [Heap.size_update, size_push']; exact Nat.le_succ _) rfl) (by rw [List.length_map, sizeLine_eq]; omega)) ?_ (fun vs e h2 s' kp => ?_) fun D h' tk vs us e hg a1 a2 kp hge he => ?_
 ·
  rintro vs rfl
  rw [List.length_map]
  exact h64
 ·
  subst e
  rw [List.length_map] at h2
  rcases hs with hs | hs
  · exact nest_sorts (A := X.A.in1.in1) hu (by omega) kp (fun x hx => ⟨hn x hx, hs x hx⟩) ok
  · exact nest_sortsI (A := X.A.in1.in1) hu (by omega) kp (fun x hx => ⟨hn x hx, hs x hx⟩) ok
 ·
  subst hg
  obtain ⟨qs, p1, rfl⟩ := perm_of_map (f := fun (x : List NK × Addr) => Value.ref x.2) a1 ms rfl
  refine ⟨.ref D, _, I.laid (t' := tk) (o := .lst (qs.map fun x => V.ref x.2)) kp hge ?_, rfl, q _ qs (I.hok.fresh hge) p1 ?_⟩
  ·
   refine ⟨by rw [List.length_map, p1.length_eq, sizeLine_eq]; omega, _, e, ?_, he⟩
   clear a1 a2 p1 he
   induction qs with
   | nil => exact .nil
   | cons x qs ih => exact .cons rfl ih
  ·
   rw [List.pairwise_map] at a2 ⊢
   refine a2.imp_of_mem fun {x y} hx hy z => ?_
   have z' : ltL (nkOf X.prog X.w s.heap (.ref y.2)) (nkOf X.prog X.w s.heap (.ref x.2)) = false := z
   rw [nkOf_at (hn _ (p1.mem_iff.mp hx)), nkOf_at (hn _ (p1.mem_iff.mp hy))] at z'
   exact z'
theorem NItems.get {prog : Program} {w : World} {h : Heap} : ∀ {ks : List NK} {us : List Value}, NItems prog w h ks us → ∀ (j : Nat) (hj : j < us.length), ∃ k, ks[j]? = some k ∧ NItem prog w h k us[j]
 | _, _, .nil, j, hj => absurd hj (Nat.not_lt_zero _)
 | _, _, .cons h1 _, 0, _ => ⟨_, rfl, h1⟩
 |
  _, _, .cons _ h2, j + 1, hj => by
  obtain ⟨k, e, q⟩ := NItems.get h2 j (by simpa using hj)
  exact ⟨k, by simpa using e, by simpa using q⟩
theorem all_eq {ks ks' : List NK} : ((List.range (min ks.length ks'.length)).all (fun j => decide (ks[j]? = ks'[j]?)) && ks.length == ks'.length) = decide (ks = ks') := by
 rw [Bool.eq_iff_iff, Bool.and_eq_true, List.all_eq_true, beq_iff_eq, decide_eq_true_eq]
 constructor
 ·
  rintro ⟨h, e⟩
  refine List.ext_getElem? fun j => ?_
  by_cases hj : j < ks.length
  · exact of_decide_eq_true (h j (List.mem_range.mpr (by omega)))
  · rw [List.getElem?_eq_none (by omega), List.getElem?_eq_none (by omega)]
 ·
  rintro rfl
  exact ⟨fun _ _ => decide_eq_true rfl, rfl⟩
theorem op_eqN (hu : X.A.units + 2 < cLine) : OpR X (compareOp .Eq) (fun x y H Q => ∃ (p q : Addr) (ks ks' : List NK), x = .ref p ∧ y = .ref q ∧ NkAt H ks p ∧ NkAt H ks' q ∧ Q (.bl (decide (ks = ks'))) H) := by
 intro pins s σ H x y v u Q I rx ry h
 obtain ⟨p, q0, ks, ks', rfl, rfl, hp, hq, q⟩ := h
 cases rx
 cases ry
 obtain ⟨xs, t1, i1⟩ := (nest_ok I.hok hp).isTuple
 obtain ⟨ys, t2, i2⟩ := (nest_ok I.hok hq).isTuple
 have l1 : ks.length = xs.size := by rw [i1.length, Array.length_toList]
 have l2 : ks'.length = ys.size := by rw [i2.length, Array.length_toList]
 refine eq_tupleAt (e := fun j => decide (ks[j]? = ks'[j]?)) t1 t2 (by omega) (fun j h1 h2 => ?_) ?_
 ·
  obtain ⟨k, e1, n1⟩ := i1.get j (by rw [Array.length_toList]; exact h1)
  obtain ⟨k', e2, n2⟩ := i2.get j (by rw [Array.length_toList]; exact h2)
  rw [Array.getElem_toList] at n1 n2
  rw [show decide (ks[j]? = ks'[j]?) = decide (k = k') from decide_eq_decide.mpr (by rw [e1, e2, Option.some.injEq])]
  exact eq_item (A := X.A.in1) (by show X.A.units + 1 < cLine; omega) n1 n2
 ·
  rw [← l1, ← l2, all_eq]
  exact ⟨.bl _, H, I, rfl, q⟩
end
end L2
namespace L2
open PySem PySem.Spec PyProof.Rows
theorem comp_two {K : W.Frag} {J : It} {cap : List (Option Nat)} {tt : TT} {te : TE} {σ : St} {H1 : Hp} {Q : VK} {rs : List (Addr × V × V)} (hJ : Seq J H1 (rs.map fun r => V.ref r.1)) (ok : ∀ r ∈ rs, H1 r.1 = some (.tup [r.2.1, r.2.2])) (f : V × V → V) (hsz : rs.length ≤ 100000) (htt : ∀ σ H R, R true H → tt σ H R)
  (he : ∀ r ∈ rs, ∀ H', Same H1 H' → ∀ R : VK, (∀ H'', Same H' H'' → R (f r.2) H'') → te (((capt cap σ).set 0 (some r.2.1)).set 1 (some r.2.2)) H' R)
  (k : ∀ D H', Same H1 H' → H1 D = none → H' D = some (.lst (rs.map fun r => f r.2)) → Q (.ref D) H') :
  compBody J H1 cap (gTup K 2 (gCons (gName 0) (gCons (gName 1) gNil))) tt te σ Q := by
 intro D hD
 refine ⟨fun i m ys σ' H' => m = rs.length - i ∧ i ≤ rs.length ∧ (∀ v w, (σ'.set 0 v).set 1 w = ((capt cap σ).set 0 v).set 1 w) ∧ H' D = some (.lst ys) ∧ Same H1 H' ∧ ys = (rs.take i).map fun r => f r.2,
  ⟨rs.length, by simp, Nat.zero_le _, fun _ _ => rfl, upd_same, same_upd hD, by simp⟩, ?_⟩
 rintro i m ys σ' H' ⟨rfl, hi, hσ, hl, sm, hys⟩
 refine ⟨hl, ?_⟩
 obtain ⟨q1, q2⟩ := hJ H' sm
 by_cases hlt : i < rs.length
 ·
  have e : (rs.map fun r => V.ref r.1)[i]? = some (.ref (rs[i]).1) := by simp [hlt]
  obtain ⟨go, y⟩ := q1 i _ e
  refine .inr ⟨go, fun x H2 hy => ?_⟩
  obtain ⟨rfl, rfl⟩ := y x H2 hy
  have hm : rs[i] ∈ rs := List.getElem_mem hlt
  have etake : rs.take (i + 1) = rs.take i ++ [rs[i]] := by rw [List.take_add_one, List.getElem?_eq_getElem hlt]; rfl
  refine ⟨(rs[i]).1, _, rfl, SqT.of (sm _ _ (ok _ hm)), rfl, _, _, rfl, _, _, rfl, rfl, ?_⟩
  have hss : ∀ v w, ((((capt cap σ).set 0 (some (rs[i]).2.1)).set 1 (some (rs[i]).2.2)).set 0 v).set 1 w = ((capt cap σ).set 0 v).set 1 w := fun v w => by
   rw [List.set_comm _ _ (by decide : (1 : Nat) ≠ 0), List.set_set, List.set_set]
  show tt ((σ'.set 0 (some (rs[i]).2.1)).set 1 (some (rs[i]).2.2)) _ _
  rw [hσ]
  refine htt _ _ _ (iteT ?_)
  refine he _ hm _ sm _ fun H5 s5 => ?_
  have hl5 := s5 _ _ hl
  refine ⟨hl5, ?_, rs.length - (i + 1), by omega, rfl, hlt, hss, upd_same, fun b o eb => ?_, ?_⟩
  ·
   have h1 : ys.length ≤ rs.length := by
    rw [hys, List.length_map, List.length_take]
    exact Nat.min_le_right _ _
   have h2 : (100000 : Nat) < sizeLine := by decide
   omega
  ·
   rw [upd_ne (ne_of_none eb hD)]
   exact s5 _ _ (sm _ _ eb)
  ·
   rw [etake, List.map_append, hys]
   rfl
 ·
  have e : i = rs.length := by omega
  subst e
  rw [List.length_map] at q2
  refine .inl ⟨q2, k D _ sm hD ?_⟩
  rw [hl, hys, List.take_length]
end L2
namespace DM
def leap (y : Int) : Bool := decide (y % 400 = 0) || (decide (y % 4 = 0) && !decide (y % 100 = 0))
def year (y : Int) : Int := (y - 2000) * 365 + (y - 2000 + 3) / 4 - (y - 2000 + 99) / 100 + (y - 2000 + 399) / 400
def len (y m : Int) : Int := if m = 2 then (if leap y then 29 else 28) else if m = 1 ∨ m = 3 ∨ m = 5 ∨ m = 7 ∨ m = 8 ∨ m = 10 ∨ m = 12 then 31 else 30
def ahead (m : Int) : Int := if m ≤ 1 then 0 else if m = 2 then 31 else if m = 3 then 59 else if m = 4 then 90 else if m = 5 then 120 else if m = 6 then 151 else if m = 7 then 181 else if m = 8 then 212 else if m = 9 then 243 else if m = 10 then 273 else if m = 11 then 304 else 334
def mb (n : Int) : Int := year (2000 + n / 12) + ahead (n % 12 + 1) + (if n % 12 + 1 > 2 ∧ leap (2000 + n / 12) = true then 1 else 0)
theorem leap_iff (y : Int) : leap y = true ↔ (y % 400 = 0 ∨ (y % 4 = 0 ∧ ¬ y % 100 = 0)) := by
 simp [leap]
theorem year_succ (y : Int) : year (y + 1) = year y + 365 + (if leap y = true then 1 else 0) := by
 unfold year
 by_cases h : leap y = true
 ·
  rw [if_pos h]
  rw [leap_iff] at h
  omega
 ·
  rw [if_neg h]
  rw [leap_iff] at h
  omega
theorem mb_tab : ∀ k : Nat, k < 11 → ∀ b : Bool, ahead ((k : Int) + 1 + 1) + (if (k : Int) + 1 + 1 > 2 ∧ b = true then 1 else 0) = ahead ((k : Int) + 1) + (if (k : Int) + 1 > 2 ∧ b = true then 1 else 0) +
 (if (k : Int) + 1 = 2 then (if b then 29 else 28) else if (k : Int) + 1 = 1 ∨ (k : Int) + 1 = 3 ∨ (k : Int) + 1 = 5 ∨ (k : Int) + 1 = 7 ∨ (k : Int) + 1 = 8 ∨ (k : Int) + 1 = 10 ∨ (k : Int) + 1 = 12 then 31 else 30) := by decide +kernel
theorem mb_end : ∀ b : Bool, ahead (0 + 1) + (if (0 : Int) + 1 > 2 ∧ b = true then 1 else 0) + 365 + (if b = true then 1 else 0) = ahead (11 + 1) + (if (11 : Int) + 1 > 2 ∧ b = true then 1 else 0) + 31 := by decide +kernel
theorem mb_succ (n : Int) : mb (n + 1) = mb n + len (2000 + n / 12) (n % 12 + 1) := by
 obtain ⟨k, hk⟩ := Int.eq_ofNat_of_zero_le (show 0 ≤ n % 12 by omega)
 unfold mb len
 by_cases h : n % 12 = 11
 ·
  rw [show (n + 1) / 12 = n / 12 + 1 by omega, show (n + 1) % 12 = 0 by omega, h, show (2000 : Int) + (n / 12 + 1) = 2000 + n / 12 + 1 by omega, year_succ]
  have := mb_end (leap (2000 + n / 12))
  rw [if_neg (show ¬ ((0 : Int) + 1 > 2 ∧ leap (2000 + n / 12) = true) from fun z => absurd z.1 (by decide))] at this
  rw [if_neg (show ¬ ((0 : Int) + 1 > 2 ∧ leap (2000 + n / 12 + 1) = true) from fun z => absurd z.1 (by decide)), if_neg (show ¬ (11 : Int) + 1 = 2 by decide), if_pos (show (11 : Int) + 1 = 1 ∨ (11 : Int) + 1 = 3 ∨ (11 : Int) + 1 = 5 ∨ (11 : Int) + 1 = 7 ∨ (11 : Int) + 1 = 8 ∨ (11 : Int) + 1 = 10 ∨ (11 : Int) + 1 = 12 by decide)]
  omega
 ·
  have := mb_tab k (by omega) (leap (2000 + n / 12))
  rw [show (n + 1) / 12 = n / 12 by omega, show (n + 1) % 12 = (k : Int) + 1 by omega, hk]
  rw [Int.add_assoc, this, ← Int.add_assoc, ← Int.add_assoc]
theorem len_pos (y m : Int) : 28 ≤ len y m ∧ len y m ≤ 31 := by
 unfold len
 split
 · split <;> omega
 · split <;> omega
theorem mb_0 : mb 0 = 0 := by decide
theorem mb_4800 : mb 4800 = 146097 := by decide
def near (n : Nat) : Bool := decide (mb n * 4800 ≤ (n + 1) * 146097) && decide (((n : Int) - 1) * 146097 ≤ mb n * 4800)
def nearAll : Nat → Bool
 | 0 => true
 | n + 1 => near n && nearAll n
theorem nearAll_of : ∀ {k n : Nat}, nearAll k = true → n < k → near n = true
 |
  k + 1, n, h, hn => by
  unfold nearAll at h
  rw [Bool.and_eq_true] at h
  by_cases e : n = k
  · rw [e]; exact h.1
  · exact nearAll_of h.2 (by omega)
set_option maxRecDepth 100000 in
theorem near_ok : nearAll 4801 = true := by decide +kernel
theorem near_at {n : Int} (h0 : 0 ≤ n) (h1 : n ≤ 4800) : mb n * 4800 ≤ (n + 1) * 146097 ∧ (n - 1) * 146097 ≤ mb n * 4800 := by
 have h := nearAll_of (n := n.toNat) near_ok (by omega)
 unfold near at h
 rw [Bool.and_eq_true, decide_eq_true_eq, decide_eq_true_eq, show ((n.toNat : Nat) : Int) = n by omega] at h
 exact h
def mo (d : Int) : Int := if mb (d * 4800 / 146097) > d then d * 4800 / 146097 - 1 else if mb (d * 4800 / 146097 + 1) ≤ d then d * 4800 / 146097 + 1 else d * 4800 / 146097
theorem mo_ok {d : Int} (h0 : 0 ≤ d) (h1 : d < 146097) : mb (mo d) ≤ d ∧ d < mb (mo d + 1) ∧ 0 ≤ mo d ∧ mo d < 4800 := by
 unfold mo
 have g0 : 0 ≤ d * 4800 / 146097 := by omega
 have g1 : d * 4800 / 146097 < 4800 := by omega
 have hd : (d * 4800 / 146097) * 146097 ≤ d * 4800 ∧ d * 4800 < (d * 4800 / 146097 + 1) * 146097 := by omega
 generalize d * 4800 / 146097 = g at *
 have e0 := mb_0
 have e1 := mb_4800
 split
 ·
  rename_i h
  have hg : 1 ≤ g := by
   rcases Int.lt_or_le g 1 with z | z
   ·
    have : g = 0 := by omega
    subst this
    omega
   · exact z
  have n1 := (near_at (n := g - 1) (by omega) (by omega)).1
  rw [show g - 1 + 1 = g by omega] at *
  exact ⟨by omega, by omega, by omega, by omega⟩
 ·
  split
  ·
   rename_i h2
   have hg : g + 1 < 4800 := by
    rcases Int.lt_or_le (g + 1) 4800 with z | z
    · exact z
    ·
     have : g = 4799 := by omega
     subst this
     have h2' : mb 4800 ≤ d := h2
     omega
   have n2 := (near_at (n := g + 2) (by omega) (by omega)).2
   rw [show g + 1 + 1 = g + 2 by omega]
   exact ⟨by omega, by omega, by omega, by omega⟩
  · exact ⟨by omega, by omega, g0, g1⟩
end DM
namespace DT
open PySem L2
def dg (n : Nat) : Nat := 48 + n % 10
def yt (n : Nat) : Str := ⟨#[50, dg (n / 100), dg (n / 10), dg n]⟩
def tt (n : Nat) : Str := ⟨#[dg (n / 10), dg n]⟩
def tx (y m d : Nat) : Str := ⟨#[50, dg (y / 100), dg (y / 10), dg y, 45, dg (m / 10), dg m, 45, dg (d / 10), dg d]⟩
theorem dg_fig (n : Nat) : dg n ∈ ("0123456789" : Str).cps.toList := by
 have h : ∀ k : Nat, k < 10 → 48 + k ∈ ("0123456789" : Str).cps.toList := by decide +kernel
 exact h _ (Nat.mod_lt _ (by decide))
theorem made (y m d : Nat) : ((yt y ++ tt m ++ tt d).cps.toList.all fun c => decide (c ∈ ("0123456789" : Str).cps.toList)) = true := by
 rw [List.all_eq_true]
 intro c hc
 refine decide_eq_true ?_
 have e : (yt y ++ tt m ++ tt d).cps.toList = [50, dg (y / 100), dg (y / 10), dg y, dg (m / 10), dg m, dg (d / 10), dg d] := rfl
 rw [e] at hc
 simp only [List.mem_cons, List.not_mem_nil, or_false] at hc
 rcases hc with h | h | h | h | h | h | h | h <;> subst h
 · exact dg_fig 2
 all_goals exact dg_fig _
def dtx (d : Int) : Str := tx (DM.mo d / 12).toNat (DM.mo d % 12 + 1).toNat (d - DM.mb (DM.mo d) + 1).toNat
theorem parts {d : Int} (h0 : 0 ≤ d) (h1 : d < 146097) : ∃ y m e : Nat, y < 400 ∧ m < 32 ∧ e < 32 ∧ 2000 + DM.mo d / 12 = 2000 + (y : Int) ∧ DM.mo d % 12 + 1 = (m : Int) ∧ d - DM.mb (DM.mo d) + 1 = (e : Int) ∧ dtx d = tx y m e ∧
  1 ≤ m ∧ m ≤ 12 ∧ 1 ≤ e ∧ (e : Int) ≤ DM.len (2000 + (y : Int)) m ∧ (2000 + (y : Int) - 2000) * 12 + (m : Int) - 1 = DM.mo d ∧ DM.mb (DM.mo d) + (e : Int) - 1 = d := by
 obtain ⟨o1, o2, o3, o4⟩ := DM.mo_ok h0 h1
 have ms := DM.mb_succ (DM.mo d)
 have lp := DM.len_pos (2000 + DM.mo d / 12) (DM.mo d % 12 + 1)
 refine ⟨(DM.mo d / 12).toNat, (DM.mo d % 12 + 1).toNat, (d - DM.mb (DM.mo d) + 1).toNat, by omega, by omega, by omega, by omega, by omega, by omega, rfl, by omega, by omega, by omega, ?_, by omega, by omega⟩
 rw [show ((DM.mo d / 12).toNat : Int) = DM.mo d / 12 by omega, show ((DM.mo d % 12 + 1).toNat : Int) = DM.mo d % 12 + 1 by omega]
 omega
def pd (n : Nat) : Str := if n < 10 then ("0" : Str) else ("" : Str)
theorem app (a b c : Str) : a ++ b ++ c = a ++ (b ++ c) := by
 obtain ⟨a⟩ := a
 obtain ⟨b⟩ := b
 obtain ⟨c⟩ := c
 show Str.mk (a ++ b ++ c) = Str.mk (a ++ (b ++ c))
 rw [Array.append_assoc]
theorem len_app (a b : Str) : (a ++ b).length = a.length + b.length := Array.size_append
end DT
namespace DK
open PySem PySem.NumText L2
def FG : List Nat := ("0123456789" : Str).cps.toList
def figs (l : List Nat) : Bool := l.all fun c => decide (c ∈ FG)
section
variable (a b c d s e f r g k : Nat)
end
def J : List (List Nat) → List Nat
 | [] => []
 | [p] => p
 | p :: q :: r => p ++ 45 :: J (q :: r)
theorem same_head : ∀ {p q X Y : List Nat}, 45 ∉ p → 45 ∉ q → (X = [] ∨ ∃ Z, X = 45 :: Z) → (Y = [] ∨ ∃ Z, Y = 45 :: Z) → p ++ X = q ++ Y → p = q ∧ X = Y
 | [], [], X, Y, _, _, _, _, h => ⟨rfl, h⟩
 |
  [], c :: q, X, Y, _, hq, hX, _, h => by
  rcases hX with rfl | ⟨Z, rfl⟩
  · cases h
  ·
   have := (List.cons.inj h).1
   exact absurd (this ▸ List.mem_cons_self ..) hq
 |
  c :: p, [], X, Y, hp, _, _, hY, h => by
  rcases hY with rfl | ⟨Z, rfl⟩
  · cases h
  ·
   have := (List.cons.inj h).1
   exact absurd (this ▸ List.mem_cons_self ..) hp
 |
  c :: p, e :: q, X, Y, hp, hq, hX, hY, h => by
  obtain ⟨h1, h2⟩ := List.cons.inj h
  obtain ⟨h3, h4⟩ := same_head (fun z => hp (List.mem_cons_of_mem _ z)) (fun z => hq (List.mem_cons_of_mem _ z)) hX hY h2
  exact ⟨by rw [h1, h3], h4⟩
theorem uniq : ∀ {ps qs : List (List Nat)}, ps ≠ [] → qs ≠ [] → (∀ p ∈ ps, 45 ∉ p) → (∀ q ∈ qs, 45 ∉ q) → J ps = J qs → ps = qs
 | [], _, h, _, _, _, _ => absurd rfl h
 | _, [], _, h, _, _, _ => absurd rfl h
 | [p], [q], _, _, _, _, h => by rw [show p = q from h]
 |
  [p], q :: q' :: qs, _, _, hp, hq, h => by
  have := same_head (X := []) (Y := 45 :: J (q' :: qs)) (hp p (by simp)) (hq q (by simp)) (.inl rfl) (.inr ⟨_, rfl⟩) (by rw [List.append_nil]; exact h)
  cases this.2
 |
  p :: p' :: ps, [q], _, _, hp, hq, h => by
  have := same_head (Y := []) (X := 45 :: J (p' :: ps)) (hp p (by simp)) (hq q (by simp)) (.inr ⟨_, rfl⟩) (.inl rfl) (by rw [List.append_nil]; exact h)
  cases this.2
 |
  p :: p' :: ps, q :: q' :: qs, _, _, hp, hq, h => by
  obtain ⟨h1, h2⟩ := same_head (Y := 45 :: J (q' :: qs)) (X := 45 :: J (p' :: ps)) (hp p (by simp)) (hq q (by simp)) (.inr ⟨_, rfl⟩) (.inr ⟨_, rfl⟩) h
  have := uniq (ps := p' :: ps) (qs := q' :: qs) (by simp) (by simp) (fun x hx => hp x (List.mem_cons_of_mem _ hx)) (fun x hx => hq x (List.mem_cons_of_mem _ hx)) (List.cons.inj h2).2
  rw [h1, this]
def lookL : List Nat → Bool
 | [a, b, c, d, s, e, f, r, g, h] => decide (s = 45) && (decide (r = 45) && figs [a, b, c, d, e, f, g, h])
 | _ => false
def look (t : Str) : Bool := lookL t.cps.toList
end DK
namespace DQ
open PySem PySem.NumText L2 DK
open PySem.Builtin.Str (strSliceIndices)
def both : Option Int → Option Int → Option Int
 | some d, some c => some (d * 1440 + c)
 | _, _ => none
open DT (dg tt)
theorem under : ("_" : Str) = ⟨#[95]⟩ := by decide +kernel
end DQ
set_option smartUnfolding false
namespace K63
open PySem L2
def top (i : Nat) : Stmt := PySem.Challenge.pw_hourhouse_k63_a_meeting_told.main.body.getD i (.Pass ⟨0, 0, 0, 0⟩)
abbrev s_is_made_of : Stmt := top 8
abbrev s_is_span : Stmt := top 11
abbrev s_is_number : Stmt := top 14
abbrev s_is_rising : Stmt := top 17
abbrev s_turn_first : Stmt := top 25
abbrev s_answers_of : Stmt := top 27
abbrev s_with_word : Stmt := top 28
abbrev s_Table_meeting : Stmt := inClass (top 31) 4
abbrev s_Table___init : Stmt := inClass (top 31) 0
abbrev s_law_cell_at : Stmt := top 33
abbrev s_law_mixed : Stmt := top 34
abbrev s_law_name_by : Stmt := top 35
abbrev s_law_key : Stmt := top 38
abbrev s_law_meeting_by : Stmt := top 43
abbrev s_is_name : Stmt := top 9
abbrev s_is_from : Stmt := top 15
abbrev s_told_of_bid : Stmt := top 29
abbrev s_law_names_by : Stmt := top 36
abbrev s_law_some : Stmt := top 37
abbrev s_law_answer_of : Stmt := top 41
abbrev s_is_called : Stmt := top 16
abbrev s_is_off : Stmt := top 20
abbrev s_latest_of : Stmt := top 26
abbrev s_law_bid_of : Stmt := top 39
abbrev s_law_close_of : Stmt := top 40
abbrev s_are_hands : Stmt := top 18
abbrev s_is_answer : Stmt := top 22
abbrev s_told_of : Stmt := top 30
abbrev s_law_one_by : Stmt := top 45
abbrev s_is_bid : Stmt := top 19
abbrev s_is_close : Stmt := top 21
abbrev s_is_letter : Stmt := top 23
abbrev s_Table_take : Stmt := inClass (top 31) 1
abbrev s_law_like : Stmt := top 44
abbrev s_law : Stmt := top 46
set_option genInjectivity false
set_option genSizeOf false
structure Adr where
 f_is_made_of : Addr
 d_is_made_of : FuncData
 f_is_span : Addr
 d_is_span : FuncData
 f_is_number : Addr
 d_is_number : FuncData
 f_is_rising : Addr
 d_is_rising : FuncData
 f_turn_first : Addr
 d_turn_first : FuncData
 f_answers_of : Addr
 d_answers_of : FuncData
 f_with_word : Addr
 d_with_word : FuncData
 f_Table_meeting : Addr
 d_Table_meeting : FuncData
 f_Table___init : Addr
 d_Table___init : FuncData
 f_law_cell_at : Addr
 d_law_cell_at : FuncData
 f_law_mixed : Addr
 d_law_mixed : FuncData
 f_law_name_by : Addr
 d_law_name_by : FuncData
 f_law_key : Addr
 d_law_key : FuncData
 f_law_meeting_by : Addr
 d_law_meeting_by : FuncData
 f_is_name : Addr
 d_is_name : FuncData
 f_is_from : Addr
 d_is_from : FuncData
 f_told_of_bid : Addr
 d_told_of_bid : FuncData
 f_law_names_by : Addr
 d_law_names_by : FuncData
 f_law_some : Addr
 d_law_some : FuncData
 f_law_answer_of : Addr
 d_law_answer_of : FuncData
 f_is_called : Addr
 d_is_called : FuncData
 f_is_off : Addr
 d_is_off : FuncData
 f_latest_of : Addr
 d_latest_of : FuncData
 f_law_bid_of : Addr
 d_law_bid_of : FuncData
 f_law_close_of : Addr
 d_law_close_of : FuncData
 f_are_hands : Addr
 d_are_hands : FuncData
 f_is_answer : Addr
 d_is_answer : FuncData
 f_told_of : Addr
 d_told_of : FuncData
 f_law_one_by : Addr
 d_law_one_by : FuncData
 f_is_bid : Addr
 d_is_bid : FuncData
 f_is_close : Addr
 d_is_close : FuncData
 f_is_letter : Addr
 d_is_letter : FuncData
 f_Table_take : Addr
 d_Table_take : FuncData
 f_law_like : Addr
 d_law_like : FuncData
 f_law : Addr
 d_law : FuncData
 x_Table : Addr
structure Txt (K : W.Frag) (mg : Str → Option Value) (a : Adr) : Prop where
 F_is_made_of : Fun K "is_made_of" "is_made_of" s_is_made_of a.f_is_made_of a.d_is_made_of
 m_is_made_of : mg "is_made_of" = some (.ref a.f_is_made_of)
 b_is_made_of : Binds K a.d_is_made_of ["text", "signs"] []
 F_is_span : Fun K "is_span" "is_span" s_is_span a.f_is_span a.d_is_span
 m_is_span : mg "is_span" = some (.ref a.f_is_span)
 b_is_span : Binds K a.d_is_span ["begin", "end"] []
 F_is_number : Fun K "is_number" "is_number" s_is_number a.f_is_number a.d_is_number
 m_is_number : mg "is_number" = some (.ref a.f_is_number)
 b_is_number : Binds K a.d_is_number ["value"] []
 F_is_rising : Fun K "is_rising" "is_rising" s_is_rising a.f_is_rising a.d_is_rising
 m_is_rising : mg "is_rising" = some (.ref a.f_is_rising)
 b_is_rising : Binds K a.d_is_rising ["hands"] []
 F_turn_first : Fun K "turn_first" "turn_first" s_turn_first a.f_turn_first a.d_turn_first
 m_turn_first : mg "turn_first" = some (.ref a.f_turn_first)
 b_turn_first : Binds K a.d_turn_first ["letter"] []
 F_answers_of : Fun K "answers_of" "answers_of" s_answers_of a.f_answers_of a.d_answers_of
 m_answers_of : mg "answers_of" = some (.ref a.f_answers_of)
 b_answers_of : Binds K a.d_answers_of ["letters", "turn"] []
 F_with_word : Fun K "with_word" "with_word" s_with_word a.f_with_word a.d_with_word
 m_with_word : mg "with_word" = some (.ref a.f_with_word)
 b_with_word : Binds K a.d_with_word ["asked", "answers", "word"] []
 F_Table_meeting : Fun K "meeting" "Table.meeting" s_Table_meeting a.f_Table_meeting a.d_Table_meeting
 b_Table_meeting : Binds K a.d_Table_meeting ["self", "asker", "number"] []
 F_Table___init : Fun K "__init__" "Table.__init__" s_Table___init a.f_Table___init a.d_Table___init
 b_Table___init : Binds K a.d_Table___init ["self"] []
 F_law_cell_at : Fun K "_law_cell_at" "_law_cell_at" s_law_cell_at a.f_law_cell_at a.d_law_cell_at
 m_law_cell_at : mg "_law_cell_at" = some (.ref a.f_law_cell_at)
 b_law_cell_at : Binds K a.d_law_cell_at ["_law_script", "_law_k"] []
 F_law_mixed : Fun K "_law_mixed" "_law_mixed" s_law_mixed a.f_law_mixed a.d_law_mixed
 m_law_mixed : mg "_law_mixed" = some (.ref a.f_law_mixed)
 b_law_mixed : Binds K a.d_law_mixed ["_law_cell", "_law_k", "_law_many"] []
 F_law_name_by : Fun K "_law_name_by" "_law_name_by" s_law_name_by a.f_law_name_by a.d_law_name_by
 m_law_name_by : mg "_law_name_by" = some (.ref a.f_law_name_by)
 b_law_name_by : Binds K a.d_law_name_by ["_law_k", "_law_cell"] []
 F_law_key : Fun K "_law_key" "_law_key" s_law_key a.f_law_key a.d_law_key
 m_law_key : mg "_law_key" = some (.ref a.f_law_key)
 b_law_key : Binds K a.d_law_key ["_law_seed", "_law_names", "_law_asker", "_law_number", "_law_turn"] []
 F_law_meeting_by : Fun K "_law_meeting_by" "_law_meeting_by" s_law_meeting_by a.f_law_meeting_by a.d_law_meeting_by
 m_law_meeting_by : mg "_law_meeting_by" = some (.ref a.f_law_meeting_by)
 b_law_meeting_by : Binds K a.d_law_meeting_by ["_law_letters", "_law_asker", "_law_number"] []
 F_is_name : Fun K "is_name" "is_name" s_is_name a.f_is_name a.d_is_name
 m_is_name : mg "is_name" = some (.ref a.f_is_name)
 b_is_name : Binds K a.d_is_name ["text"] []
 F_is_from : Fun K "is_from" "is_from" s_is_from a.f_is_from a.d_is_from
 m_is_from : mg "is_from" = some (.ref a.f_is_from)
 b_is_from : Binds K a.d_is_from ["value", "least"] []
 F_told_of_bid : Fun K "told_of_bid" "told_of_bid" s_told_of_bid a.f_told_of_bid a.d_told_of_bid
 m_told_of_bid : mg "told_of_bid" = some (.ref a.f_told_of_bid)
 b_told_of_bid : Binds K a.d_told_of_bid ["letters", "bid"] []
 F_law_names_by : Fun K "_law_names_by" "_law_names_by" s_law_names_by a.f_law_names_by a.d_law_names_by
 m_law_names_by : mg "_law_names_by" = some (.ref a.f_law_names_by)
 b_law_names_by : Binds K a.d_law_names_by ["_law_cell"] []
 F_law_some : Fun K "_law_some" "_law_some" s_law_some a.f_law_some a.d_law_some
 m_law_some : mg "_law_some" = some (.ref a.f_law_some)
 b_law_some : Binds K a.d_law_some ["_law_names", "_law_asker", "_law_seed", "_law_k", "_law_least"] []
 F_law_answer_of : Fun K "_law_answer_of" "_law_answer_of" s_law_answer_of a.f_law_answer_of a.d_law_answer_of
 m_law_answer_of : mg "_law_answer_of" = some (.ref a.f_law_answer_of)
 b_law_answer_of : Binds K a.d_law_answer_of ["_law_seed", "_law_names", "_law_asker", "_law_number", "_law_turn", "_law_cell"] []
 F_is_called : Fun K "is_called" "is_called" s_is_called a.f_is_called a.d_is_called
 m_is_called : mg "is_called" = some (.ref a.f_is_called)
 b_is_called : Binds K a.d_is_called ["value"] []
 F_is_off : Fun K "is_off" "is_off" s_is_off a.f_is_off a.d_is_off
 m_is_off : mg "is_off" = some (.ref a.f_is_off)
 b_is_off : Binds K a.d_is_off ["letter"] []
 F_latest_of : Fun K "latest_of" "latest_of" s_latest_of a.f_latest_of a.d_latest_of
 m_latest_of : mg "latest_of" = some (.ref a.f_latest_of)
 b_latest_of : Binds K a.d_latest_of ["letters"] []
 F_law_bid_of : Fun K "_law_bid_of" "_law_bid_of" s_law_bid_of a.f_law_bid_of a.d_law_bid_of
 m_law_bid_of : mg "_law_bid_of" = some (.ref a.f_law_bid_of)
 b_law_bid_of : Binds K a.d_law_bid_of ["_law_seed", "_law_names", "_law_asker", "_law_number", "_law_turn"] []
 F_law_close_of : Fun K "_law_close_of" "_law_close_of" s_law_close_of a.f_law_close_of a.d_law_close_of
 m_law_close_of : mg "_law_close_of" = some (.ref a.f_law_close_of)
 b_law_close_of : Binds K a.d_law_close_of ["_law_seed", "_law_names", "_law_asker", "_law_number", "_law_turn"] []
 F_are_hands : Fun K "are_hands" "are_hands" s_are_hands a.f_are_hands a.d_are_hands
 m_are_hands : mg "are_hands" = some (.ref a.f_are_hands)
 b_are_hands : Binds K a.d_are_hands ["value", "asker", "least"] []
 F_is_answer : Fun K "is_answer" "is_answer" s_is_answer a.f_is_answer a.d_is_answer
 m_is_answer : mg "is_answer" = some (.ref a.f_is_answer)
 b_is_answer : Binds K a.d_is_answer ["letter"] []
 F_told_of : Fun K "told_of" "told_of" s_told_of a.f_told_of a.d_told_of
 m_told_of : mg "told_of" = some (.ref a.f_told_of)
 b_told_of : Binds K a.d_told_of ["letters"] []
 F_law_one_by : Fun K "_law_one_by" "_law_one_by" s_law_one_by a.f_law_one_by a.d_law_one_by
 m_law_one_by : mg "_law_one_by" = some (.ref a.f_law_one_by)
 b_law_one_by : Binds K a.d_law_one_by ["_law_cell", "_law_seed", "_law_names"] []
 F_is_bid : Fun K "is_bid" "is_bid" s_is_bid a.f_is_bid a.d_is_bid
 m_is_bid : mg "is_bid" = some (.ref a.f_is_bid)
 b_is_bid : Binds K a.d_is_bid ["letter"] []
 F_is_close : Fun K "is_close" "is_close" s_is_close a.f_is_close a.d_is_close
 m_is_close : mg "is_close" = some (.ref a.f_is_close)
 b_is_close : Binds K a.d_is_close ["letter"] []
 F_is_letter : Fun K "is_letter" "is_letter" s_is_letter a.f_is_letter a.d_is_letter
 m_is_letter : mg "is_letter" = some (.ref a.f_is_letter)
 b_is_letter : Binds K a.d_is_letter ["letter"] []
 F_Table_take : Fun K "take" "Table.take" s_Table_take a.f_Table_take a.d_Table_take
 b_Table_take : Binds K a.d_Table_take ["self", "letter"] []
 F_law_like : Fun K "_law_like" "_law_like" s_law_like a.f_law_like a.d_law_like
 m_law_like : mg "_law_like" = some (.ref a.f_law_like)
 b_law_like : Binds K a.d_law_like ["_law_found", "_law_due"] []
 F_law : Fun K "law" "law" s_law a.f_law a.d_law
 m_law : mg "law" = some (.ref a.f_law)
 b_law : Binds K a.d_law ["_law_script"] []
 g_FIGURES : ∃ t, mg "FIGURES" = some (.str "0123456789" t)
 g_LETTERS : ∃ t, mg "LETTERS" = some (.str "abcdefghijklmnopqrstuvwxyz" t)
 g_MOST_HANDS : ∃ t, mg "MOST_HANDS" = some (.int 20 t)
 g_NAME_SIGNS : ∃ t, mg "NAME_SIGNS" = some (.int 8 t)
 m_Table : mg "Table" = some (.ref a.x_Table)
 cl_Table : Cls K a.x_Table
 mk_Table : Mk K a.x_Table a.f_Table___init
 n_Table_kept : NoAttr K a.x_Table "kept"
 n_Table_by_meeting : NoAttr K a.x_Table "by_meeting"
 n_Table_tellings : NoAttr K a.x_Table "tellings"
 me_Table_meeting : Meth K a.x_Table "meeting" a.f_Table_meeting
 me_Table_take : Meth K a.x_Table "take" a.f_Table_take
 n_all : mg "all" = none
 n_bool : mg "bool" = none
 n_int : mg "int" = none
 n_isinstance : mg "isinstance" = none
 n_len : mg "len" = none
 n_list : mg "list" = none
 n_max : mg "max" = none
 n_range : mg "range" = none
 n_sorted : mg "sorted" = none
 n_str : mg "str" = none
 n_tuple : mg "tuple" = none
def LT : List Nat := (Str.ofString "abcdefghijklmnopqrstuvwxyz").cps.toList
def FG : List Nat := (Str.ofString "0123456789").cps.toList
def AL : List Nat := (Str.ofString "abcdefghijklmnopqrstuvwxyz0123456789").cps.toList
def nameB (l : List Nat) : Bool := if l.length < 1 ∨ 8 < l.length then false else decide (l.headD 0 ∈ LT) && l.all fun c => decide (c ∈ AL)
theorem nameB_short {l : List Nat} (h : l.length < 1) : nameB l = false := by unfold nameB; rw [if_pos (.inl h)]
theorem nameB_long {l : List Nat} (h : 8 < l.length) : nameB l = false := by unfold nameB; rw [if_pos (.inr h)]
theorem nameB_mid {l : List Nat} {c : Nat} (h1 : ¬ l.length < 1) (h2 : ¬ 8 < l.length) (e : l[0]? = some c) : nameB l = (decide (c ∈ LT) && l.all fun c => decide (c ∈ AL)) := by
 unfold nameB
 rw [if_neg (by intro h; rcases h with h | h <;> omega)]
 cases l with
 | nil => simp at e
 | cons x r => simp at e; subst e; rfl
theorem len_app (x y : Str) : (x ++ y).length = x.length + y.length := Array.size_append
theorem sz1000 : (10000 : Nat) < sizeLine := by decide
def sp_is_made_of : Sp := fun vs H Q _ => ∃ t g : Str, vs = [.str t, .str g] ∧ t.length ≤ 10000 ∧ ∀ H', Same H H' → Q (.bl (t.cps.toList.all fun c => decide (c ∈ g.cps.toList))) H'
def sp_is_name : Sp := fun vs H Q _ => ∃ t : Str, vs = [.str t] ∧ t.length ≤ 10000 ∧ ∀ H', Same H H' → Q (.bl (nameB t.cps.toList)) H'
theorem atI_pick {ts : List Int} {i : Int} (lo hi : Int) (h0 : 0 ≤ i) (h1 : i < ts.length) (hb : ∀ t ∈ ts, lo ≤ t ∧ t ≤ hi) : ∃ t, lo ≤ t ∧ t ≤ hi ∧ atI (ts.map V.int) i = some (.int t) := by
 obtain ⟨t, ht, e⟩ := atI_ints (ts := ts) h0 h1
 exact ⟨t, (hb t ht).1, (hb t ht).2, e⟩
def cellF (ns : List Int) (k : Int) : Int := if k < ns.length then ns.getD k.toNat 0 else 0
def sp_law_cell_at (K : W.Frag) : Sp := fun vs H Q _ => ∃ (p : Addr) (ns : List Int) (k : Int), vs = [.ref p, .int k] ∧ SqL K H p (ns.map V.int) ∧ 0 ≤ k ∧ Q (.int (cellF ns k)) H
def mixG (b k m : Int) : Int := b % 2147483647 * (b % 2147483647 + 2 * k + 1) % 1000000007 % m
def mixF (c k m : Int) : Int := mixG (c * 48271 + 7919 * k * k + 31 * k + 5) k m
def keyF (s : Int) (ns : List Str) (a : Str) (n t : Int) : Int := s + 1009 * (idxF ns a : Nat) + 10007 * (n % 100003) + 1000003 * (t % 100019)
def othF (ns : List Str) (a : Str) : List Str := ns.filter fun t => !decide (t = a)
def fndF (os : List Str) (s k : Int) : List Str := ((List.range os.length).filter fun (j : Nat) => decide (0 < mixF s (k + 50 + 3 * (j : Int)) 3)).map fun (j : Nat) => os.getD j ""
def someF (ns : List Str) (a : Str) (s k m : Int) : List Str := (if ((fndF (othF ns a) s k).length : Int) < m then othF ns a else fndF (othF ns a) s k).take 20
def pick3 (i : Int) : Int := if i = 0 then 1 else if i = 1 then 30 else 3000
def begF (k : Int) : Int := if mixF k 3 5 = 1 then (mixF k 2 4001 - 2000) * 10 ^ (12 : Int).toNat else mixF k 2 4001 - 2000
def bidK (k : Int) (ns : List Str) (a : Str) (n t : Int) : Lt := if 1 < t ∧ mixF k 1 6 = 1 then .off a n t else .bid a n t (begF k) (begF k + 1 + mixF k 4 (pick3 (mixF k 5 3))) (someF ns a k 6 1)
def closeK (k : Int) (ns : List Str) (a : Str) : List Str := if mixF k 8 4 = 1 then [] else someF ns a k 7 0
def Det (s : Int) (ns : List Str) : Lt → Prop
 | .bid a n t b e hs => Lt.bid a n t b e hs = bidK (keyF s ns a n t) ns a n t
 | .off a n t => Lt.off a n t = bidK (keyF s ns a n t) ns a n t
 | .close a n t hs => hs = closeK (keyF s ns a n t) ns a
 | .ans .. => True
theorem det_uniq {s : Int} {ns : List Str} {S : Lt → Prop} {k : Str × Int} (h : ∀ x, S x → Det s ns x ∧ x.mk = k) : Uniq S where
 bo := fun x y hx hy bx by_ e => by
  obtain ⟨dx, kx⟩ := h x hx
  obtain ⟨dy, ky⟩ := h y hy
  have e1 : ∀ z : Lt, z.bo = true → Det s ns z → z = bidK (keyF s ns z.asker z.number z.turn) ns z.asker z.number z.turn := fun z hz dz => by
   cases z with
   | bid => exact dz
   | off => exact dz
   | close => cases hz
   | ans => cases hz
  have ea : x.asker = y.asker := congrArg Prod.fst (kx.trans ky.symm)
  have en : x.number = y.number := congrArg Prod.snd (kx.trans ky.symm)
  rw [e1 x bx dx, e1 y by_ dy, ea, en, e]
 cl := fun a n t hs a' n' hs' h1 h2 => by
  obtain ⟨d1, k1⟩ := h _ h1
  obtain ⟨d2, k2⟩ := h _ h2
  have e := k1.trans k2.symm
  have ea : a = a' := congrArg Prod.fst e
  have en : n = n' := congrArg Prod.snd e
  subst ea en
  exact d1.trans d2.symm
def sp_law_mixed : Sp := fun vs H Q _ => ∃ c k m : Int, vs = [.int c, .int k, .int m] ∧ 0 ≤ k ∧ k ≤ 100000 ∧ 0 < m ∧ ∀ v : Int, 0 ≤ v → v < m → v = mixF c k m → Q (.int v) H
def sp_law (K : W.Frag) : Sp := fun vs H Q _ => ∃ (a : Addr) (ns : List Int), vs = [.ref a] ∧ SqL K H a (ns.map V.int) ∧ ns.length ≤ 63 ∧ ∀ H', Q (.bl true) H'
theorem vint {i j : Int} : decide (V.int i = V.int j) = decide (i = j) := decide_eq_decide.mpr (by rw [V.int.injEq])
open DW
abbrev NM : Str → Bool := fun t => nameB t.cps.toList
def sp_is_span : Sp := fun vs H Q _ => ∃ b e : Int, vs = [.int b, .int e] ∧ Q (.bl (decide (b < e))) H
def sp_is_number : Sp := fun vs H Q _ => ∃ (v : V) (w : W), vs = [v] ∧ WV H w v ∧ Q (.bl (numW w)) H
def sp_is_from : Sp := fun vs H Q _ => ∃ (v : V) (w : W) (k : Int), vs = [v, .int k] ∧ WV H w v ∧ Q (.bl (fromW w k)) H
def sp_is_called : Sp := fun vs H Q _ => ∃ (v : V) (w : W), vs = [v] ∧ WV H w v ∧ ∀ H', Same H H' → Q (.bl (callW NM w)) H'
def sp_is_rising : Sp := fun vs H Q _ => ∃ (r : Addr) (l : List Str), vs = [.ref r] ∧ H r = some (.tup (l.map V.str)) ∧ l.length ≤ 1000 ∧ ∀ H', Same H H' → Q (.bl (riseS l)) H'
def sp_are_hands : Sp := fun vs H Q _ => ∃ (v : V) (w : W) (a : Str) (k : Nat), vs = [v, .str a, .int (k : Int)] ∧ WV H w v ∧ ∀ H', Same H H' → Q (.bl (handsW NM w a k)) H'
def LetP (f : List W → Bool) : Sp := fun vs H Q _ => ∃ (p : Addr) (ps : List PW_) (a : Str), vs = [.ref p] ∧ LetAt H p ps ∧ 4 ≤ ps.length ∧ at_ (ws ps) 1 = .s a ∧ ∀ H', Same H H' → Q (.bl (f (ws ps))) H'
def sp_is_letter : Sp := fun vs H Q _ => ∃ (p : Addr) (ps : List PW_), vs = [.ref p] ∧ LetAt H p ps ∧ ∀ H', Same H H' → Q (.bl (isL NM (ws ps))) H'
theorem getD_at {l : List Str} {j : Nat} (h : j < l.length) : atI (l.map V.str) (j : Int) = some (.str (l.getD j "")) := by
 refine atI_nat ?_
 rw [List.getElem?_map, List.getD_eq_getElem?_getD, List.getElem?_eq_getElem h]
 rfl
def ltF (l : List Str) : V → V
 | .int i => .bl (decide ((l.getD (i - 1).toNat "").cps.toList < (l.getD i.toNat "").cps.toList))
 | _ => .non
theorem ltF_all (l : List Str) (n : Nat) : (((List.range n).map fun (i : Nat) => V.int (1 + (i : Int))).map (ltF l)) = ((List.range n).map fun j => decide ((l.getD j "").cps.toList < (l.getD (j + 1) "").cps.toList)).map V.bl := by
 rw [List.map_map, List.map_map]
 refine List.map_congr_left fun i _ => ?_
 show V.bl (decide ((l.getD ((1 + (i : Int)) - 1).toNat "").cps.toList < (l.getD (1 + (i : Int)).toNat "").cps.toList)) = V.bl _
 rw [show ((1 + (i : Int)) - 1).toNat = i by omega, show (1 + (i : Int)).toNat = i + 1 by omega]
def nmF : V → V
 | .str t => .bl (nameB t.cps.toList)
 | _ => .bl false
theorem nmOf_s {w : W} {a : Str} (h : w = .s a) : nmOf w = a := by subst h; rfl
theorem eqW_go {H : Hp} {w : W} {v : V} {t : Str} {Q : VK} (hw : WV H w v) (q : Q (.bl (eqS w t)) H) : ∃ u, V.str t = .str u ∧ ((rEq v (.str t) H Q) ∨ ∃ a xs, v = .ref a ∧ H a = some (.tup xs) ∧ Q (.bl false) H) := by
 refine ⟨t, rfl, ?_⟩
 cases w with
 | n => cases hw; exact .inl ⟨rfl, by rw [show decide (V.non = V.str t) = false from decide_eq_false (fun e => nomatch e)]; exact q⟩
 | b x => cases hw; exact .inl ⟨rfl, by rw [show decide (V.bl x = V.str t) = false from decide_eq_false (fun e => nomatch e)]; exact q⟩
 | i z => cases hw; exact .inl ⟨rfl, by rw [show decide (V.int z = V.str t) = false from decide_eq_false (fun e => nomatch e)]; exact q⟩
 | s u => obtain ⟨rfl, _⟩ := hw; exact .inl ⟨rfl, by rw [show decide (V.str u = V.str t) = decide (u = t) from decide_eq_decide.mpr (by rw [V.str.injEq])]; exact q⟩
 | ts l => obtain ⟨r, rfl, h, _⟩ := hw; exact .inr ⟨r, _, rfl, h, q⟩
 | ti z => obtain ⟨r, rfl, h⟩ := hw; exact .inr ⟨r, _, rfl, h, q⟩
theorem rise_pw : ∀ {l : List Str}, riseS l = true → l.Pairwise (fun x y => ltS x y = true)
 | [], _ => .nil
 | [x], _ => List.pairwise_singleton _ _
 |
  x :: y :: r, h => by
  simp only [riseS, Bool.and_eq_true] at h
  have ih := rise_pw (l := y :: r) h.2
  refine List.Pairwise.cons (fun z hz => ?_) ih
  rcases List.mem_cons.mp hz with rfl | hz
  · exact h.1
  · exact str_lin.tr _ _ _ h.1 ((List.pairwise_cons.mp ih).1 z hz)
theorem pw_rise : ∀ {l : List Str}, l.Pairwise (fun x y => ltS x y = true) → riseS l = true
 | [], _ => rfl
 | [x], _ => rfl
 |
  x :: y :: r, h => by
  rw [List.pairwise_cons] at h
  simp only [riseS, Bool.and_eq_true]
  exact ⟨h.1 y (List.mem_cons_self ..), pw_rise h.2⟩
theorem rise_sub {l l' : List Str} (h : riseS l = true) (s : l'.Sublist l) : riseS l' = true := pw_rise ((rise_pw h).sublist s)
theorem cut20 (gs : List Str) : cutV (gs.map V.str) none (some 20) = (gs.take 20).map V.str := by
 unfold cutV
 have e0 : HT.sIx (gs.map V.str).length 0 none = 0 := rfl
 have e1 : HT.sIx (gs.map V.str).length (gs.map V.str).length (some 20) = min 20 (gs.map V.str).length := by
  unfold HT.sIx
  simp
 rw [e0, e1, List.drop_zero, Nat.sub_zero, ← List.map_take, List.length_map]
 congr 1
 by_cases h : gs.length ≤ 20
 · rw [Nat.min_eq_right h, List.take_length, List.take_of_length_le h]
 · rw [Nat.min_eq_left (by omega)]
def LtOk (l : Lt) : Prop := isL NM l.ws = true
theorem ok_bid {a : Str} {n t b e : Int} {hs : List Str} (ha : NM a = true) (n0 : 0 ≤ n) (t0 : 1 ≤ t) (be : b < e) (hh : handsW NM (.ts hs) a 1 = true) : LtOk (.bid a n t b e hs) := by
 have e1 : decide (0 ≤ n) = true := decide_eq_true n0
 have e2 : decide (1 ≤ t) = true := decide_eq_true t0
 have e3 : decide (b < e) = true := decide_eq_true be
 show (true && (NM a && (decide (0 ≤ n) && (true && (decide (1 ≤ t) && (true && (true && (decide (b < e) && handsW NM (.ts hs) a 1)))))))) = true
 rw [ha, e1, e2, e3, hh]
 rfl
theorem ok_off {a : Str} {n t : Int} (ha : NM a = true) (n0 : 0 ≤ n) (t0 : 2 ≤ t) : LtOk (.off a n t) := by
 have e1 : decide (0 ≤ n) = true := decide_eq_true n0
 have e2 : decide (2 ≤ t) = true := decide_eq_true t0
 show (true && (NM a && (decide (0 ≤ n) && (true && decide (2 ≤ t))))) = true
 rw [ha, e1, e2]
 rfl
theorem ok_close {a : Str} {n t : Int} {hs : List Str} (ha : NM a = true) (n0 : 0 ≤ n) (t0 : 1 ≤ t) (hh : handsW NM (.ts hs) a 0 = true) : LtOk (.close a n t hs) := by
 have e1 : decide (0 ≤ n) = true := decide_eq_true n0
 have e2 : decide (1 ≤ t) = true := decide_eq_true t0
 show (true && (NM a && (decide (0 ≤ n) && (true && (decide (1 ≤ t) && handsW NM (.ts hs) a 0))))) = true
 rw [ha, e1, e2, hh]
 rfl
theorem ok_ans {a h w : Str} {n t g : Int} (ha : NM a = true) (n0 : 0 ≤ n) (t0 : 1 ≤ t) (hh : NM h = true) (hne : h ≠ a) (g0 : 0 ≤ g) (hw : w = "yes" ∨ w = "no") : LtOk (.ans a n t h g w) := by
 have e1 : decide (0 ≤ n) = true := decide_eq_true n0
 have e2 : decide (1 ≤ t) = true := decide_eq_true t0
 have e3 : decide (0 ≤ g) = true := decide_eq_true g0
 have e4 : decide (h = a) = false := decide_eq_false hne
 show (true && (NM a && (decide (0 ≤ n) && (true && (true && (decide (1 ≤ t) && (NM h && (!decide (h = a) && (decide (0 ≤ g) && (decide (w = "yes") || decide (w = "no"))))))))))) = true
 rw [ha, e1, e2, e3, e4, hh]
 rcases hw with rfl | rfl <;> decide +kernel
theorem hands_of {l : List Str} {a : Str} {m : Nat} (h1 : m ≤ l.length) (h2 : l.length ≤ 20) (h3 : ∀ t ∈ l, NM t = true) (h4 : riseS l = true) (h5 : ¬ a ∈ l) : handsW NM (.ts l) a m = true := by
 rw [hands_eq, decide_eq_true h1, decide_eq_true h2, List.all_eq_true.mpr h3, h4, decide_eq_false h5]
 rfl
def t3 (i : Int) : Str := if i = 0 then "t" else if i = 1 then "ab" else "x9a"
def nmO (i : Int) (n : Nat) : Str := (t3 i ++ (⟨#[98 + n]⟩ : Str)) ++ (⟨#[97]⟩ : Str)
def nmE (i : Int) (n : Nat) : Str := ((Txt.mul "a" i ++ (⟨#[98 + n]⟩ : Str)) ++ (⟨#[97]⟩ : Str)) ++ Txt.mul "a" (6 - i)
def nmT (c : Int) (n : Nat) : Str := if c % 2 = 1 then nmO (c / 2 % 3) n else nmE (c / 2 % 7) n
def sumS (t : Str) : Nat := t.cps.toList.foldl (· + ·) 0
theorem nmO_ok : ∀ (i : Fin 3) (n : Fin 24), (nameB (nmO (i.val : Int) n.val).cps.toList && !decide (nmO (i.val : Int) n.val = "nobody") && decide (sumS (nmO (i.val : Int) n.val) = sumS (nmO (i.val : Int) 0) + n.val)) = true := by decide +kernel
theorem nmE_ok : ∀ (i : Fin 7) (n : Fin 24), (nameB (nmE (i.val : Int) n.val).cps.toList && !decide (nmE (i.val : Int) n.val = "nobody") && decide (sumS (nmE (i.val : Int) n.val) = sumS (nmE (i.val : Int) 0) + n.val)) = true := by decide +kernel
theorem nmT_all (c : Int) : ∀ n : Nat, n < 24 → nameB (nmT c n).cps.toList = true ∧ nmT c n ≠ "nobody" ∧ sumS (nmT c n) = sumS (nmT c 0) + n := by
 intro n hn
 unfold nmT
 by_cases h : c % 2 = 1
 ·
  rw [if_pos h, if_pos h]
  have a0 : 0 ≤ c / 2 % 3 := Int.emod_nonneg _ (by decide)
  have a1 : c / 2 % 3 < 3 := Int.emod_lt_of_pos _ (by decide)
  have z := nmO_ok ⟨(c / 2 % 3).toNat, by omega⟩ ⟨n, hn⟩
  simp only [Int.toNat_of_nonneg a0, Bool.and_eq_true, Bool.not_eq_true', decide_eq_true_eq, decide_eq_false_iff_not] at z
  exact ⟨z.1.1, z.1.2, z.2⟩
 ·
  rw [if_neg h, if_neg h]
  have a0 : 0 ≤ c / 2 % 7 := Int.emod_nonneg _ (by decide)
  have a1 : c / 2 % 7 < 7 := Int.emod_lt_of_pos _ (by decide)
  have z := nmE_ok ⟨(c / 2 % 7).toNat, by omega⟩ ⟨n, hn⟩
  simp only [Int.toNat_of_nonneg a0, Bool.and_eq_true, Bool.not_eq_true', decide_eq_true_eq, decide_eq_false_iff_not] at z
  exact ⟨z.1.1, z.1.2, z.2⟩
theorem nmT_inj {c : Int} {n m : Nat} (hn : n < 24) (hm : m < 24) (e : nmT c n = nmT c m) : n = m := by
 have h1 := (nmT_all c n hn).2.2
 have h2 := (nmT_all c m hm).2.2
 rw [e] at h1
 omega
theorem nm_al {t : Str} (h : nameB t.cps.toList = true) : (∀ c ∈ t.cps.toList, c ∈ AL) ∧ t.length ≤ 8 := by
 have el : t.cps.toList.length = t.length := Array.length_toList
 unfold nameB at h
 by_cases z : t.cps.toList.length < 1 ∨ 8 < t.cps.toList.length
 · rw [if_pos z] at h; cases h
 ·
  rw [if_neg z, Bool.and_eq_true, List.all_eq_true] at h
  exact ⟨fun c hc => of_decide_eq_true (h.2 c hc), by omega⟩
structure Nms (ns : List Str) : Prop where
 lo : 2 ≤ ns.length
 hi : ns.length ≤ 22
 nd : ns.Nodup
 nm : ∀ t ∈ ns, NM t = true
 rise : riseS ns = true
def nmG (c : Int) : V → V
 | .int k => .str (nmT c k.toNat)
 | _ => .non
theorem nmG_vals (c : Int) (n : Nat) : (((List.range n).map fun (i : Nat) => V.int (0 + (i : Int))).map (nmG c)) = ((List.range n).map (nmT c)).map V.str := by
 rw [List.map_map, List.map_map]
 refine List.map_congr_left fun i _ => ?_
 show V.str (nmT c (0 + (i : Int)).toNat) = V.str (nmT c i)
 rw [show (0 + (i : Int)).toNat = i by omega]
theorem nms_gen {c : Int} {n : Nat} {ms : List Str} (h2 : 2 ≤ n) (hn : n ≤ 22) (hp : ms.Perm ((List.range n).map (nmT c))) (hs : PyProof.Rows.sortedS ms = true) : Nms ms := by
 have hl : ms.length = n := by rw [hp.length_eq, List.length_map, List.length_range]
 have nd : ms.Nodup := hp.nodup_iff.mpr ?_
 ·
  refine ⟨by omega, by omega, nd, fun t ht => ?_, rise_of hs nd⟩
  obtain ⟨i, hi, rfl⟩ := List.mem_map.mp (hp.mem_iff.mp ht)
  exact (nmT_all c i (by have := List.mem_range.mp hi; omega)).1
 ·
  rw [List.nodup_iff_pairwise_ne, List.pairwise_map]
  exact List.Pairwise.imp_of_mem (fun {a b} ha hb hab e => hab (nmT_inj (by have := List.mem_range.mp ha; omega) (by have := List.mem_range.mp hb; omega) e)) (List.nodup_iff_pairwise_ne.mp List.nodup_range)
def sp_law_name_by : Sp := fun vs H Q _ => ∃ (n : Nat) (c : Int), vs = [.int (n : Int), .int c] ∧ n < 24 ∧ ∀ H', Same H H' → Q (.str (nmT c n)) H'
def sp_law_names_by : Sp := fun vs H Q _ => ∃ c : Int, vs = [.int c] ∧ ∀ (D : Addr) (ns : List Str) H', Same H H' → H' D = some (.lst (ns.map V.str)) → Nms ns → Q (.ref D) H'
def sp_law_some : Sp := fun vs H Q _ => ∃ (L : Addr) (ns : List Str) (a : Str) (s k m : Int), vs = [.ref L, .str a, .int s, .int k, .int m] ∧ H L = some (.lst (ns.map V.str)) ∧ Nms ns ∧ 0 ≤ k ∧ k ≤ 1000 ∧ 0 ≤ m ∧ m ≤ 1 ∧ ∀ (r : Addr) (l : List Str) H', Same H H' → H' r = some (.tup (l.map V.str)) → handsW NM (.ts l) a m.toNat = true → l = someF ns a s k m → Q (.ref r) H'
def sp_law_key : Sp := fun vs H Q _ => ∃ (L : Addr) (ns : List Str) (a : Str) (s n t : Int), vs = [.int s, .ref L, .str a, .int n, .int t] ∧ H L = some (.lst (ns.map V.str)) ∧ Nms ns ∧ a ∈ ns ∧ ∀ v : Int, v = keyF s ns a n t → Q (.int v) H
def DrawP (more : List V → Prop) : Sp := fun vs H Q _ => ∃ (L : Addr) (ns : List Str) (a : Str) (s n t : Int) (r : List V), vs = [.int s, .ref L, .str a, .int n, .int t] ++ r ∧ more r ∧ H L = some (.lst (ns.map V.str)) ∧ Nms ns ∧ a ∈ ns ∧ 0 ≤ n ∧ n ≤ 10 ^ 9 ∧ 1 ≤ t ∧ t ≤ 10 ^ 10 ∧ ∀ (p : Addr) (l : Lt) H', Same H H' → LtAt H' l p → LtOk l → Det s ns l → l.mk = (a, n) → Q (.ref p) H'
theorem s24 : ∀ n : Fin 24, (Str.ofString "bcdefghijklmnopqrstuvwxy").cps.toList[n.val]? = some (98 + n.val) := by decide +kernel
theorem t3_at {i : Int} (h0 : 0 ≤ i) (h1 : i < 3) : atI [V.str "t", V.str "ab", V.str "x9a"] i = some (.str (t3 i)) := by
 have h : i = 0 ∨ i = 1 ∨ i = 2 := by omega
 rcases h with h | h | h <;> subst h <;> rfl
theorem t3_len (i : Int) : (t3 i).length ≤ 3 := by
 unfold t3
 split
 · decide +kernel
 · split <;> decide +kernel
theorem mul7 {i : Int} (h0 : 0 ≤ i) (h1 : i ≤ 6) : MulOk "a" i ∧ (Txt.mul "a" i).length ≤ 6 := by
 have h : i = 0 ∨ i = 1 ∨ i = 2 ∨ i = 3 ∨ i = 4 ∨ i = 5 ∨ i = 6 := by omega
 rcases h with h | h | h | h | h | h | h <;> subst h <;> (unfold MulOk; decide +kernel)
theorem sz2 {x y : Str} (m n : Nat) (h1 : x.length ≤ m) (h2 : y.length ≤ n) (h : m + n ≤ 20000 := by decide) : x.length + y.length ≤ sizeLine := Nat.le_trans (by omega : x.length + y.length ≤ 20000) (by decide)
theorem ap2 {x y : Str} (m n : Nat) (h1 : x.length ≤ m) (h2 : y.length ≤ n) : (x ++ y).length ≤ m + n := by rw [len_app]; omega
theorem one1 (c : Nat) : (⟨#[c]⟩ : Str).length ≤ 1 := Nat.le_refl _
theorem kw_yn : ∀ t ∈ (["yes", "no", "yes"] : List Str), (∀ c ∈ t.cps.toList, c ∈ AL) ∧ t.length ≤ 8 := by decide +kernel
theorem cell_in {ns : List Int} {k : Int} (h0 : 0 ≤ k) (h : k < ns.length) : atI (ns.map V.int) k = some (.int (cellF ns k)) := by
 obtain ⟨j, rfl⟩ : ∃ j : Nat, k = j := ⟨k.toNat, by omega⟩
 have hj : j < ns.length := by omega
 refine atI_nat ?_
 unfold cellF
 rw [if_pos h, List.getElem?_map, List.getElem?_eq_getElem hj, Int.toNat_natCast, List.getD_eq_getElem?_getD, List.getElem?_eq_getElem hj]
 rfl
theorem cell_out {ns : List Int} {k : Int} (h : ¬ k < ns.length) : cellF ns k = 0 := by unfold cellF; rw [if_neg h]
theorem getD_all (os : List Str) : (List.range os.length).map (fun j => os.getD j "") = os := by
 refine List.ext_getElem? fun i => ?_
 rw [List.getElem?_map]
 by_cases hi : i < os.length
 ·
  rw [List.getElem?_range hi, List.getElem?_eq_getElem hi]
  show some (os.getD i "") = some os[i]
  rw [List.getD_eq_getElem?_getD, List.getElem?_eq_getElem hi]
  rfl
 ·
  rw [List.getElem?_eq_none (by rw [List.length_range]; omega), List.getElem?_eq_none (by omega)]
  rfl
theorem fnd_sub (os : List Str) (s k : Int) : (fndF os s k).Sublist os := by
 have h : (fndF os s k).Sublist ((List.range os.length).map fun j => os.getD j "") := (List.filter_sublist).map _
 rw [getD_all] at h
 exact h
def fndP (s k : Int) : V → Bool
 | .int i => decide (0 < mixF s (k + 50 + 3 * i) 3)
 | _ => false
def fndV (os : List Str) : V → V
 | .int i => .str (os.getD i.toNat "")
 | _ => .non
theorem fnd_vals (os : List Str) (s k : Int) : ((((List.range (Int.toNat (os.length : Int))).map fun (i : Nat) => V.int (0 + (i : Int))).filter (fndP s k)).map (fndV os)) = (fndF os s k).map V.str := by
 rw [show Int.toNat (os.length : Int) = os.length by omega]
 unfold fndF
 rw [List.filter_map, List.map_map, List.map_map]
 have e : (fndP s k ∘ fun (i : Nat) => V.int (0 + (i : Int))) = fun j : Nat => decide (0 < mixF s (k + 50 + 3 * (j : Int)) 3) := by
  funext j
  show decide (0 < mixF s (k + 50 + 3 * (0 + (j : Int))) 3) = _
  rw [Int.zero_add]
 rw [e]
 refine List.map_congr_left fun j _ => ?_
 show V.str (os.getD (0 + (j : Int)).toNat "") = V.str (os.getD j "")
 rw [show (0 + (j : Int)).toNat = j by omega]
theorem pick3_at {v wd : Int} (v0 : 0 ≤ v) (v1 : v < 3) (h : atI [V.int 1, V.int 30, V.int 3000] v = some (.int wd)) : wd = pick3 v := by
 have hv : v = 0 ∨ v = 1 ∨ v = 2 := by omega
 rcases hv with rfl | rfl | rfl
 · exact V.int.inj (Option.some.inj h).symm
 · exact V.int.inj (Option.some.inj h).symm
 · exact V.int.inj (Option.some.inj h).symm
theorem LtAt.inj {H : Hp} {l l' : Lt} {p : Addr} (h : LtAt H l p) (h' : LtAt H l' p) : l = l' := by
 obtain ⟨vs, hp, r⟩ := h
 obtain ⟨vs', hp', r'⟩ := h'
 rw [hp] at hp'
 cases hp'
 have hs : ∀ {a b : List Str} {q : Addr}, H q = some (.tup (a.map V.str)) → H q = some (.tup (b.map V.str)) → a = b := fun {a b q} h1 h2 => by
  rw [h1] at h2
  injection h2 with h2
  injection h2 with h2
  exact (List.map_inj_right fun x y e => V.str.inj e).mp h2
 cases l <;> cases l' <;> simp only [LtVs] at r r'
 · obtain ⟨q, rfl, h1⟩ := r; obtain ⟨q', e, h2⟩ := r'; cases e; rw [hs h1 h2]
 · obtain ⟨q, rfl, h1⟩ := r; cases r'
 · obtain ⟨q, rfl, h1⟩ := r; obtain ⟨q', e, h2⟩ := r'; cases e
 · obtain ⟨q, rfl, h1⟩ := r; exact absurd (show (Str.ofString "bid") = Str.ofString "answer" by injection r' with e _; exact V.str.inj e) (by decide)
 · subst r; obtain ⟨q', e, h2⟩ := r'; cases e
 · subst r; cases r'; rfl
 · subst r; obtain ⟨q', e, h2⟩ := r'; cases e
 · subst r; cases r'
 · obtain ⟨q, rfl, h1⟩ := r; obtain ⟨q', e, h2⟩ := r'; cases e
 · obtain ⟨q, rfl, h1⟩ := r; cases r'
 · obtain ⟨q, rfl, h1⟩ := r; obtain ⟨q', e, h2⟩ := r'; cases e; rw [hs h1 h2]
 · obtain ⟨q, rfl, h1⟩ := r; cases r'
 · subst r; obtain ⟨q', e, h2⟩ := r'; exact absurd (show (Str.ofString "answer") = Str.ofString "bid" by injection e with e _; exact V.str.inj e) (by decide)
 · subst r; cases r'
 · subst r; obtain ⟨q', e, h2⟩ := r'; cases e
 · subst r; cases r'; rfl
def codeOf (ms : List (Lt × Addr)) : V → Int × List NK
 |
  .ref p => match ms.find? fun x => decide (x.2 = p) with
  | some x => (x.1.turn, x.1.nk)
  | none => (0, [])
 | _ => (0, [])
theorem code_at {ms : List (Lt × Addr)} {x : Lt × Addr} (hx : x ∈ ms) : ∃ y ∈ ms, y.2 = x.2 ∧ codeOf ms (.ref x.2) = (y.1.turn, y.1.nk) := by
 have h : (ms.find? fun y => decide (y.2 = x.2)).isSome = true := List.find?_isSome.mpr ⟨x, hx, decide_eq_true rfl⟩
 obtain ⟨y, hy⟩ := Option.isSome_iff_exists.mp h
 refine ⟨y, List.mem_of_find?_eq_some hy, of_decide_eq_true (show decide (y.2 = x.2) = true from List.find?_some (p := fun (y : Lt × Addr) => decide (y.2 = x.2)) hy), ?_⟩
 unfold codeOf
 simp only
 rw [hy]
theorem at_0 {x : V} {r : List V} : atI (x :: r) 0 = some x := atI_nat (j := 0) rfl
theorem at_1 {x y : V} {r : List V} : atI (x :: y :: r) 1 = some y := atI_nat (j := 1) rfl
theorem at_2 {x y z : V} {r : List V} : atI (x :: y :: z :: r) 2 = some z := atI_nat (j := 2) rfl
theorem at_3 {x y z u : V} {r : List V} : atI (x :: y :: z :: u :: r) 3 = some u := atI_nat (j := 3) rfl
theorem hu3 {cm : Bool} {k : Nat} {A : Around} (hr : Room cm k A) : A.units + 3 < cLine := Nat.lt_of_le_of_lt (Nat.add_le_add_left (by decide : 3 ≤ 64) _) hr.units
def sp_turn_first : Sp := fun vs H Q _ => ∃ (p : Addr) (l : Lt), vs = [.ref p] ∧ LtAt H l p ∧ ∀ q, H q = none → Q (.ref q) (upd H q (.tup [.int l.turn, .ref p]))
theorem _root_.L2.LtsAt.up {H H' : Hp} {l : Addr} {ms : List (Lt × Addr)} (h : LtsAt H l ms) (s : Same H H') : LtsAt H' l ms := ⟨s _ _ h.at_, fun x hx => (h.ok x hx).up s, h.few⟩
theorem code_is {H : Hp} {ms : List (Lt × Addr)} {x : Lt × Addr} (ok : ∀ x ∈ ms, LtAt H x.1 x.2) (hx : x ∈ ms) : codeOf ms (.ref x.2) = (x.1.turn, x.1.nk) := by
 obtain ⟨c, hc, ec, h⟩ := code_at hx
 have e : c.1 = x.1 := LtAt.inj (by rw [← ec]; exact ok c hc) (ok x hx)
 rw [h, e]
def boF (ms : List (Lt × Addr)) : V → Bool
 |
  .ref p => match ms.find? fun x => decide (x.2 = p) with
  | some x => x.1.bo
  | none => false
 | _ => false
theorem boF_at {H : Hp} {ms : List (Lt × Addr)} {x : Lt × Addr} (ok : ∀ x ∈ ms, LtAt H x.1 x.2) (hx : x ∈ ms) : boF ms (.ref x.2) = x.1.bo := by
 have h : (ms.find? fun y => decide (y.2 = x.2)).isSome = true := List.find?_isSome.mpr ⟨x, hx, decide_eq_true rfl⟩
 obtain ⟨y, hy⟩ := Option.isSome_iff_exists.mp h
 have e2 : y.2 = x.2 := of_decide_eq_true (show decide (y.2 = x.2) = true from List.find?_some (p := fun (y : Lt × Addr) => decide (y.2 = x.2)) hy)
 have e1 : y.1 = x.1 := LtAt.inj (by rw [← e2]; exact ok y (List.mem_of_find?_eq_some hy)) (ok x hx)
 unfold boF
 simp only
 rw [hy]
 simp only
 rw [e1]
theorem bo_kind (x : Lt) : x.bo = (decide (x.kind = "bid") || decide (x.kind = "off")) := by
 cases x with
 | bid => exact (by decide +kernel : true = (decide ((Str.ofString "bid") = Str.ofString "bid") || decide ((Str.ofString "bid") = Str.ofString "off")))
 | off => exact (by decide +kernel : true = (decide ((Str.ofString "off") = Str.ofString "bid") || decide ((Str.ofString "off") = Str.ofString "off")))
 | close => exact (by decide +kernel : false = (decide ((Str.ofString "close") = Str.ofString "bid") || decide ((Str.ofString "close") = Str.ofString "off")))
 | ans => exact (by decide +kernel : false = (decide ((Str.ofString "answer") = Str.ofString "bid") || decide ((Str.ofString "answer") = Str.ofString "off")))
theorem str_dec (x y : Str) : decide (V.str x = V.str y) = decide (x = y) := decide_eq_decide.mpr (by rw [V.str.injEq])
def sp_latest_of : Sp := fun vs H Q _ => ∃ (L : Addr) (ms : List (Lt × Addr)), vs = [.ref L] ∧ LtsAt H L ms ∧ ∀ v H', Same H H' → ((v = .non ∧ ∀ x, inM ms x → x.bo = false) ∨ ∃ x ∈ ms, v = .ref x.2 ∧ IsLast (inM ms) x.1) → Q v H'
def Si (ms : List (Lt × Addr)) (i : Nat) (x : Lt) : Prop := inM (ms.take i) x
theorem Si_succ {ms : List (Lt × Addr)} {i : Nat} {y : Lt × Addr} (h : ms[i]? = some y) (x : Lt) : Si ms (i + 1) x ↔ Si ms i x ∨ x = y.1 := by
 unfold Si inM
 rw [List.take_succ, h, List.map_append, List.mem_append]
 exact or_congr Iff.rfl List.mem_singleton
theorem Si_all {ms : List (Lt × Addr)} : Si ms ms.length = inM ms := by
 funext x
 unfold Si
 rw [List.take_length]
def LtG : Lt → Prop
 | .ans _ _ _ _ g _ => 0 ≤ g
 | _ => True
def sp_answers_of : Sp := fun vs H Q _ => ∃ (L : Addr) (ms : List (Lt × Addr)) (t : Int), vs = [.ref L, .int t] ∧ LtsAt H L ms ∧ (∀ x ∈ ms, LtG x.1) ∧ ∀ (D : Addr) (kvs : List (Key × V)) H', Same H H' → H' D = some (.dK kvs) → AnsB H' (inM ms) t kvs → Q (.ref D) H'
def lone (L : Addr) (xs : List V) : Hp := fun b => if b = L then some (.lst xs) else none
theorem lone_at {L : Addr} {xs : List V} : lone L xs L = some (.lst xs) := if_pos rfl
theorem lone_same {L : Addr} {xs : List V} {H : Hp} (h : H L = some (.lst xs)) : Same (lone L xs) H := fun b o e => by
 unfold lone at e
 by_cases hb : b = L
 · rw [if_pos hb] at e; rw [hb, h]; exact e
 · rw [if_neg hb] at e; cases e
theorem okT2 {a b : Int} {x y : Str} : okT [.inl a, .inr x] [.inl b, .inr y] = true := by
 unfold okT
 split
 · unfold okT; split <;> rfl
 · rfl
def oV : Option Str → V
 | none => .non
 | some t => .str t
def sp_with_word : Sp := fun vs H Q _ => ∃ (A D : Addr) (l : List Str) (kvs : List (Key × V)) (o : Option Str) (wf : Str → Option Str), vs = [.ref A, .ref D, oV o] ∧ H A = some (.tup (l.map V.str)) ∧ l.length ≤ 1000 ∧ H D = some (.dK kvs) ∧ (∀ h, KnowW H kvs h (wf h)) ∧ ∀ (r : Addr) H', Same H H' → H' r = some (.tup ((wfil wf o l).map V.str)) → Q (.ref r) H'
def wP (wf : Str → Option Str) (o : Option Str) : V → Bool
 | .str h => decide (wf h = o)
 | _ => false
theorem wP_fil (wf : Str → Option Str) (o : Option Str) (l : List Str) : (((l.map V.str).filter (wP wf o)).map fun v => v) = (wfil wf o l).map V.str := by
 rw [List.map_id'' (fun _ => rfl), List.filter_map]
 rfl
def clF (ms : List (Lt × Addr)) (t : Int) : V → Bool
 |
  .ref p => match ms.find? fun x => decide (x.2 = p) with
  | some x => decide (x.1.kind = "close") && decide (x.1.turn = t)
  | none => false
 | _ => false
theorem clF_at {H : Hp} {ms : List (Lt × Addr)} {t : Int} {x : Lt × Addr} (ok : ∀ x ∈ ms, LtAt H x.1 x.2) (hx : x ∈ ms) : clF ms t (.ref x.2) = (decide (x.1.kind = "close") && decide (x.1.turn = t)) := by
 have h : (ms.find? fun y => decide (y.2 = x.2)).isSome = true := List.find?_isSome.mpr ⟨x, hx, decide_eq_true rfl⟩
 obtain ⟨y, hy⟩ := Option.isSome_iff_exists.mp h
 have e2 : y.2 = x.2 := of_decide_eq_true (show decide (y.2 = x.2) = true from List.find?_some (p := fun (y : Lt × Addr) => decide (y.2 = x.2)) hy)
 have e1 : y.1 = x.1 := LtAt.inj (by rw [← e2]; exact ok y (List.mem_of_find?_eq_some hy)) (ok x hx)
 unfold clF
 simp only
 rw [hy]
 simp only
 rw [e1]
def sp_told_of_bid : Sp := fun vs H Q _ => ∃ (L B : Addr) (ms : List (Lt × Addr)) (a0 : Str) (n t b e : Int) (hs : List Str), vs = [.ref L, .ref B] ∧ LtsAt H L ms ∧ (∀ x ∈ ms, LtSz x.1) ∧ (∀ x ∈ ms, LtG x.1) ∧ LtAt H (.bid a0 n t b e hs) B ∧ hs.length ≤ 1000 ∧ ∀ (r : Addr) (d : Td) H', Same H H' → TdAt H' d r → ToldOf ltP (inM ms) (.bid a0 n t b e hs) d → Q (.ref r) H'
theorem wfil_len (wf : Str → Option Str) (o : Option Str) (l : List Str) : (wfil wf o l).length ≤ l.length := List.length_filter_le _ _
def lateP (hs : List Str) : V → Bool
 | .str h => !decide (h ∈ hs)
 | _ => false
theorem late_fil (hs l : List Str) : (((l.map V.str).filter (lateP hs)).map fun v => v) = (l.filter fun h => !decide (h ∈ hs)).map V.str := by
 rw [List.map_id'' (fun _ => rfl), List.filter_map]
 rfl
def sp_told_of : Sp := fun vs H Q _ => ∃ (L : Addr) (ms : List (Lt × Addr)), vs = [.ref L] ∧ LtsAt H L ms ∧ (∀ x ∈ ms, LtSz x.1) ∧ (∀ x ∈ ms, LtG x.1) ∧ ∀ v H', Same H H' → ((v = .non ∧ IsTold ltP (inM ms) none) ∨ ∃ (r : Addr) (d : Td), v = .ref r ∧ TdAt H' d r ∧ IsTold ltP (inM ms) (some d)) → Q v H'
def sp_Table_init (P : Program) (w : World) (C : Addr) : Sp := fun vs H Q _ => ∃ (x dx : Addr), vs = [.ref x] ∧ H x = some (.ins C dx []) ∧ ∀ (k m t : Addr) (H' : Hp), (∀ b o, H b = some o → b ≠ x → H' b = some o) → H k = none → H m = none → H t = none → TabAt P w C H' x k m t [] [] [] → Q .non H'
def sp_Table_take (P : Program) (w : World) (C : Addr) : Sp := fun vs H Q E => ∃ (x k m t p : Addr) (ms : List (Lt × Addr)) (bs : MBs) (ts : List (List Key × V)) (l : Lt), vs = [.ref x, .ref p] ∧ TabAt P w C H x k m t ms bs ts ∧ TlOk H ms ts ∧ (∀ y ∈ ms, LtG y.1) ∧ LtAt H l p ∧ LtOk l ∧ LtSz l ∧ LtG l ∧ ms.length < 900 ∧
 (hasK (nks ms) l.nk = true → ∀ H', Same H H' → Q (.bl false) H') ∧
 (hasK (nks ms) l.nk = false → ∀ (bs' : MBs) (ts' : List (List Key × V)) (H' : Hp), (∀ b o, H b = some o → ¬ OwnT k m t bs b → H' b = some o) → (∀ y ∈ bs', (∃ z ∈ bs, z.2.1 = y.2.1) ∨ H y.2.1 = none) → TabAt P w C H' x k m t (ms ++ [(l, p)]) bs' ts' → TlOk H' (ms ++ [(l, p)]) ts' → Q (.bl true) H')
def sp_Table_meeting (P : Program) (w : World) (C : Addr) : Sp := fun vs H Q _ => ∃ (x k m t : Addr) (ms : List (Lt × Addr)) (bs : MBs) (ts : List (List Key × V)) (a : Str) (n : Int), vs = [.ref x, .str a, .int n] ∧ TabAt P w C H x k m t ms bs ts ∧ ∀ H', Same H H' → Q ((valV ts (mkK (a, n))).getD .non) H'
def lqF (P : Lt → Bool) (ms : List (Lt × Addr)) : V → Bool
 |
  .ref p => match ms.find? fun x => decide (x.2 = p) with
  | some x => P x.1
  | none => false
 | _ => false
theorem find_is {H : Hp} {ms : List (Lt × Addr)} {x : Lt × Addr} (ok : ∀ x ∈ ms, LtAt H x.1 x.2) (hx : x ∈ ms) : ∃ y, (ms.find? fun y => decide (y.2 = x.2)) = some y ∧ y.1 = x.1 := by
 have h : (ms.find? fun y => decide (y.2 = x.2)).isSome = true := List.find?_isSome.mpr ⟨x, hx, decide_eq_true rfl⟩
 obtain ⟨y, hy⟩ := Option.isSome_iff_exists.mp h
 have e2 : y.2 = x.2 := of_decide_eq_true (show decide (y.2 = x.2) = true from List.find?_some (p := fun (y : Lt × Addr) => decide (y.2 = x.2)) hy)
 exact ⟨y, hy, LtAt.inj (by rw [← e2]; exact ok y (List.mem_of_find?_eq_some hy)) (ok x hx)⟩
theorem lqF_at {H : Hp} {P : Lt → Bool} {ms : List (Lt × Addr)} {x : Lt × Addr} (ok : ∀ x ∈ ms, LtAt H x.1 x.2) (hx : x ∈ ms) : lqF P ms (.ref x.2) = P x.1 := by
 obtain ⟨y, hy, e⟩ := find_is ok hx
 unfold lqF
 simp only
 rw [hy]
 simp only
 rw [e]
theorem fil_refs {H : Hp} {P : Lt → Bool} {ms ls : List (Lt × Addr)} (ok : ∀ x ∈ ms, LtAt H x.1 x.2) (hs : ∀ x ∈ ls, x ∈ ms) : (ls.map fun x => V.ref x.2).filter (lqF P ms) = (ls.filter fun x => P x.1).map fun x => V.ref x.2 := by
 rw [List.filter_map]
 congr 1
 refine List.filter_congr fun x hx => ?_
 exact lqF_at ok (hs x hx)
theorem fil_refs' {H : Hp} {P : Lt → Bool} {ms ls : List (Lt × Addr)} (ok : ∀ x ∈ ms, LtAt H x.1 x.2) (hs : ∀ x ∈ ls, x ∈ ms) : (((ls.map fun x => V.ref x.2).filter (lqF P ms)).map fun v => v) = (ls.filter fun x => P x.1).map fun x => V.ref x.2 := by
 rw [List.map_id'' (fun _ => rfl), fil_refs ok hs]
def bnP (a : Str) (n : Int) (x : Lt) : Bool := x.bo && (decide (x.asker = a) && decide (x.number = n))
theorem bo_in (x : Lt) : inV (.str x.kind) ((["bid", "off"] : List Str).map V.str) = x.bo := by
 rw [inV_strs, bo_kind, Bool.eq_iff_iff, Bool.or_eq_true, decide_eq_true_eq, decide_eq_true_eq, decide_eq_true_eq, List.mem_cons, List.mem_singleton]
def anP (a : Str) (n t : Int) (h : Str) : Lt → Bool
 | .ans a' n' t' h' _ _ => decide (([.inl (.inr a'), .inl (.inl n'), .inl (.inl t'), .inl (.inr h')] : List NK) = [.inl (.inr a), .inl (.inl n), .inl (.inl t), .inl (.inr h)])
 | _ => false
theorem anP_iff {a : Str} {n t : Int} {h : Str} {x : Lt} : anP a n t h x = true ↔ ∃ g w, x = .ans a n t h g w := by
 cases x with
 |
  ans a' n' t' h' g w =>
  show decide _ = true ↔ _
  rw [decide_eq_true_eq]
  constructor
  ·
   intro e
   injection e with e1 e
   injection e with e2 e
   injection e with e3 e
   injection e with e4 e
   rw [Sum.inr.inj (Sum.inl.inj e1), Sum.inl.inj (Sum.inl.inj e2), Sum.inl.inj (Sum.inl.inj e3), Sum.inr.inj (Sum.inl.inj e4)]
   exact ⟨g, w, rfl⟩
  ·
   rintro ⟨g', w', e⟩
   injection e with e1 e2 e3 e4
   rw [e1, e2, e3, e4]
 | bid => exact ⟨(fun z => nomatch z), (fun ⟨_, _, z⟩ => nomatch z)⟩
 | off => exact ⟨(fun z => nomatch z), (fun ⟨_, _, z⟩ => nomatch z)⟩
 | close => exact ⟨(fun z => nomatch z), (fun ⟨_, _, z⟩ => nomatch z)⟩
def clP (a : Str) (n t : Int) : Lt → Bool
 | .close a' n' t' _ => decide (([.inl (.inr a'), .inl (.inl n'), .inl (.inl t')] : List NK) = [.inl (.inr a), .inl (.inl n), .inl (.inl t)])
 | _ => false
theorem clP_iff {a : Str} {n t : Int} {x : Lt} : clP a n t x = true ↔ ∃ hs, x = .close a n t hs := by
 cases x with
 |
  close a' n' t' hs =>
  show decide _ = true ↔ _
  rw [decide_eq_true_eq]
  constructor
  ·
   intro e
   injection e with e1 e
   injection e with e2 e
   injection e with e3 e
   rw [Sum.inr.inj (Sum.inl.inj e1), Sum.inl.inj (Sum.inl.inj e2), Sum.inl.inj (Sum.inl.inj e3)]
   exact ⟨hs, rfl⟩
  ·
   rintro ⟨hs', e⟩
   injection e with e1 e2 e3
   rw [e1, e2, e3]
 | bid => exact ⟨(fun z => nomatch z), (fun ⟨_, z⟩ => nomatch z)⟩
 | off => exact ⟨(fun z => nomatch z), (fun ⟨_, z⟩ => nomatch z)⟩
 | ans => exact ⟨(fun z => nomatch z), (fun ⟨_, z⟩ => nomatch z)⟩
def ag : Lt → Int × Str
 | .ans _ _ _ _ g w => (g, w)
 | _ => (0, "")
def agOf (ms : List (Lt × Addr)) : V → Int × Str
 |
  .ref p => match ms.find? fun x => decide (x.2 = p) with
  | some x => ag x.1
  | none => (0, "")
 | _ => (0, "")
theorem agOf_at {H : Hp} {ms : List (Lt × Addr)} {x : Lt × Addr} (ok : ∀ x ∈ ms, LtAt H x.1 x.2) (hx : x ∈ ms) : agOf ms (.ref x.2) = ag x.1 := by
 obtain ⟨y, hy, e⟩ := find_is ok hx
 unfold agOf
 simp only
 rw [hy]
 simp only
 rw [e]
def RlA (ms : List (Lt × Addr)) (H : Hp) (v y : V) : Prop := ∃ q : Addr, y = .ref q ∧ H q = some (.tup [.int (agOf ms v).1, .str (agOf ms v).2])
theorem said_of {ms : List (Lt × Addr)} {H H0 : Hp} (ok : ∀ x ∈ ms, LtAt H0 x.1 x.2) : ∀ {al : List (Lt × Addr)} {ys : List V}, (∀ x ∈ al, x ∈ ms) → Paired (RlA ms H) (al.map fun x => V.ref x.2) ys → ∃ zs : List ((Int × Str) × Addr), ys = (zs.map fun z => V.ref z.2) ∧ (∀ z ∈ zs, H z.2 = some (.tup [.int z.1.1, .str z.1.2])) ∧ zs.map (·.1) = al.map fun x => ag x.1
 | [], _, _, .nil => ⟨[], rfl, (fun _ z => nomatch z), rfl⟩
 |
  x :: al, _, hs, .cons ⟨q, e, hq⟩ r => by
  obtain ⟨zs, e1, e2, e3⟩ := said_of ok (fun x hx => hs x (List.mem_cons_of_mem _ hx)) r
  rw [agOf_at ok (hs x (List.mem_cons_self ..))] at hq
  refine ⟨(ag x.1, q) :: zs, by rw [e, e1]; rfl, fun z hz => ?_, by rw [List.map_cons, e3]; rfl⟩
  rcases List.mem_cons.mp hz with rfl | hz
  · exact hq
  · exact e2 z hz
def pn (x : Int × Str) : List NK := (pk x).map Sum.inl
theorem ltL_flat : ∀ a b : List Key, ltL (a.map Sum.inl) (b.map Sum.inl) = DX.lexB ltK a b
 | [], [] => rfl
 | [], _ :: _ => rfl
 | _ :: _, [] => rfl
 |
  x :: a, y :: b => by
  show (if (Sum.inl x : NK) = .inl y then ltL (a.map Sum.inl) (b.map Sum.inl) else ltN (.inl x) (.inl y)) = if x = y then DX.lexB ltK a b else ltK x y
  by_cases e : x = y
  · rw [if_pos e, if_pos (congrArg Sum.inl e), ltL_flat a b]
  ·
   rw [if_neg e, if_neg (fun z => e (Sum.inl.inj z))]
   rfl
theorem pn_lt (a b : Int × Str) : ltL (pn a) (pn b) = ltP a b := ltL_flat _ _
theorem pn_ok (a b : Int × Str) : okL (pn a) (pn b) = true := okL_cons rfl (okL_cons rfl rfl)
def WdOk (S : Lt → Prop) (t : Int) (hs : List Str) (i : Nat) (kvs : List (Key × V)) : Prop := ∀ h, (valV kvs (.inr h) = none ∧ (h ∈ hs.take i → WordIs ltP S t h none)) ∨ ∃ w, valV kvs (.inr h) = some (.str w) ∧ WordIs ltP S t h (some w)
theorem WdOk.skip {S : Lt → Prop} {t : Int} {hs : List Str} {i : Nat} {kvs : List (Key × V)} {h : Str} (k : WdOk S t hs i kvs) (e : hs[i]? = some h) (n : WordIs ltP S t h none) : WdOk S t hs (i + 1) kvs := fun x => (k x).imp (fun ⟨e1, e2⟩ => ⟨e1, fun z => by
 rw [List.take_add_one, e, List.mem_append] at z
 rcases z with z | z
 · exact e2 z
 · rw [show x = h from List.mem_singleton.mp z]; exact n⟩) id
theorem WdOk.put {S : Lt → Prop} {t : Int} {hs : List Str} {i : Nat} {kvs : List (Key × V)} {h w : Str} (k : WdOk S t hs i kvs) (e : hs[i]? = some h) (n : WordIs ltP S t h (some w)) : WdOk S t hs (i + 1) (putK kvs (.inr h) (.str w)) := fun x => by
 rw [valV_put]
 by_cases ex : x = h
 ·
  subst ex
  rw [if_pos rfl]
  exact .inr ⟨w, rfl, n⟩
 ·
  rw [if_neg (fun z => ex (Sum.inr.inj z))]
  refine (k x).imp (fun ⟨e1, e2⟩ => ⟨e1, fun z => ?_⟩) id
  rw [List.take_add_one, e, List.mem_append] at z
  rcases z with z | z
  · exact e2 z
  · exact absurd (List.mem_singleton.mp z) ex
theorem best_last {ms al : List (Lt × Addr)} {a0 h0 : Str} {n M : Int} {zs : List ((Int × Str) × Addr)} {qs : List (List NK × Addr)} {q : List NK × Addr} (ha : ∀ x, x ∈ al ↔ x ∈ ms ∧ ∃ g w, x.1 = .ans a0 n M h0 g w) (hz : zs.map (·.1) = al.map fun x => ag x.1)
  (hp : (qs ++ [q]).Perm (zs.map fun z => (pn z.1, z.2))) (hs : (keysOf (qs ++ [q])).Pairwise (fun x y => ltL y x = false)) : ∃ z ∈ zs, q = (pn z.1, z.2) ∧ WordIs ltP (inK ms (a0, n)) M h0 (some z.1.2) := by
 obtain ⟨z, hzm, rfl⟩ := List.mem_map.mp (hp.mem_iff.mp (List.mem_append_right _ (List.mem_singleton.mpr rfl)))
 refine ⟨z, hzm, rfl, z.1.1, ?_, ?_⟩
 ·
  have h1 : z.1 ∈ al.map fun x => ag x.1 := by rw [← hz]; exact List.mem_map_of_mem hzm
  obtain ⟨x, hx, ex⟩ := List.mem_map.mp h1
  obtain ⟨hm, g, w, e⟩ := (ha x).mp hx
  rw [e] at ex
  refine ⟨a0, n, ?_, rfl⟩
  rw [← ex]
  exact List.mem_map.mpr ⟨x, hm, e⟩
 ·
  rintro a' n' g' w' ⟨h1, h2⟩
  obtain ⟨x, hx, ex⟩ := List.mem_map.mp h1
  have e1 : a' = a0 := congrArg Prod.fst h2
  have e2 : n' = n := congrArg Prod.snd h2
  subst e1 e2
  have hxa : x ∈ al := (ha x).mpr ⟨hx, g', w', ex⟩
  have h3 : (g', w') ∈ zs.map (·.1) := by rw [hz]; exact List.mem_map.mpr ⟨x, hxa, by rw [ex]; rfl⟩
  obtain ⟨u, hu, eu⟩ := List.mem_map.mp h3
  have h4 : (pn u.1, u.2) ∈ qs ++ [(pn z.1, z.2)] := hp.mem_iff.mpr (List.mem_map_of_mem (f := fun z : (Int × Str) × Addr => (pn z.1, z.2)) hu)
  show ltP z.1 (g', w') = false
  rw [← eu, ← pn_lt]
  rcases List.mem_append.mp h4 with h4 | h4
  ·
   unfold keysOf at hs
   rw [List.map_append, List.pairwise_append] at hs
   exact hs.2.2 _ (List.mem_map_of_mem (f := fun x : List NK × Addr => x.1) h4) _ (List.mem_singleton.mpr rfl)
  ·
   have e5 := List.mem_singleton.mp h4
   have e6 : pn u.1 = pn z.1 := congrArg Prod.fst e5
   rw [e6]
   exact ltL_lin.irr _
def wfS (kvs : List (Key × V)) (h : Str) : Option Str := match valV kvs (.inr h) with
 | some (.str w) => some w
 | _ => none
theorem wfS_of {kvs : List (Key × V)} {h : Str} : (valV kvs (.inr h) = none → wfS kvs h = none) ∧ ∀ w, valV kvs (.inr h) = some (.str w) → wfS kvs h = some w := by
 unfold wfS
 exact ⟨fun e => by rw [e], fun w e => by rw [e]⟩
theorem WdOk.word {S : Lt → Prop} {t : Int} {hs : List Str} {kvs : List (Key × V)} (k : WdOk S t hs hs.length kvs) (h : Str) (hh : h ∈ hs) : WordIs ltP S t h (wfS kvs h) := by
 rcases k h with ⟨e, n⟩ | ⟨w, e, n⟩
 ·
  rw [wfS_of.1 e]
  exact n (by rw [List.take_length]; exact hh)
 ·
  rw [wfS_of.2 w e]
  exact n
theorem WdOk.get {S : Lt → Prop} {t : Int} {hs : List Str} {i : Nat} {kvs : List (Key × V)} {h x : Str} (k : WdOk S t hs i kvs) (hx : (Str.ofString "") ≠ x) : decide ((valV kvs (.inr h)).getD (.str "") = .str x) = decide (wfS kvs h = some x) := by
 refine decide_eq_decide.mpr ?_
 rcases k h with ⟨e, n⟩ | ⟨w, e, n⟩
 ·
  rw [wfS_of.1 e, e]
  exact ⟨(fun z => absurd (V.str.inj z) hx), (fun z => nomatch z)⟩
 ·
  rw [wfS_of.2 w e, e]
  show V.str w = V.str x ↔ _
  rw [V.str.injEq, Option.some.injEq]
theorem WdOk.mem {S : Lt → Prop} {t : Int} {hs : List Str} {i : Nat} {kvs : List (Key × V)} {h : Str} (k : WdOk S t hs i kvs) : (!(valV kvs (.inr h)).isSome) = decide (wfS kvs h = none) := by
 rcases k h with ⟨e, n⟩ | ⟨w, e, n⟩
 ·
  rw [wfS_of.1 e, e]
  rfl
 ·
  rw [wfS_of.2 w e, e]
  rfl
def clH : Lt → List Str
 | .close _ _ _ hs => hs
 | _ => []
def clOf (ms : List (Lt × Addr)) : V → List Str
 |
  .ref p => match ms.find? fun x => decide (x.2 = p) with
  | some x => clH x.1
  | none => []
 | _ => []
theorem clOf_at {H : Hp} {ms : List (Lt × Addr)} {x : Lt × Addr} (ok : ∀ x ∈ ms, LtAt H x.1 x.2) (hx : x ∈ ms) : clOf ms (.ref x.2) = clH x.1 := by
 obtain ⟨y, hy, e⟩ := find_is ok hx
 unfold clOf
 simp only
 rw [hy]
 simp only
 rw [e]
def RlC (ms : List (Lt × Addr)) (H : Hp) (v y : V) : Prop := ∃ q : Addr, y = .ref q ∧ H q = some (.tup ((clOf ms v).map V.str))
def sp_law_meeting_by : Sp := fun vs H Q _ => ∃ (L : Addr) (ms : List (Lt × Addr)) (a : Str) (n : Int), vs = [.ref L, .str a, .int n] ∧ LtsAt H L ms ∧ (∀ x ∈ ms, LtSz x.1) ∧ ms.length < 64 ∧ ∀ v H', Same H H' → ((v = .non ∧ IsTold ltP (inK ms (a, n)) none) ∨ ∃ (r : Addr) (d : Td), v = .ref r ∧ TdAt H' d r ∧ IsTold ltP (inK ms (a, n)) (some d)) → Q v H'
theorem ok_nm {l : Lt} (h : LtOk l) : NM l.asker = true := by
 have h' : isL NM l.ws = true := h
 unfold isL at h'
 rw [Bool.and_eq_true, Bool.and_eq_true] at h'
 have h2 := h'.2.1
 cases l <;> exact h2
theorem hands_sz {l : List Str} {a : Str} {n : Nat} (h : handsW NM (.ts l) a n = true) : l.length ≤ 1000 ∧ ∀ t ∈ l, t.length ≤ 10000 := by
 rw [hands_eq] at h
 simp only [Bool.and_eq_true, decide_eq_true_eq] at h
 exact ⟨by omega, fun t ht => by have := (nm_al (List.all_eq_true.mp h.1.1.2 t ht)).2; omega⟩
theorem ok_sz {l : Lt} (h : LtOk l) : LtSz l := by
 have ha : l.asker.length ≤ 10000 := by have := (nm_al (ok_nm h)).2; omega
 have h' : isL NM l.ws = true := h
 cases l with
 |
  bid a n t b e hs =>
  have h2 : (true && (NM a && (decide (0 ≤ n) && (true && (decide (1 ≤ t) && (true && (true && (decide (b < e) && handsW NM (.ts hs) a 1)))))))) = true := h'
  simp only [Bool.and_eq_true] at h2
  exact ⟨ha, hands_sz h2.2.2.2.2.2.2.2.2⟩
 | off a n t => exact ha
 |
  close a n t hs =>
  have h2 : (true && (NM a && (decide (0 ≤ n) && (true && (decide (1 ≤ t) && handsW NM (.ts hs) a 0))))) = true := h'
  simp only [Bool.and_eq_true] at h2
  exact ⟨ha, hands_sz h2.2.2.2.2.2⟩
 |
  ans a n t hd g w =>
  have h2 : (true && (NM a && (decide (0 ≤ n) && (true && (true && (decide (1 ≤ t) && (NM hd && (!decide (hd = a) && (decide (0 ≤ g) && (decide (w = "yes") || decide (w = "no"))))))))))) = true := h'
  simp only [Bool.and_eq_true, Bool.or_eq_true, decide_eq_true_eq] at h2
  have h3 := (nm_al h2.2.2.2.2.2.2.1).2
  refine ⟨ha, by omega, ?_⟩
  rcases h2.2.2.2.2.2.2.2.2.2 with e | e <;> rw [e] <;> decide +kernel
theorem bls_map (n : Nat) : (((List.range n).map fun (i : Nat) => V.int (0 + (i : Int))).map fun _ => V.bl true) = (List.replicate n true).map V.bl := by
 rw [List.map_map, List.map_replicate]
 exact List.eq_replicate_iff.mpr ⟨by rw [List.length_map, List.length_range], fun b hb => by obtain ⟨_, _, rfl⟩ := List.mem_map.mp hb; rfl⟩
theorem bls_mapA {α : Type} (xs : List α) : (xs.map fun _ => V.bl true) = (List.replicate xs.length true).map V.bl := by
 rw [List.map_replicate]
 exact List.eq_replicate_iff.mpr ⟨by rw [List.length_map], fun b hb => by obtain ⟨_, _, rfl⟩ := List.mem_map.mp hb; rfl⟩
theorem bls_all (n : Nat) : (List.replicate n true).all id = true := by rw [List.all_eq_true]; intro x hx; exact (List.mem_replicate.mp hx).2
def sp_law_like (n : Nat) : Sp := fun vs H Q _ => ∃ v u, vs = [v, u] ∧ AlH H n v u ∧ ∀ H', Same H H' → Q (.bl true) H'
theorem ok_g {l : Lt} (h : LtOk l) : LtG l := by
 cases l with
 | bid => exact True.intro
 | off => exact True.intro
 | close => exact True.intro
 |
  ans a n t hd g w =>
  have h2 : (true && (NM a && (decide (0 ≤ n) && (true && (true && (decide (1 ≤ t) && (NM hd && (!decide (hd = a) && (decide (0 ≤ g) && (decide (w = "yes") || decide (w = "no"))))))))))) = true := h
  simp only [Bool.and_eq_true, decide_eq_true_eq] at h2
  exact h2.2.2.2.2.2.2.2.2.1
def sp_law_one_by : Sp := fun vs H Q _ => ∃ (L : Addr) (ns : List Str) (c s : Int), vs = [.int c, .int s, .ref L] ∧ H L = some (.lst (ns.map V.str)) ∧ Nms ns ∧ ∀ (p : Addr) (l : Lt) H', Same H H' → LtAt H' l p → LtOk l → Det s ns l → l.number ≤ 1 → Q (.ref p) H'
end K63
namespace K63
open PySem L2 DW
section
variable {P : Program} {w : World} {K : W.Frag} {mg : Str → Option Value} {base : Heap} {a : Adr}
theorem sc_is_made_of : FnScope ["text", "signs"] ["text", "signs"] (defScope s_is_made_of) := ⟨rfl, rfl, rfl, by decide +kernel, rfl, by decide +kernel, by decide +kernel⟩
theorem ok_is_made_of (T : Txt K mg a) : FnOk P w K mg base CX0 true 1 a.f_is_made_of a.d_is_made_of ["text", "signs"] (sp_is_made_of) := by
 refine T.F_is_made_of.ok sc_is_made_of (fun vs H Q E h => ?_) (fun cdv A outer s H vs Q E hr h => ?_)
 · obtain ⟨t, g, rfl, _⟩ := h; rfl
 ·
  obtain ⟨t, g, rfl, hl, k⟩ := h
  refine ⟨_, (pss_one (ps_ret (pe_callB (call_allK (K := K) rfl rfl) rfl T.n_all (by decide +kernel) (pa_cons (pe_comp (N := ["sign", "signs"]) (cap := [none, some 1]) (by show CompScope (defScope s_is_made_of) _ ["text", "signs"] _ _; exact ⟨rfl, by decide +kernel, by decide +kernel, by decide +kernel, by decide +kernel, rfl, by decide +kernel⟩) rfl (pi_str (pv 0)) (fun C s H fp => ⟨(pg_name (i := 0) (by show (["sign", "signs"] : List Str).Nodup; decide +kernel) rfl (Or.inl rfl) (.inr rfl)), pf_none, (pe_cmpR op_in_chr (pv 0) (pv 1) (by with_unfolding_all rfl))⟩)) pa_nil)))), ?_⟩
  refine ⟨_, rfl, t, rfl, ?_⟩
  refine comp_pure (seq_str t H) (fun _ => true) (fun v => V.bl (match v with | .str y => decide (y.cps.toList.headD 0 ∈ g.cps.toList) | _ => false)) ?_ ?_ ?_ ?_
  ·
   rw [List.length_map, Array.length_toList]
   exact Nat.le_trans hl (by decide)
  · exact fun x _ H' _ R hR => hR H' (Same.refl _)
  ·
   intro x hx _ H' _ R hR
   obtain ⟨c, _, rfl⟩ := List.mem_map.mp hx
   exact ⟨_, rfl, _, rfl, c, g, rfl, rfl, hR H' (Same.refl _)⟩
  ·
   intro D H' sm _ hD
   refine ⟨D, t.cps.toList.map fun c => decide (c ∈ g.cps.toList), rfl, SqL.of ?_, ?_⟩
   ·
    rw [hD, List.filter_eq_self.mpr (fun _ _ => rfl), List.map_map, List.map_map]
    rfl
   ·
    have := k H' sm
    rw [List.all_map]
    exact this
theorem sc_is_span : FnScope ["begin", "end"] ["begin", "end"] (defScope s_is_span) := ⟨rfl, rfl, rfl, by decide +kernel, rfl, by decide +kernel, by decide +kernel⟩
theorem ok_is_span (T : Txt K mg a) : FnOk P w K mg base CX0 true 1 a.f_is_span a.d_is_span ["begin", "end"] (sp_is_span) := by
 refine T.F_is_span.ok sc_is_span (fun vs H Q E h => ?_) (fun cdv A outer s H vs Q E hr h => ?_)
 · obtain ⟨b, e, rfl, _⟩ := h; rfl
 ·
  obtain ⟨b, e, rfl, k⟩ := h
  refine ⟨_, (pss_one (ps_ret (pe_cmpR op_gt (pv 1) (pv 0) (nomark _)))), ?_⟩
  exact ⟨_, rfl, _, rfl, _, _, rfl, rfl, k⟩
theorem sc_is_number : FnScope ["value"] ["value"] (defScope s_is_number) := ⟨rfl, rfl, rfl, by decide +kernel, rfl, by decide +kernel, by decide +kernel⟩
theorem ok_is_number (T : Txt K mg a) : FnOk P w K mg base CX0 true 1 a.f_is_number a.d_is_number ["value"] (sp_is_number) := by
 refine T.F_is_number.ok sc_is_number (fun vs H Q E h => ?_) (fun cdv A outer s H vs Q E hr h => ?_)
 · obtain ⟨v, w, rfl, _⟩ := h; rfl
 ·
  obtain ⟨v, w, rfl, hw, k⟩ := h
  refine ⟨_, (pss_one (ps_ret (pe_and (pe_callB (call_isinstK (K := K) rfl) rfl T.n_isinstance (by decide +kernel) (pa_cons (pv 0) (pa_cons (pe_bltn (v := .ty "int") rfl T.n_int (by decide +kernel) rfl) pa_nil))) (pe_one (pe_not (pe_callB (call_isinstK (K := K) rfl) rfl T.n_isinstance (by decide +kernel) (pa_cons (pv 0) (pa_cons (pe_bltn (v := .ty "bool") rfl T.n_bool (by decide +kernel) rfl) pa_nil)))))))), ?_⟩
  cases w with
  | n => cases hw; exact ⟨_, rfl, _, _, _, _, rfl, TyOf.non, rfl, _, rfl, iteF k⟩
  | b x => cases hw; exact ⟨_, rfl, _, _, _, _, rfl, TyOf.bl _, rfl, _, rfl, iteT ⟨_, rfl, _, _, _, _, rfl, TyOf.bl _, rfl, _, rfl, k⟩⟩
  | i z => cases hw; exact ⟨_, rfl, _, _, _, _, rfl, TyOf.int _, rfl, _, rfl, iteT ⟨_, rfl, _, _, _, _, rfl, TyOf.int _, rfl, _, rfl, k⟩⟩
  | s t => obtain ⟨rfl, ht⟩ := hw; exact ⟨_, rfl, _, _, _, _, rfl, TyOf.str _, rfl, _, rfl, iteF k⟩
  | ts l => obtain ⟨r, rfl, hr0, hl0, hl1⟩ := hw; exact ⟨_, rfl, _, _, _, _, rfl, TyOf.tup hr0, rfl, _, rfl, iteF k⟩
  | ti z => obtain ⟨r, rfl, hr0⟩ := hw; exact ⟨_, rfl, _, _, _, _, rfl, TyOf.tup hr0, rfl, _, rfl, iteF k⟩
theorem sc_is_rising : FnScope ["hands"] ["hands"] (defScope s_is_rising) := ⟨rfl, rfl, rfl, by decide +kernel, rfl, by decide +kernel, by decide +kernel⟩
theorem ok_is_rising (T : Txt K mg a) : FnOk P w K mg base CX0 true 1 a.f_is_rising a.d_is_rising ["hands"] (sp_is_rising) := by
 refine T.F_is_rising.ok sc_is_rising (fun vs H Q E h => ?_) (fun cdv A outer s H vs Q E hr h => ?_)
 · obtain ⟨r, l, rfl, _⟩ := h; rfl
 ·
  obtain ⟨r, l, rfl, hr0, hl, k⟩ := h
  refine ⟨_, (pss_one (ps_ret (pe_callB (call_allK (K := K) rfl rfl) rfl T.n_all (by decide +kernel) (pa_cons (pe_comp (N := ["place", "hands"]) (cap := [none, some 0]) (by show CompScope (defScope s_is_rising) _ ["hands"] _ _; exact ⟨rfl, by decide +kernel, by decide +kernel, by decide +kernel, by decide +kernel, rfl, by decide +kernel⟩) rfl (pi_range2 rfl T.n_range (pa_cons pe_int (pa_cons (pe_callB (call_len_seqK (K := K) rfl) rfl T.n_len (by decide +kernel) (pa_cons (pv 0) pa_nil)) pa_nil))) (fun C s H fp => ⟨(pg_name (i := 0) (by show (["place", "hands"] : List Str).Nodup; decide +kernel) rfl (Or.inl rfl) (.inr rfl)), pf_none, (pe_cmpR op_lt_str (pe_ix (ix_tupK (K := K) rfl) (pv 1) (pe_op op_sub (pv 0) pe_int) (fun _ _ => rfl)) (pe_ix (ix_tupK (K := K) rfl) (pv 1) (pv 0) (fun _ _ => rfl)) (nomark _))⟩)) pa_nil)))), ?_⟩
  refine ⟨_, rfl, r, _, rfl, .inr (SqT.of hr0), _, _, rfl, ⟨by decide, by decide, by omega, by rw [List.length_map]; omega⟩, ?_⟩
  rw [List.length_map]
  have en : ((l.length : Int) - 1).toNat = l.length - 1 := by omega
  rw [en]
  refine comp_pure (seq_range 1 (l.length - 1) H) (fun _ => true) (ltF l) ?_ (fun x _ H' _ R hR => hR H' (Same.refl _)) ?_ (fun D H1 s1 hD0 hD => ?_)
  ·
   rw [List.length_map, List.length_range]
   omega
  ·
   intro x hx _ H' sm R hR
   obtain ⟨j, hj, rfl⟩ := List.mem_map.mp hx
   have hj2 := List.mem_range.mp hj
   have A1 : atI (l.map V.str) (1 + (j : Int) - 1) = some (.str (l.getD ((1 + (j : Int)) - 1).toNat "")) := by rw [show ((1 + (j : Int)) - 1).toNat = j by omega, show (1 + (j : Int) - 1) = ((j : Nat) : Int) by omega]; exact getD_at (by omega)
   have A2 : atI (l.map V.str) (1 + (j : Int)) = some (.str (l.getD (1 + (j : Int)).toNat "")) := by rw [show (1 + (j : Int)).toNat = j + 1 by omega, show (1 + (j : Int)) = ((j + 1 : Nat) : Int) by omega]; exact getD_at (by omega)
   exact ⟨_, rfl, _, rfl, _, _, rfl, rfl, r, _, _, _, rfl, rfl, SqT.of (sm _ _ hr0), A1, _, rfl, _, rfl, r, _, _, _, rfl, rfl, SqT.of (sm _ _ hr0), A2, _, _, rfl, rfl, hR H' (Same.refl _)⟩
  rw [List.filter_eq_self.mpr (fun _ _ => rfl), ltF_all] at hD
  refine ⟨D, _, rfl, SqL.of hD, ?_⟩
  rw [List.all_map]
  have ea := rise_all l
  have eb : ((List.range (l.length - 1)).all (id ∘ fun j => decide ((l.getD j "").cps.toList < (l.getD (j + 1) "").cps.toList))) = riseS l := ea
  rw [eb]
  exact k H1 s1
theorem sc_turn_first : FnScope ["letter"] ["letter"] (defScope s_turn_first) := ⟨rfl, rfl, rfl, by decide +kernel, rfl, by decide +kernel, by decide +kernel⟩
theorem ok_turn_first (T : Txt K mg a) : FnOk P w K mg base CX0 true 1 a.f_turn_first a.d_turn_first ["letter"] (sp_turn_first) := by
 refine T.F_turn_first.ok sc_turn_first (fun vs H Q E h => ?_) (fun cdv A outer s H vs Q E hr h => ?_)
 · obtain ⟨p, l, rfl, _⟩ := h; rfl
 ·
  obtain ⟨p, l, rfl, ⟨ys, hp, hv⟩, k⟩ := h
  refine ⟨_, (pss_one (ps_ret (pe_tup (pa_cons (pe_ix (ix_tupK (K := K) rfl) (pv 0) pe_int (fun _ _ => rfl)) (pa_cons (pv 0) pa_nil))))), ?_⟩
  obtain ⟨r, rfl⟩ := hv.four
  exact ⟨_, rfl, p, _, _, _, rfl, rfl, SqT.of hp, at_3, _, rfl, (by show 2 ≤ sizeLine; decide), fun q hq => k q hq⟩
theorem sc_answers_of : FnScope ["letters", "turn", "last", "letter"] ["letters", "turn"] (defScope s_answers_of) := ⟨rfl, rfl, rfl, by decide +kernel, rfl, by decide +kernel, by decide +kernel⟩
theorem ok_answers_of (T : Txt K mg a) : FnOk P w K mg base CX0 true 1 a.f_answers_of a.d_answers_of ["letters", "turn"] (sp_answers_of) := by
 refine T.F_answers_of.ok sc_answers_of (fun vs H Q E h => ?_) (fun cdv A outer s H vs Q E hr h => ?_)
 · obtain ⟨L, ms, t, rfl, _⟩ := h; rfl
 ·
  obtain ⟨L, ms, t, rfl, hL, hG, k⟩ := h
  refine ⟨_, (pss_cons (ps_set (i := 2) sc_answers_of.nd rfl (Or.inl rfl) pe_dnewK)
   (pss_cons (ps_for PassesOwn.never rfl (pi_listK (K := K) rfl (pv 0)) (pg_name (i := 3) sc_answers_of.nd rfl (Or.inl rfl)) (pss_one (ps_if (PW.pt (pw_and (pt_cmpR (op_eqW (hu_of hr)) (pe_ix (ix_tupK (K := K) rfl) (pv 3) pe_int (fun _ _ => rfl)) pe_str (nomark _)) (pw_and1 (pt_cmpR op_eq (pe_ix (ix_tupK (K := K) rfl) (pv 3) pe_int (fun _ _ => rfl)) (pv 1) (nomark _))))) (pss_one (ps_dput (hu_of hr) (pv 2) (pe_ix (ix_tupK (K := K) rfl) (pv 3) pe_int (fun _ _ => rfl)) (pe_callB (call_max2N rfl) rfl T.n_max (by decide +kernel) (pa_cons (pe_dget2 (hu_of hr) (pv 2) (pe_ix (ix_tupK (K := K) rfl) (pv 3) pe_int (fun _ _ => rfl)) (pe_tup (pa_lits [.int (-1), .str ""] (by decide +kernel))) ⟨rfl, rfl, rfl, rfl⟩) (pa_cons (pe_tup (pa_cons (pe_ix (ix_tupK (K := K) rfl) (pv 3) pe_int (fun _ _ => rfl)) (pa_cons (pe_ix (ix_tupK (K := K) rfl) (pv 3) pe_int (fun _ _ => rfl)) pa_nil))) pa_nil))) rfl)) pss_nil)))
   (pss_one (ps_ret (pv 2))))), ?_⟩
  refine fun D hD => ?_
  refine ⟨_, rfl, L, rfl, ⟨_, SqL.of ((same_upd hD) _ _ hL.at_)⟩, ?_⟩
  refine for_seq (seq_list (K := K) (SqL.of lone_at)) (fun i σ H' => Same H H' ∧ ∃ (kvs : List (Key × V)) (y : Option V), H' D = some (.dK kvs) ∧ AnsB H' (Si ms i) t kvs ∧ kvs.length ≤ i ∧ σ = [some (.ref L), some (.int t), some (.ref D), y]) ⟨same_upd hD, [], _, upd_same, (fun x => .inl ⟨rfl, fun _ _ _ _ z => nomatch z⟩), Nat.le_refl _, rfl⟩ (fun _ _ _ _ h => lone_same (h.1 _ _ hL.at_)) ?_ ?_
  ·
   rintro i v σ H1 hv ⟨s1, kvs, y, h1, hA, hl, rfl⟩
   have hi : i < 1000 := by have h1 := (List.getElem?_eq_some_iff.mp hv).1; rw [List.length_map] at h1; have := hL.few; omega
   rw [List.getElem?_map] at hv
   obtain ⟨m, hmi, rfl⟩ := Option.map_eq_some_iff.mp hv
   have hm := List.mem_of_getElem? hmi
   obtain ⟨lt, p⟩ := m
   have hS := Si_succ hmi
   have nx : (∀ a n x g w, Lt.ans a n t x g w ≠ lt) → Same H H1 ∧ ∃ (kvs : List (Key × V)) (y' : Option V), H1 D = some (.dK kvs) ∧ AnsB H1 (Si ms (i + 1)) t kvs ∧ kvs.length ≤ i + 1 ∧ ([some (V.ref L), some (V.int t), some (V.ref D), y].set 3 (some (V.ref p))) = [some (.ref L), some (.int t), some (.ref D), y'] := fun ne => ⟨s1, kvs, _, h1, hA.skip (fun a n x g w => by rw [hS]; exact ⟨fun z => z.elim id fun y => absurd y (ne a n x g w), .inl⟩), Nat.le_succ_of_le hl, rfl⟩
   obtain ⟨zs, hp, hv'⟩ := (hL.ok _ hm).up s1
   cases lt with
   | bid a0 n t0 b e hs => obtain ⟨q, rfl, _⟩ := hv'; exact ⟨_, rfl, p, _, _, _, rfl, rfl, SqT.of hp, at_0, _, rfl, .inl ⟨rfl, _, rfl, ite2 (fun z => absurd z (by decide +kernel)) (fun _ => nx (fun _ _ _ _ _ z => nomatch z))⟩⟩
   | off a0 n t0 => cases hv'; exact ⟨_, rfl, p, _, _, _, rfl, rfl, SqT.of hp, at_0, _, rfl, .inl ⟨rfl, _, rfl, ite2 (fun z => absurd z (by decide +kernel)) (fun _ => nx (fun _ _ _ _ _ z => nomatch z))⟩⟩
   | close a0 n t0 hs => obtain ⟨q, rfl, _⟩ := hv'; exact ⟨_, rfl, p, _, _, _, rfl, rfl, SqT.of hp, at_0, _, rfl, .inl ⟨rfl, _, rfl, ite2 (fun z => absurd z (by decide +kernel)) (fun _ => nx (fun _ _ _ _ _ z => nomatch z))⟩⟩
   | ans a0 nn t0 h g w0 =>
   cases hv'
   have hg : 0 ≤ g := hG _ hm
   refine ⟨_, rfl, p, _, _, _, rfl, rfl, SqT.of hp, at_0, _, rfl, .inl ⟨rfl, _, rfl, ite2 (fun _ => ?_) (fun z => absurd (by decide +kernel) z)⟩⟩
   refine ⟨_, rfl, p, _, _, _, rfl, rfl, SqT.of hp, at_3, _, rfl, rfl, _, rfl, ite2 (fun zt => ?_) (fun z => nx (fun _ _ _ _ _ e => z (by injection e with _ _ e _ _ _; rw [e]; exact decide_eq_true rfl)))⟩
   obtain rfl : t0 = t := V.int.inj (of_decide_eq_true zt)
   clear zt nx
   refine ⟨_, rfl, D, rfl, .inl ⟨kvs, .inl h1⟩, _, rfl, p, _, _, _, rfl, rfl, SqT.of hp, atI_nat (j := 4) rfl, (by show 2 ≤ sizeLine; decide), fun q0 hq0 => ?_⟩
   have u0 := same_upd (o := .tup [.int (-1), .str ""]) hq0
   have e0 : (upd H1 q0 (.tup [.int (-1), .str ""])) q0 = some (.tup [.int (-1), .str ""]) := upd_same
   replace hp := u0 _ _ hp
   replace h1 := u0 _ _ h1
   replace hA := hA.up fun b xs e => u0 b _ e
   replace s1 := s1.trans u0
   clear hv
   generalize upd H1 q0 (.tup [.int (-1), .str ""]) = H2 at *
   refine ⟨_, DGet.k (k := .inr h) h1, _, rfl, p, _, _, _, rfl, rfl, SqT.of hp, atI_nat (j := 5) rfl, _, rfl, p, _, _, _, rfl, rfl, SqT.of hp, atI_nat (j := 6) rfl, (by show 2 ≤ sizeLine; decide), fun q1 hq1 => ?_⟩
   have u1 := same_upd (o := .tup [.int g, .str w0]) hq1
   have e1 : (upd H2 q1 (.tup [.int g, .str w0])) q1 = some (.tup [.int g, .str w0]) := upd_same
   replace hp := u1 _ _ hp
   replace h1 := u1 _ _ h1
   replace e0 := u1 _ _ e0
   replace hA := hA.up fun b xs e => u1 b _ e
   replace s1 := s1.trans u1
   generalize upd H2 q1 (.tup [.int g, .str w0]) = H3 at *
   have hS' : ∀ a n x g' w', Si ms (i + 1) (.ans a n t0 x g' w') ↔ Si ms i (.ans a n t0 x g' w') ∨ Lt.ans a n t0 x g' w' = .ans a0 nn t0 h g w0 := fun a n x g' w' => hS _
   have hold : ∃ (q2 : Addr) (g2 : Int) (w2 : Str), ((valV kvs (.inr h)).getD (.ref q0)) = .ref q2 ∧ H3 q2 = some (.tup [.int g2, .str w2]) ∧ (∀ a n g' w', Si ms i (.ans a n t0 h g' w') → ltP (g2, w2) (g', w') = false) ∧ (ltP (g2, w2) (g, w0) = false → IsBest ltP (Si ms i) t0 h g2 w2) := by
    rcases hA h with ⟨e, no⟩ | ⟨q2, g2, w2, e, e2, best⟩
    · exact ⟨q0, -1, "", by rw [e]; rfl, e0, fun a n g' w' z => absurd z (no a n g' w'), fun z => by rw [ltP_fst (a := (-1, "")) (b := (g, w0)) (by show (-1 : Int) < g; omega)] at z; cases z⟩
    · exact ⟨q2, g2, w2, by rw [e]; rfl, e2, best.2, fun _ => best⟩
   obtain ⟨q2, g2, w2, eq2, hq2, low, keep⟩ := hold
   rw [eq2]
   let c : V → List Key := fun z => if z = .ref q2 then [.inl g2, .inr w2] else [.inl g, .inr w0]
   have hc : ∀ z ∈ [V.ref q2, V.ref q1], ∀ H4, Same H3 H4 → ∃ q, z = .ref q ∧ H4 q = some (.tup ((c z).map kV)) ∧ ∃ a b, c z = [.inl a, .inr b] := by
    intro z hz H4 s4
    by_cases ez : z = .ref q2
    · exact ⟨q2, ez, by show H4 q2 = some (.tup ((if z = .ref q2 then _ else _ : List Key).map kV)); rw [if_pos ez]; exact s4 _ _ hq2, g2, w2, if_pos ez⟩
    ·
     have e1' : z = .ref q1 := by
      rcases List.mem_cons.mp hz with h | h
      · exact absurd h ez
      · exact List.mem_singleton.mp h
     exact ⟨q1, e1', by show H4 q1 = some (.tup ((if z = .ref q2 then _ else _ : List Key).map kV)); rw [if_neg ez]; exact s4 _ _ e1, g, w0, if_neg ez⟩
   have c2 : c (.ref q2) = pk (g2, w2) := if_pos rfl
   have c1 : c (.ref q1) = pk (g, w0) := by
    by_cases ez : V.ref q1 = .ref q2
    ·
     have e3 := e1
     rw [V.ref.inj ez, hq2] at e3
     show (if V.ref q1 = .ref q2 then _ else _) = _
     rw [if_pos ez]
     injection e3 with e3
     injection e3 with e3
     injection e3 with e4 e5
     injection e5 with e5 _
     rw [V.int.inj e4, V.str.inj e5]
     rfl
    · exact if_neg ez
   refine ⟨.ref q2, .ref q1, fun z z' => DX.lexB ltK (c z') (c z), rfl, fun z hz z' hz' H4 s4 => ?_, fun H4 s4 => ?_⟩
   ·
    obtain ⟨qa, ea, ha, a1, b1, ca⟩ := hc z hz H4 s4
    obtain ⟨qb, eb, hb, a2, b2, cb⟩ := hc z' hz' H4 s4
    subst ea eb
    exact gtv_key (hu2 hr) ha hb (by rw [ca, cb]; exact okT2)
   ·
    have hD4 : ∀ xs, H4 D ≠ some (.tup xs) := fun xs z => by rw [s4 _ _ h1] at z; cases z
    have hz : kvs.length < sizeLine := by rw [PySem.sizeLine_eq]; omega
    refine ⟨_, rfl, _, rfl, p, _, _, _, rfl, rfl, SqT.of (s4 _ _ hp), atI_nat (j := 4) rfl, D, _, rfl, DPut.k (k := .inr h) (s4 _ _ h1) hz, fun b o e => ?_, _, _, upd_same, ?_, Nat.le_trans (length_putK _ _ _) (by omega), rfl⟩
    ·
     rw [upd_ne (ne_of_none e hD)]
     exact s4 _ _ (s1 _ _ e)
    ·
     have tp : ∀ b xs, H3 b = some (.tup xs) → (upd H4 D (.dK (putK kvs (.inr h) (if DX.lexB ltK (c (.ref q2)) (c (.ref q1)) then .ref q1 else .ref q2)))) b = some (.tup xs) := fun b xs e => by
      rw [upd_ne (fun z => hD4 xs (by rw [← z]; exact s4 _ _ e))]
      exact s4 _ _ e
     have eg : DX.lexB ltK (c (.ref q2)) (c (.ref q1)) = ltP (g2, w2) (g, w0) := by rw [c1, c2]; rfl
     show AnsB (upd H4 D (.dK (putK kvs (.inr h) (if DX.lexB ltK (c (.ref q2)) (c (.ref q1)) = true then .ref q1 else .ref q2)))) (Si ms (i + 1)) t0 (putK kvs (.inr h) (if DX.lexB ltK (c (.ref q2)) (c (.ref q1)) = true then .ref q1 else .ref q2))
     rw [eg] at tp ⊢
     cases hlt : ltP (g2, w2) (g, w0) with
     |
      true =>
      rw [hlt] at tp
      exact (hA.up tp).put hS' (tp _ _ e1) (best_new hS' fun a n g' w' z => by
       cases hx : ltP (g, w0) (g', w') with
       | false => rfl
       | true => have := ltP_lin.tr _ _ _ hlt hx; rw [low a n g' w' z] at this; cases this)
     |
      false =>
      rw [hlt] at tp
      exact (hA.up tp).put hS' (tp _ _ hq2) (best_old hS' (keep hlt) hlt)
  rintro σ H1 ⟨s1, kvs, y, h1, hA, hl, rfl⟩
  rw [List.length_map, Si_all] at hA
  exact ⟨_, rfl, k D kvs H1 s1 h1 hA⟩
theorem sc_with_word : FnScope ["asked", "answers", "word"] ["asked", "answers", "word"] (defScope s_with_word) := ⟨rfl, rfl, rfl, by decide +kernel, rfl, by decide +kernel, by decide +kernel⟩
theorem ok_with_word (T : Txt K mg a) : FnOk P w K mg base CX0 true 1 a.f_with_word a.d_with_word ["asked", "answers", "word"] (sp_with_word) := by
 refine T.F_with_word.ok sc_with_word (fun vs H Q E h => ?_) (fun cdv A outer s H vs Q E hr h => ?_)
 · obtain ⟨A0, D, l, kvs, o, wf, rfl, _⟩ := h; rfl
 ·
  obtain ⟨A0, D, l, kvs, o, wf, rfl, hA0, hl, hD, hW, k⟩ := h
  refine ⟨_, (pss_cons (ps_if (pt_cmpR op_isN (pv 2) pe_non (nomark _)) (pss_one (ps_ret (pe_callTy (call_tuple_ofK (K := K) rfl) rfl T.n_tuple (by decide +kernel) (pa_cons (pe_comp (N := ["hand", "answers"]) (cap := [none, some 1]) (by show CompScope (defScope s_with_word) _ ["asked", "answers", "word"] _ _; exact ⟨rfl, by decide +kernel, by decide +kernel, by decide +kernel, by decide +kernel, rfl, by decide +kernel⟩) rfl (pi_tupK (K := K) rfl (pv 0)) (fun C s H fp => ⟨(pg_name (i := 0) (by show (["hand", "answers"] : List Str).Nodup; decide +kernel) rfl (Or.inl rfl) (.inr rfl)), (pf_one (pt_cmp (pc_dnotin (hu_of hr) (pv 0) (pv 1)) (by with_unfolding_all rfl))), (pv 0)⟩)) pa_nil)))) pss_nil)
   (pss_one (ps_ret (pe_callTy (call_tuple_ofK (K := K) rfl) rfl T.n_tuple (by decide +kernel) (pa_cons (pe_comp (N := ["hand", "answers", "word"]) (cap := [none, some 1, some 2]) (by show CompScope (defScope s_with_word) _ ["asked", "answers", "word"] _ _; exact ⟨rfl, by decide +kernel, by decide +kernel, by decide +kernel, by decide +kernel, rfl, by decide +kernel⟩) rfl (pi_tupK (K := K) rfl (pv 0)) (fun C s H fp => ⟨(pg_name (i := 0) (by show (["hand", "answers", "word"] : List Str).Nodup; decide +kernel) rfl (Or.inl rfl) (.inr rfl)), (pf_one (PW.pt (pw_and (pt_cmp (pc_din (hu_of hr) (pv 0) (pv 1)) (by with_unfolding_all rfl)) (pw_and1 (pt_cmpR op_eq (pe_ix (ix_tupK (K := K) rfl) (pe_dget (hu_of hr) (pv 1) (pv 0) (fun _ _ => rfl)) pe_int (fun _ _ => rfl)) (pv 2) (nomark _)))))), (pv 0)⟩)) pa_nil))))), ?_⟩
  have fin : ∀ {σ : St} {cap : List (Option Nat)} {tt : TT}, (∀ t ∈ l, ∀ H', Same H H' → ∀ R : Bool → Hp → Prop, (∀ H'', Same H' H'' → R (decide (wf t = o)) H'') → tt ((capt cap σ).set 0 (some (V.str t))) H' R) →
    (∀ t ∈ l, ((capt cap σ).set 0 (some (V.str t)))[0]? = some (some (V.str t))) → ∀ {Q' : VK}, (∀ (D2 : Addr) H', Same H H' → H' D2 = some (.lst ((wfil wf o l).map V.str)) → Q' (.ref D2) H') → compBody (Itt K A0) H cap (gName 0) tt (tVar 0) σ Q' := by
   intro σ cap tt h1 h2 Q' h3
   refine comp_pure (seq_tup (SqT.of hA0)) (wP wf o) (fun v => v) (by rw [List.length_map]; omega) (fun x hx => ?_) (fun x hx _ H' sm R hR => ?_) (fun D2 H2 s2 hD20 hD2 => ?_)
   ·
    obtain ⟨t, ht, rfl⟩ := List.mem_map.mp hx
    exact h1 t ht
   ·
    obtain ⟨t, ht, rfl⟩ := List.mem_map.mp hx
    exact ⟨_, h2 t ht, hR H' (Same.refl _)⟩
   ·
    rw [wP_fil] at hD2
    exact h3 D2 H2 s2 hD2
  cases o with
  |
   none =>
   refine ⟨_, rfl, rfl, _, rfl, ite2 (fun _ => ?_) (fun z => absurd rfl z)⟩
   refine ⟨_, rfl, A0, rfl, ⟨_, SqT.of hA0⟩, fin (fun t ht H' sm R hR => ?_) (fun _ _ => rfl) fun D2 H2 s2 hD2 => ⟨D2, _, rfl, .inl ⟨SqL.of hD2, fun r hr0 => k r _ (s2.trans (same_upd hr0)) upd_same⟩⟩⟩
   refine ⟨_, rfl, _, rfl, D, _, rfl, DGet.k (k := .inr t) (sm _ _ hD), _, rfl, ?_⟩
   have q := hR H' (Same.refl _)
   rcases hW t with ⟨e1, e2⟩ | ⟨q2, g2, w2, e1, e2, e3⟩
   ·
    rw [e2, decide_eq_true rfl] at q
    rw [e1]
    exact q
   ·
    rw [e3, decide_eq_false (fun z => nomatch z)] at q
    rw [e1]
    exact q
  |
   some t0 =>
   refine ⟨_, rfl, rfl, _, rfl, ite2 (fun z => absurd z (by simp [oV])) (fun _ => ?_)⟩
   refine ⟨_, rfl, A0, rfl, ⟨_, SqT.of hA0⟩, fin (fun t ht H' sm R hR => ?_) (fun _ _ => rfl) fun D2 H2 s2 hD2 => ⟨D2, _, rfl, .inl ⟨SqL.of hD2, fun r hr0 => k r _ (s2.trans (same_upd hr0)) upd_same⟩⟩⟩
   refine ⟨_, rfl, _, rfl, D, _, rfl, DGet.k (k := .inr t) (sm _ _ hD), _, rfl, ?_⟩
   have q := hR H' (Same.refl _)
   rcases hW t with ⟨e1, e2⟩ | ⟨q2, g2, w2, e1, e2, e3⟩
   ·
    rw [e2, decide_eq_false (fun z => nomatch z)] at q
    rw [e1]
    exact iteF q
   ·
    rw [e3] at q
    rw [e1]
    refine iteT ⟨_, rfl, _, rfl, D, _, rfl, e1 ▸ DGet.k (k := .inr t) (sm _ _ hD), q2, _, _, _, rfl, rfl, SqT.of (sm _ _ e2), rfl, _, rfl, rfl, _, rfl, ?_⟩
    rw [show decide (V.str w2 = oV (some t0)) = decide (some w2 = some t0) from decide_eq_decide.mpr (by show V.str w2 = V.str t0 ↔ _; rw [V.str.injEq, Option.some.injEq])]
    exact q
theorem sc_Table_meeting : FnScope ["self", "asker", "number"] ["self", "asker", "number"] (defScope s_Table_meeting) := ⟨rfl, rfl, rfl, by decide +kernel, rfl, by decide +kernel, by decide +kernel⟩
theorem ok_Table_meeting (T : Txt K mg a) : FnOk P w K mg base CX0 true 1 a.f_Table_meeting a.d_Table_meeting ["self", "asker", "number"] (sp_Table_meeting P w a.x_Table) := by
 refine T.F_Table_meeting.ok sc_Table_meeting (fun vs H Q E h => ?_) (fun cdv A outer s H vs Q E hr h => ?_)
 · obtain ⟨x, k0, m0, t0, ms, bs, ts, a0, n, rfl, _⟩ := h; rfl
 ·
  obtain ⟨x, k0, m0, t0, ms, bs, ts, a0, n, rfl, hT, k⟩ := h
  refine ⟨_, (pss_one (ps_ret (pe_dget1 (hu_of hr) (pe_fldK (K := K) rfl (pv 0)) (pe_tup (pa_cons (pv 1) (pa_cons (pv 2) pa_nil))) ⟨rfl, rfl, rfl, rfl⟩))), ?_⟩
  obtain ⟨dx, hx⟩ := hT.ins
  exact ⟨_, rfl, x, _, dx, _, _, rfl, hx, T.cl_Table, T.n_Table_tellings, rfl, t0, rfl, .inr ⟨_, .inl hT.told⟩, _, rfl, _, rfl, (by show 2 ≤ sizeLine; decide), fun q hq => ⟨_, DGet.t (k := mkK (a0, n)) ((same_upd hq) _ _ hT.told) upd_same, k _ (same_upd hq)⟩⟩
theorem sc_Table___init : FnScope ["self"] ["self"] (defScope s_Table___init) := ⟨rfl, rfl, rfl, by decide +kernel, rfl, by decide +kernel, by decide +kernel⟩
theorem ok_Table___init (T : Txt K mg a) : FnOk P w K mg base CX0 true 1 a.f_Table___init a.d_Table___init ["self"] (sp_Table_init P w a.x_Table) := by
 refine T.F_Table___init.ok sc_Table___init (fun vs H Q E h => ?_) (fun cdv A outer s H vs Q E hr h => ?_)
 · obtain ⟨x, dx, rfl, _⟩ := h; rfl
 ·
  obtain ⟨x, dx, rfl, hx, kk⟩ := h
  refine ⟨_, (pss_cons (ps_fldK (K := K) rfl (pv 0) pe_dnewK)
   (pss_cons (ps_fldK (K := K) rfl (pv 0) pe_dnewT)
   (pss_one (ps_fldK (K := K) rfl (pv 0) pe_dnewT)))), ?_⟩
  refine fun k0 hk0 => ?_
  have nk : x ≠ k0 := ne_of_none hx hk0
  refine ⟨_, rfl, x, _, dx, _, rfl, (by rw [upd_ne nk]; exact hx), T.cl_Table, T.n_Table_kept, by decide, fun m0 hm0 => ?_⟩
  have a1 : ∀ {b : Addr} {o : HO}, H b = some o → b ≠ x → (upd (upd H k0 (.dK [])) x (.ins a.x_Table dx (putF "kept" (.ref k0) []))) b = some o := fun {b o} e nb => by rw [upd_ne nb, upd_ne (ne_of_none e hk0)]; exact e
  have x1 : (upd (upd H k0 (.dK [])) x (.ins a.x_Table dx (putF "kept" (.ref k0) []))) x = some (.ins a.x_Table dx [("kept", .ref k0)]) := upd_same
  have k1 : (upd (upd H k0 (.dK [])) x (.ins a.x_Table dx (putF "kept" (.ref k0) []))) k0 = some (.dK []) := by rw [upd_ne nk.symm]; exact upd_same
  generalize upd (upd H k0 (.dK [])) x (.ins a.x_Table dx (putF "kept" (.ref k0) [])) = H1 at *
  have nm : x ≠ m0 := ne_of_none x1 hm0
  have hm : H m0 = none := by
   cases e : H m0 with
   | none => rfl
   | some o => have := a1 e nm.symm; rw [hm0] at this; cases this
  refine ⟨_, rfl, x, _, dx, _, rfl, (by rw [upd_ne nm]; exact x1), T.cl_Table, T.n_Table_by_meeting, (by show 1 < 1000; decide), fun t0 ht0 => ?_⟩
  have a2 : ∀ {b : Addr} {o : HO}, H1 b = some o → b ≠ x → (upd (upd H1 m0 (.dT [])) x (.ins a.x_Table dx (putF "by_meeting" (.ref m0) [("kept", .ref k0)]))) b = some o := fun {b o} e nb => by rw [upd_ne nb, upd_ne (ne_of_none e hm0)]; exact e
  have x2 : (upd (upd H1 m0 (.dT [])) x (.ins a.x_Table dx (putF "by_meeting" (.ref m0) [("kept", .ref k0)]))) x = some (.ins a.x_Table dx [("kept", .ref k0), ("by_meeting", .ref m0)]) := upd_same
  have m2 : (upd (upd H1 m0 (.dT [])) x (.ins a.x_Table dx (putF "by_meeting" (.ref m0) [("kept", .ref k0)]))) m0 = some (.dT []) := by rw [upd_ne nm.symm]; exact upd_same
  generalize upd (upd H1 m0 (.dT [])) x (.ins a.x_Table dx (putF "by_meeting" (.ref m0) [("kept", .ref k0)])) = H2 at *
  have nt : x ≠ t0 := ne_of_none x2 ht0
  have ht : H t0 = none := by
   cases e : H t0 with
   | none => rfl
   | some o => have := a2 (a1 e nt.symm) nt.symm; rw [ht0] at this; cases this
  refine ⟨_, rfl, x, _, dx, _, rfl, (by rw [upd_ne nt]; exact x2), T.cl_Table, T.n_Table_tellings, (by show 2 < 1000; decide), ?_⟩
  have a3 : ∀ {b : Addr} {o : HO}, H2 b = some o → b ≠ x → (upd (upd H2 t0 (.dT [])) x (.ins a.x_Table dx (putF "tellings" (.ref t0) [("kept", .ref k0), ("by_meeting", .ref m0)]))) b = some o := fun {b o} e nb => by rw [upd_ne nb, upd_ne (ne_of_none e ht0)]; exact e
  refine kk k0 m0 t0 _ (fun b o e nb => a3 (a2 (a1 e nb) nb) nb) hk0 hm ht ⟨⟨dx, upd_same⟩, ⟨.inr ⟨rfl, a3 (a2 k1 nk.symm) nk.symm⟩, (fun _ z => nomatch z), Nat.zero_le _⟩, (fun _ z => nomatch z), (fun _ z => nomatch z), a3 m2 nm.symm, (by rw [upd_ne nt.symm]; exact upd_same), ne_of_none m2 ht0, ⟨(fun _ z => nomatch z), (fun _ z => nomatch z), List.nodup_nil, List.nodup_nil, (fun _ z => nomatch z)⟩, Nat.zero_le _, Nat.le_refl _, Nat.le_refl _⟩
theorem sc_law_cell_at : FnScope ["_law_script", "_law_k"] ["_law_script", "_law_k"] (defScope s_law_cell_at) := ⟨rfl, rfl, rfl, by decide +kernel, rfl, by decide +kernel, by decide +kernel⟩
theorem ok_law_cell_at (T : Txt K mg a) : FnOk P w K mg base CX0 true 1 a.f_law_cell_at a.d_law_cell_at ["_law_script", "_law_k"] (sp_law_cell_at K) := by
 refine T.F_law_cell_at.ok sc_law_cell_at (fun vs H Q E h => ?_) (fun cdv A outer s H vs Q E hr h => ?_)
 · obtain ⟨p, ns, i, rfl, _⟩ := h; rfl
 ·
  obtain ⟨p, ns, i, rfl, hS, h0, k⟩ := h
  refine ⟨_, (pss_cons (ps_if (pt_cmpR op_lt (pv 1) (pe_callB (call_len_seqK (K := K) rfl) rfl T.n_len (by decide +kernel) (pa_cons (pv 0) pa_nil)) (nomark _)) (pss_one (ps_ret (pe_ix (ix_listK (K := K) rfl) (pv 0) (pv 1) (fun _ _ => rfl)))) pss_nil)
   (pss_one (ps_ret pe_int))), ?_⟩
  refine ⟨_, rfl, _, rfl, p, _, rfl, .inl hS, _, _, rfl, rfl, _, rfl, ?_⟩
  rw [List.length_map]
  refine ite2 (fun e1 => ?_) (fun e1 => ?_)
  · exact ⟨_, rfl, _, rfl, p, _, _, _, rfl, rfl, hS, cell_in h0 (of_decide_eq_true e1), k⟩
  ·
   rw [cell_out (fun z => e1 (decide_eq_true z))] at k
   exact k
theorem sc_law_mixed : FnScope ["_law_cell", "_law_k", "_law_many", "_law_made"] ["_law_cell", "_law_k", "_law_many"] (defScope s_law_mixed) := ⟨rfl, rfl, rfl, by decide +kernel, rfl, by decide +kernel, by decide +kernel⟩
theorem ok_law_mixed (T : Txt K mg a) : FnOk P w K mg base CX0 true 1 a.f_law_mixed a.d_law_mixed ["_law_cell", "_law_k", "_law_many"] (sp_law_mixed) := by
 refine T.F_law_mixed.ok sc_law_mixed (fun vs H Q E h => ?_) (fun cdv A outer s H vs Q E hr h => ?_)
 · obtain ⟨c, k, m, rfl, _⟩ := h; rfl
 ·
  obtain ⟨c, q, m, rfl, q0, q1, hm, k⟩ := h
  refine ⟨_, (pss_cons (ps_set (i := 3) sc_law_mixed.nd rfl (Or.inl rfl) (pe_op op_mod (pe_op op_add (pe_op op_add (pe_op op_add (pe_op op_mul (pv 0) pe_int) (pe_op op_mul (pe_op op_mul pe_int (pv 1)) (pv 1))) (pe_op op_mul pe_int (pv 1))) pe_int) pe_int))
   (pss_one (ps_ret (pe_op op_mod (pe_op op_mod (pe_op op_mul (pv 3) (pe_op op_add (pe_op op_add (pv 3) (pe_op op_mul pe_int (pv 1))) pe_int)) pe_int) (pv 2))))), ?_⟩
  refine ⟨_, rfl, _, _, rfl, rfl, .inr ⟨by decide, by decide⟩, _, rfl, _, _, rfl, rfl, .inl ⟨by decide, by decide⟩, _, rfl, _, _, rfl, rfl, .inr ⟨by omega, by omega⟩, _, _, rfl, rfl, _, rfl, _, _, rfl, rfl, .inl ⟨by decide, by decide⟩, _, _, rfl, rfl, _, _, rfl, rfl, _, _, rfl, rfl, (by show (0 : Int) < 2147483647; decide), ?_⟩
  generalize hbig : (c * 48271 + 7919 * q * q + 31 * q + 5) = big
  have b0 : 0 ≤ big % 2147483647 := Int.emod_nonneg _ (by decide)
  have b1 : big % 2147483647 < 2147483647 := Int.emod_lt_of_pos _ (by decide)
  refine ⟨_, rfl, _, rfl, _, rfl, _, _, rfl, rfl, .inl ⟨by decide, by decide⟩, _, _, rfl, rfl, _, _, rfl, rfl, _, _, rfl, rfl, .inl ⟨by omega, by omega⟩, _, _, rfl, rfl, (by show (0 : Int) < 1000000007; decide), _, rfl, _, _, rfl, rfl, hm, ?_⟩
  exact k _ (Int.emod_nonneg _ (by omega)) (Int.emod_lt_of_pos _ hm) (by subst hbig; rfl)
theorem sc_law_name_by : FnScope ["_law_k", "_law_cell", "_law_one", "_law_other", "_law_place"] ["_law_k", "_law_cell"] (defScope s_law_name_by) := ⟨rfl, rfl, rfl, by decide +kernel, rfl, by decide +kernel, by decide +kernel⟩
theorem ok_law_name_by (T : Txt K mg a) : FnOk P w K mg base CX0 true 1 a.f_law_name_by a.d_law_name_by ["_law_k", "_law_cell"] (sp_law_name_by) := by
 refine T.F_law_name_by.ok sc_law_name_by (fun vs H Q E h => ?_) (fun cdv A outer s H vs Q E hr h => ?_)
 · obtain ⟨n, c, rfl, _⟩ := h; rfl
 ·
  obtain ⟨n, c, rfl, hn, k⟩ := h
  refine ⟨_, (pss_cons (ps_set (i := 2) sc_law_name_by.nd rfl (Or.inl rfl) (pe_ix ix_str pe_str (pe_op op_mod (pv 0) pe_int) (fun _ _ => rfl)))
   (pss_cons (ps_set (i := 3) sc_law_name_by.nd rfl (Or.inl rfl) (pe_ix ix_str pe_str (pe_op op_mod (pe_op op_fdiv (pv 0) pe_int) pe_int) (fun _ _ => rfl)))
   (pss_cons (ps_if (pt_cmpR op_eq (pe_op op_mod (pv 1) pe_int) pe_int (nomark _)) (pss_one (ps_ret (pe_op op_add_str (pe_op op_add_str (pe_ix (ix_listK (K := K) rfl) (pe_lst (pa_lits [.str "t", .str "ab", .str "x9a"] (by decide +kernel))) (pe_op op_mod (pe_op op_fdiv (pv 1) pe_int) pe_int) (fun _ _ => rfl)) (pv 2)) (pv 3)))) pss_nil)
   (pss_cons (ps_set (i := 4) sc_law_name_by.nd rfl (Or.inl rfl) (pe_op op_mod (pe_op op_fdiv (pv 1) pe_int) pe_int))
   (pss_one (ps_ret (pe_op op_add_str (pe_op op_add_str (pe_op op_add_str (pe_op op_mul_str pe_str (pv 4)) (pv 2)) (pv 3)) (pe_op op_mul_str pe_str (pe_op op_sub pe_int (pv 4)))))))))), ?_⟩
  have e0 : atI (Str.ofString "bcdefghijklmnopqrstuvwxy").cps.toList ((n : Int) % 24) = some (98 + n) := by
   rw [show ((n : Int) % 24) = ((n : Nat) : Int) by omega]
   exact atI_nat (s24 ⟨n, hn⟩)
  refine ⟨_, rfl, _, _, rfl, rfl, (by show (0 : Int) < 24; decide), _, _, _, rfl, rfl, by decide +kernel, e0, ?_⟩
  have e1 : atI (Str.ofString "a0z").cps.toList ((n : Int) / 24 % 3) = some 97 := by
   rw [show ((n : Int) / 24 % 3) = 0 by omega]
   decide +kernel
  refine ⟨_, rfl, _, _, rfl, rfl, ⟨by decide, by decide⟩, _, _, rfl, rfl, (by show (0 : Int) < 3; decide), _, _, _, rfl, rfl, by decide +kernel, e1, ?_⟩
  refine ⟨_, rfl, _, _, rfl, rfl, (by show (0 : Int) < 2; decide), rfl, _, rfl, ?_⟩
  rw [vint]
  by_cases hc : c % 2 = 1
  ·
   rw [decide_eq_true hc]
   refine iteT ?_
   have a0 : 0 ≤ c / 2 % 3 := Int.emod_nonneg _ (by decide)
   have a1 : c / 2 % 3 < 3 := Int.emod_lt_of_pos _ (by decide)
   refine ⟨(by show 3 ≤ sizeLine; decide), fun l hl => ⟨_, rfl, _, _, rfl, rfl, ⟨by decide, by decide⟩, _, _, rfl, rfl, (by show (0 : Int) < 3; decide), l, _, _, _, rfl, rfl, SqL.of upd_same, t3_at a0 a1, _, rfl, _, _, rfl, rfl, sz2 3 1 (t3_len _) (one1 _), _, rfl, _, _, rfl, rfl, sz2 4 1 (ap2 3 1 (t3_len _) (one1 _)) (one1 _), ?_⟩⟩
   have q := k _ (same_upd (o := .lst [.str "t", .str "ab", .str "x9a"]) hl)
   unfold nmT at q
   rw [if_pos hc] at q
   exact q
  ·
   rw [decide_eq_false hc]
   refine iteF ?_
   have a0 : 0 ≤ c / 2 % 7 := Int.emod_nonneg _ (by decide)
   have a1 : c / 2 % 7 < 7 := Int.emod_lt_of_pos _ (by decide)
   have m1 := mul7 (i := c / 2 % 7) a0 (by omega)
   have m2 := mul7 (i := 6 - c / 2 % 7) (by omega) (by omega)
   refine ⟨_, rfl, _, _, rfl, rfl, ⟨by decide, by decide⟩, _, _, rfl, rfl, (by show (0 : Int) < 7; decide), ?_⟩
   refine ⟨_, rfl, _, _, rfl, rfl, m1.1, _, rfl, _, _, rfl, rfl, sz2 6 1 m1.2 (one1 _), _, rfl, _, _, rfl, rfl, sz2 7 1 (ap2 6 1 m1.2 (one1 _)) (one1 _), _, rfl, _, _, rfl, rfl, _, _, rfl, rfl, m2.1, _, _, rfl, rfl, sz2 8 6 (ap2 7 1 (ap2 6 1 m1.2 (one1 _)) (one1 _)) m2.2, ?_⟩
   have q := k H (Same.refl _)
   unfold nmT at q
   rw [if_neg hc] at q
   exact q
theorem sc_law_key : FnScope ["_law_seed", "_law_names", "_law_asker", "_law_number", "_law_turn", "_law_key_here"] ["_law_seed", "_law_names", "_law_asker", "_law_number", "_law_turn"] (defScope s_law_key) := ⟨rfl, rfl, rfl, by decide +kernel, rfl, by decide +kernel, by decide +kernel⟩
theorem ok_law_key (T : Txt K mg a) : FnOk P w K mg base CX0 true 1 a.f_law_key a.d_law_key ["_law_seed", "_law_names", "_law_asker", "_law_number", "_law_turn"] (sp_law_key) := by
 refine T.F_law_key.ok sc_law_key (fun vs H Q E h => ?_) (fun cdv A outer s H vs Q E hr h => ?_)
 · obtain ⟨L, ns, a, s, n, t, rfl, _⟩ := h; rfl
 ·
  obtain ⟨L, ns, a0, sd, n, t, rfl, hL, hN, ha, k⟩ := h
  refine ⟨_, (pss_cons (ps_set (i := 5) sc_law_key.nd rfl (Or.inl rfl) (pe_op op_add (pv 0) (pe_op op_mul pe_int (pe_bm PySem.F.plainAttrs_list PySem.F.slot_list_index PySem.F.type_list_index mt_indexF (pv 1) (pa_cons (pv 2) pa_nil)))))
   (pss_one (ps_ret (pe_op op_add (pe_op op_add (pv 5) (pe_op op_mul pe_int (pe_op op_mod (pv 3) pe_int))) (pe_op op_mul pe_int (pe_op op_mod (pv 4) pe_int)))))), ?_⟩
  refine ⟨_, rfl, _, rfl, .inl ⟨rfl, _, SqL.of hL⟩, _, rfl, L, ns, a0, rfl, rfl, SqL.of hL, ha, ⟨_, _, rfl, rfl, .inl ⟨by decide, by decide⟩, _, _, rfl, rfl, ?_⟩⟩
  exact ⟨_, rfl, _, rfl, _, _, rfl, rfl, (by show (0 : Int) < 100003; decide), _, _, rfl, rfl, .inl ⟨by decide, by decide⟩, _, _, rfl, rfl, _, rfl, _, _, rfl, rfl, (by show (0 : Int) < 100019; decide), _, _, rfl, rfl, .inl ⟨by decide, by decide⟩, _, _, rfl, rfl, k _ rfl⟩
theorem sc_law_meeting_by : FnScope ["_law_letters", "_law_asker", "_law_number", "_law_bids", "_law_turn", "_law_latest", "_law_words", "_law_hand", "_law_said", "_law_yes", "_law_no", "_law_silent", "_law_closes", "_law_late"] ["_law_letters", "_law_asker", "_law_number"] (defScope s_law_meeting_by) := ⟨rfl, rfl, rfl, by decide +kernel, rfl, by decide +kernel, by decide +kernel⟩
theorem ok_law_meeting_by (T : Txt K mg a) : FnOk P w K mg base CX0 true 1 a.f_law_meeting_by a.d_law_meeting_by ["_law_letters", "_law_asker", "_law_number"] (sp_law_meeting_by) := by
 refine T.F_law_meeting_by.ok sc_law_meeting_by (fun vs H Q E h => ?_) (fun cdv A outer s H vs Q E hr h => ?_)
 · obtain ⟨L, ms, a0, n, rfl, _⟩ := h; rfl
 ·
  obtain ⟨L, ms, a0, n, rfl, hL, hz, h64, k⟩ := h
  refine ⟨_, (pss_cons (ps_setComp (i0 := 3) sc_law_meeting_by.nd rfl rfl (N := ["_law_one", "_law_asker", "_law_number"]) (cap := [none, some 1, some 2]) (by show CompScope (defScope s_law_meeting_by) _ ["_law_letters", "_law_asker", "_law_number", "_law_bids", "_law_turn", "_law_latest", "_law_words", "_law_hand", "_law_said", "_law_yes", "_law_no", "_law_silent", "_law_closes", "_law_late"] _ _; exact ⟨rfl, by decide +kernel, by decide +kernel, by decide +kernel, by decide +kernel, rfl, by decide +kernel⟩) rfl (pi_listK (K := K) rfl (pv 0)) (fun C s H fp => ⟨(pg_name (i := 0) (by show (["_law_one", "_law_asker", "_law_number"] : List Str).Nodup; decide +kernel) rfl (Or.inl rfl) (.inr rfl)), (pf_one (PW.pt (pw_and (pt_cmpR (op_in_seqK (K := K) rfl) (pe_ix (ix_tupK (K := K) rfl) (pv 0) pe_int (fun _ _ => rfl)) (pe_lst (pa_lits [.str "bid", .str "off"] (by decide +kernel))) (by with_unfolding_all rfl)) (pw_and (pt_cmpR op_eq (pe_ix (ix_tupK (K := K) rfl) (pv 0) pe_int (fun _ _ => rfl)) (pv 1) (nomark _)) (pw_and1 (pt_cmpR op_eq (pe_ix (ix_tupK (K := K) rfl) (pv 0) pe_int (fun _ _ => rfl)) (pv 2) (nomark _))))))), (pv 0)⟩))
   (pss_cons (ps_if (pt_cmpR op_eq (pe_callB (call_len_seqK (K := K) rfl) rfl T.n_len (by decide +kernel) (pa_cons (pv 3) pa_nil)) pe_int (nomark _)) (pss_one (ps_ret pe_non)) pss_nil)
   (pss_cons (ps_set (i := 4) sc_law_meeting_by.nd rfl (Or.inr rfl) (pe_callB (call_maxL rfl) rfl T.n_max (by decide +kernel) (pa_cons (pe_comp (N := ["_law_one"]) (cap := [none]) (by show CompScope (defScope s_law_meeting_by) _ ["_law_letters", "_law_asker", "_law_number", "_law_bids", "_law_turn", "_law_latest", "_law_words", "_law_hand", "_law_said", "_law_yes", "_law_no", "_law_silent", "_law_closes", "_law_late"] _ _; exact ⟨rfl, by decide +kernel, by decide +kernel, by decide +kernel, by decide +kernel, rfl, by decide +kernel⟩) rfl (pi_listK (K := K) rfl (pv 3)) (fun C s H fp => ⟨(pg_name (i := 0) (by show (["_law_one"] : List Str).Nodup; decide +kernel) rfl (Or.inl rfl) (.inr rfl)), pf_none, (pe_ix (ix_tupK (K := K) rfl) (pv 0) pe_int (fun _ _ => rfl))⟩)) pa_nil)))
   (pss_cons (ps_set (i := 5) sc_law_meeting_by.nd rfl (Or.inl rfl) (pe_ix (ix_listK (K := K) rfl) (pe_comp (N := ["_law_one", "_law_turn"]) (cap := [none, some 4]) (by show CompScope (defScope s_law_meeting_by) _ ["_law_letters", "_law_asker", "_law_number", "_law_bids", "_law_turn", "_law_latest", "_law_words", "_law_hand", "_law_said", "_law_yes", "_law_no", "_law_silent", "_law_closes", "_law_late"] _ _; exact ⟨rfl, by decide +kernel, by decide +kernel, by decide +kernel, by decide +kernel, rfl, by decide +kernel⟩) rfl (pi_listK (K := K) rfl (pv 3)) (fun C s H fp => ⟨(pg_name (i := 0) (by show (["_law_one", "_law_turn"] : List Str).Nodup; decide +kernel) rfl (Or.inl rfl) (.inr rfl)), (pf_one (pt_cmpR op_eq (pe_ix (ix_tupK (K := K) rfl) (pv 0) pe_int (fun _ _ => rfl)) (pv 1) (nomark _))), (pv 0)⟩)) pe_int (fun _ _ => rfl)))
   (pss_cons (ps_if (pt_cmpR op_eq (pe_ix (ix_tupK (K := K) rfl) (pv 5) pe_int (fun _ _ => rfl)) pe_str (nomark _)) (pss_one (ps_ret (pe_tup (pa_cons (pv 1) (pa_cons (pv 2) (pa_cons (pv 4) (pa_cons pe_str (pa_cons pe_non (pa_cons pe_non (pa_cons (pe_tup pa_nil) (pa_cons (pe_tup pa_nil) (pa_cons (pe_tup pa_nil) (pa_cons (pe_tup pa_nil) (pa_cons (pe_tup pa_nil) pa_nil)))))))))))))) pss_nil)
   (pss_cons (ps_set (i := 6) sc_law_meeting_by.nd rfl (Or.inr rfl) pe_dnewK)
   (pss_cons (ps_for PassesOwn.never rfl (pi_tupK (K := K) rfl (pe_ix (ix_tupK (K := K) rfl) (pv 5) pe_int (fun _ _ => rfl))) (pg_name (i := 7) sc_law_meeting_by.nd rfl (Or.inr rfl)) (pss_cons (ps_setComp (i0 := 8) sc_law_meeting_by.nd rfl rfl (N := ["_law_one", "_law_asker", "_law_number", "_law_turn", "_law_hand"]) (cap := [none, some 1, some 2, some 4, some 7]) (by show CompScope (defScope s_law_meeting_by) _ ["_law_letters", "_law_asker", "_law_number", "_law_bids", "_law_turn", "_law_latest", "_law_words", "_law_hand", "_law_said", "_law_yes", "_law_no", "_law_silent", "_law_closes", "_law_late"] _ _; exact ⟨rfl, by decide +kernel, by decide +kernel, by decide +kernel, by decide +kernel, rfl, by decide +kernel⟩) rfl (pi_listK (K := K) rfl (pv 0)) (fun C s H fp => ⟨(pg_name (i := 0) (by show (["_law_one", "_law_asker", "_law_number", "_law_turn", "_law_hand"] : List Str).Nodup; decide +kernel) rfl (Or.inl rfl) (.inr rfl)), (pf_one (PW.pt (pw_and (pt_cmpR op_eq (pe_ix (ix_tupK (K := K) rfl) (pv 0) pe_int (fun _ _ => rfl)) pe_str (nomark _)) (pw_and1 (pt_cmpR (op_eqN (hu2 hr)) (pe_slice sl_tupA (pv 0) (po_some pe_int) (po_some pe_int)) (pe_tup (pa_cons (pv 1) (pa_cons (pv 2) (pa_cons (pv 3) (pa_cons (pv 4) pa_nil))))) (nomark _)))))), (pe_slice sl_tupA (pv 0) (po_some pe_int) po_none)⟩))
   (pss_one (ps_if (pt_cmpR op_gt (pe_callB (call_len_seqK (K := K) rfl) rfl T.n_len (by decide +kernel) (pa_cons (pv 8) pa_nil)) pe_int (nomark _)) (pss_one (ps_dput (hu_of hr) (pv 6) (pv 7) (pe_ix (ix_tupK (K := K) rfl) (pe_ix (ix_listK (K := K) rfl) (pe_callB (call_sortedN (hu2 hr)) rfl T.n_sorted (by decide +kernel) (pa_cons (pv 8) pa_nil)) (pe_un un_neg pe_int) (fun _ _ => rfl)) pe_int (fun _ _ => rfl)) rfl)) pss_nil))))
   (pss_cons (ps_set (i := 9) sc_law_meeting_by.nd rfl (Or.inl rfl) (pe_callTy (call_tuple_ofK (K := K) rfl) rfl T.n_tuple (by decide +kernel) (pa_cons (pe_comp (N := ["_law_hand", "_law_words"]) (cap := [none, some 6]) (by show CompScope (defScope s_law_meeting_by) _ ["_law_letters", "_law_asker", "_law_number", "_law_bids", "_law_turn", "_law_latest", "_law_words", "_law_hand", "_law_said", "_law_yes", "_law_no", "_law_silent", "_law_closes", "_law_late"] _ _; exact ⟨rfl, by decide +kernel, by decide +kernel, by decide +kernel, by decide +kernel, rfl, by decide +kernel⟩) rfl (pi_tupK (K := K) rfl (pe_ix (ix_tupK (K := K) rfl) (pv 5) pe_int (fun _ _ => rfl))) (fun C s H fp => ⟨(pg_name (i := 0) (by show (["_law_hand", "_law_words"] : List Str).Nodup; decide +kernel) rfl (Or.inl rfl) (.inr rfl)), (pf_one (pt_cmpR op_eq (pe_dget2 (hu_of hr) (pv 1) (pv 0) pe_str ⟨rfl, rfl, rfl, rfl⟩) pe_str (nomark _))), (pv 0)⟩)) pa_nil)))
   (pss_cons (ps_set (i := 10) sc_law_meeting_by.nd rfl (Or.inl rfl) (pe_callTy (call_tuple_ofK (K := K) rfl) rfl T.n_tuple (by decide +kernel) (pa_cons (pe_comp (N := ["_law_hand", "_law_words"]) (cap := [none, some 6]) (by show CompScope (defScope s_law_meeting_by) _ ["_law_letters", "_law_asker", "_law_number", "_law_bids", "_law_turn", "_law_latest", "_law_words", "_law_hand", "_law_said", "_law_yes", "_law_no", "_law_silent", "_law_closes", "_law_late"] _ _; exact ⟨rfl, by decide +kernel, by decide +kernel, by decide +kernel, by decide +kernel, rfl, by decide +kernel⟩) rfl (pi_tupK (K := K) rfl (pe_ix (ix_tupK (K := K) rfl) (pv 5) pe_int (fun _ _ => rfl))) (fun C s H fp => ⟨(pg_name (i := 0) (by show (["_law_hand", "_law_words"] : List Str).Nodup; decide +kernel) rfl (Or.inl rfl) (.inr rfl)), (pf_one (pt_cmpR op_eq (pe_dget2 (hu_of hr) (pv 1) (pv 0) pe_str ⟨rfl, rfl, rfl, rfl⟩) pe_str (nomark _))), (pv 0)⟩)) pa_nil)))
   (pss_cons (ps_set (i := 11) sc_law_meeting_by.nd rfl (Or.inl rfl) (pe_callTy (call_tuple_ofK (K := K) rfl) rfl T.n_tuple (by decide +kernel) (pa_cons (pe_comp (N := ["_law_hand", "_law_words"]) (cap := [none, some 6]) (by show CompScope (defScope s_law_meeting_by) _ ["_law_letters", "_law_asker", "_law_number", "_law_bids", "_law_turn", "_law_latest", "_law_words", "_law_hand", "_law_said", "_law_yes", "_law_no", "_law_silent", "_law_closes", "_law_late"] _ _; exact ⟨rfl, by decide +kernel, by decide +kernel, by decide +kernel, by decide +kernel, rfl, by decide +kernel⟩) rfl (pi_tupK (K := K) rfl (pe_ix (ix_tupK (K := K) rfl) (pv 5) pe_int (fun _ _ => rfl))) (fun C s H fp => ⟨(pg_name (i := 0) (by show (["_law_hand", "_law_words"] : List Str).Nodup; decide +kernel) rfl (Or.inl rfl) (.inr rfl)), (pf_one (pt_cmp (pc_dnotin (hu_of hr) (pv 0) (pv 1)) (by with_unfolding_all rfl))), (pv 0)⟩)) pa_nil)))
   (pss_cons (ps_set (i := 12) sc_law_meeting_by.nd rfl (Or.inr rfl) (pe_comp (N := ["_law_one", "_law_asker", "_law_number", "_law_turn"]) (cap := [none, some 1, some 2, some 4]) (by show CompScope (defScope s_law_meeting_by) _ ["_law_letters", "_law_asker", "_law_number", "_law_bids", "_law_turn", "_law_latest", "_law_words", "_law_hand", "_law_said", "_law_yes", "_law_no", "_law_silent", "_law_closes", "_law_late"] _ _; exact ⟨rfl, by decide +kernel, by decide +kernel, by decide +kernel, by decide +kernel, rfl, by decide +kernel⟩) rfl (pi_listK (K := K) rfl (pv 0)) (fun C s H fp => ⟨(pg_name (i := 0) (by show (["_law_one", "_law_asker", "_law_number", "_law_turn"] : List Str).Nodup; decide +kernel) rfl (Or.inl rfl) (.inr rfl)), (pf_one (PW.pt (pw_and (pt_cmpR op_eq (pe_ix (ix_tupK (K := K) rfl) (pv 0) pe_int (fun _ _ => rfl)) pe_str (nomark _)) (pw_and1 (pt_cmpR (op_eqN (hu2 hr)) (pe_slice sl_tupA (pv 0) (po_some pe_int) (po_some pe_int)) (pe_tup (pa_cons (pv 1) (pa_cons (pv 2) (pa_cons (pv 3) pa_nil)))) (nomark _)))))), (pe_ix (ix_tupK (K := K) rfl) (pv 0) pe_int (fun _ _ => rfl))⟩)))
   (pss_cons (ps_if (pt_cmpR op_eq (pe_callB (call_len_seqK (K := K) rfl) rfl T.n_len (by decide +kernel) (pa_cons (pv 12) pa_nil)) pe_int (nomark _)) (pss_one (ps_ret (pe_tup (pa_cons (pv 1) (pa_cons (pv 2) (pa_cons (pv 4) (pa_cons pe_str (pa_cons (pe_ix (ix_tupK (K := K) rfl) (pv 5) pe_int (fun _ _ => rfl)) (pa_cons (pe_ix (ix_tupK (K := K) rfl) (pv 5) pe_int (fun _ _ => rfl)) (pa_cons (pv 9) (pa_cons (pv 10) (pa_cons (pv 11) (pa_cons (pe_tup pa_nil) (pa_cons (pe_tup pa_nil) pa_nil)))))))))))))) pss_nil)
   (pss_cons (ps_set (i := 13) sc_law_meeting_by.nd rfl (Or.inl rfl) (pe_callTy (call_tuple_ofK (K := K) rfl) rfl T.n_tuple (by decide +kernel) (pa_cons (pe_comp (N := ["_law_hand", "_law_closes"]) (cap := [none, some 12]) (by show CompScope (defScope s_law_meeting_by) _ ["_law_letters", "_law_asker", "_law_number", "_law_bids", "_law_turn", "_law_latest", "_law_words", "_law_hand", "_law_said", "_law_yes", "_law_no", "_law_silent", "_law_closes", "_law_late"] _ _; exact ⟨rfl, by decide +kernel, by decide +kernel, by decide +kernel, by decide +kernel, rfl, by decide +kernel⟩) rfl (pi_tupK (K := K) rfl (pv 9)) (fun C s H fp => ⟨(pg_name (i := 0) (by show (["_law_hand", "_law_closes"] : List Str).Nodup; decide +kernel) rfl (Or.inl rfl) (.inr rfl)), (pf_one (pt_cmpR (op_notIn_seqK (K := K) rfl) (pv 0) (pe_ix (ix_listK (K := K) rfl) (pv 1) pe_int (fun _ _ => rfl)) (by with_unfolding_all rfl))), (pv 0)⟩)) pa_nil)))
   (pss_one (ps_ret (pe_tup (pa_cons (pv 1) (pa_cons (pv 2) (pa_cons (pv 4) (pa_cons pe_str (pa_cons (pe_ix (ix_tupK (K := K) rfl) (pv 5) pe_int (fun _ _ => rfl)) (pa_cons (pe_ix (ix_tupK (K := K) rfl) (pv 5) pe_int (fun _ _ => rfl)) (pa_cons (pv 9) (pa_cons (pv 10) (pa_cons (pv 11) (pa_cons (pe_ix (ix_listK (K := K) rfl) (pv 12) pe_int (fun _ _ => rfl)) (pa_cons (pv 13) pa_nil))))))))))))))))))))))))))), ?_⟩
  refine ⟨_, rfl, L, rfl, ⟨_, SqL.of hL.at_⟩, ?_⟩
  refine comp_pure (seq_list (K := K) (SqL.of hL.at_)) (lqF (bnP a0 n) ms) (fun v => v) (by rw [List.length_map]; omega) ?_ (fun x _ _ H' _ R hR => ⟨_, rfl, hR H' (Same.refl _)⟩) (fun D H1 s1 hD0 hD => ?_)
  ·
   intro x hx H' sm R hR
   obtain ⟨m, hm, rfl⟩ := List.mem_map.mp hx
   rw [lqF_at hL.ok hm] at hR
   obtain ⟨zs, hp, hv⟩ := (hL.ok m hm).up sm
   obtain ⟨r, rfl⟩ := hv.four
   refine ⟨_, rfl, m.2, _, _, _, rfl, rfl, SqT.of hp, at_0, (by show 2 ≤ sizeLine; decide), fun l hl => ?_⟩
   have ul := same_upd (o := .lst [.str "bid", .str "off"]) hl
   refine ⟨l, _, rfl, .inl (SqL.of upd_same), rfl, flat_strs ["bid", "off"], _, rfl, ?_⟩
   show (if inV (.str m.1.kind) ((["bid", "off"] : List Str).map V.str) = true then _ else _)
   rw [bo_in]
   have q := hR _ ul
   refine ite2 (fun z => ?_) (fun z => ?_)
   ·
    refine ⟨_, rfl, m.2, _, _, _, rfl, rfl, SqT.of (ul _ _ hp), at_1, _, rfl, rfl, _, rfl, ?_⟩
    rw [str_dec]
    refine ite2 (fun z1 => ?_) (fun z1 => ?_)
    ·
     refine ⟨_, rfl, m.2, _, _, _, rfl, rfl, SqT.of (ul _ _ hp), at_2, _, rfl, rfl, _, rfl, ?_⟩
     rw [vint]
     rw [show bnP a0 n m.1 = decide (m.1.number = n) from by unfold bnP; rw [z, z1]; rfl] at q
     exact q
    ·
     rw [show bnP a0 n m.1 = false from by unfold bnP; rw [Bool.eq_false_iff.mpr z1, Bool.false_and, Bool.and_false]] at q
     exact q
   ·
    rw [show bnP a0 n m.1 = false from by unfold bnP; rw [Bool.eq_false_iff.mpr z, Bool.false_and]] at q
    exact q
  rw [fil_refs' hL.ok (fun x hx => hx)] at hD
  have hb : ∀ x ∈ ms.filter fun x => bnP a0 n x.1, x ∈ ms ∧ bnP a0 n x.1 = true := fun x hx => List.mem_filter.mp hx
  have hA : ∀ x, inK ms (a0, n) x → x.bo = true → ∃ y ∈ ms.filter fun x => bnP a0 n x.1, y.1 = x := fun x hx bx => by
   obtain ⟨y, hy, rfl⟩ := List.mem_map.mp hx.1
   have e1 : y.1.asker = a0 := congrArg Prod.fst hx.2
   have e2 : y.1.number = n := congrArg Prod.snd hx.2
   exact ⟨y, List.mem_filter.mpr ⟨hy, by unfold bnP; rw [bx, decide_eq_true e1, decide_eq_true e2]; rfl⟩, rfl⟩
  have hbl : (ms.filter fun x => bnP a0 n x.1).length < 64 := Nat.lt_of_le_of_lt (List.length_filter_le _ _) h64
  generalize (ms.filter fun x => bnP a0 n x.1) = bl at hD hb hA hbl
  refine ⟨_, rfl, D, _, rfl, .inl (SqL.of hD), rfl, _, rfl, ?_⟩
  rw [List.length_map, vint]
  refine ite2 (fun z => ?_) (fun z => ?_)
  ·
   have e0 : bl = [] := List.length_eq_zero_iff.mp (by have := of_decide_eq_true z; omega)
   refine k _ H1 s1 (.inl ⟨rfl, fun x hx => ?_⟩)
   cases bx : x.bo with
   | false => rfl
   | true => obtain ⟨y, hy, _⟩ := hA x hx bx; rw [e0] at hy; cases hy
  have hpos : 0 < bl.length := by
   rcases Nat.eq_zero_or_pos bl.length with e | e
   · exact absurd (decide_eq_true (by omega)) z
   · exact e
  have hL1 := hL.up s1
  refine ⟨_, rfl, D, rfl, ⟨_, SqL.of hD⟩, ?_⟩
  refine comp_pure (seq_list (K := K) (SqL.of hD)) (fun _ => true) (fun v => .int (codeOf ms v).1) (by rw [List.length_map]; omega) (fun x _ H' _ R hR => hR H' (Same.refl _)) ?_ (fun D2 H2 s2 hD20 hD2 => ?_)
  ·
   intro x hx _ H' sm R hR
   obtain ⟨m, hm, rfl⟩ := List.mem_map.mp hx
   obtain ⟨zs, hp, hv⟩ := (hL1.ok m (hb m hm).1).up sm
   obtain ⟨r, rfl⟩ := hv.four
   have q := hR H' (Same.refl _)
   rw [code_is hL.ok (hb m hm).1] at q
   exact ⟨_, rfl, m.2, _, _, _, rfl, rfl, SqT.of hp, at_3, q⟩
  rw [List.filter_eq_self.mpr (fun _ _ => rfl), show ((bl.map fun x => V.ref x.2).map fun v => V.int (codeOf ms v).1) = (bl.map fun x => x.1.turn).map V.int from by
   rw [List.map_map, List.map_map]
   refine List.map_congr_left fun x hx => ?_
   show V.int (codeOf ms (.ref x.2)).1 = _
   rw [code_is hL.ok (hb x hx).1]
   rfl] at hD2
  refine ⟨D2, _, rfl, hD2, by rw [List.length_map]; exact hpos, fun M hM hmax => ?_⟩
  have hL2 := hL1.up s2
  replace hD := s2 _ _ hD
  refine ⟨_, rfl, D, rfl, ⟨_, SqL.of hD⟩, ?_⟩
  refine comp_pure (seq_list (K := K) (SqL.of hD)) (lqF (fun x => decide (x.turn = M)) ms) (fun v => v) (by rw [List.length_map]; omega) ?_ (fun x _ _ H' _ R hR => ⟨_, rfl, hR H' (Same.refl _)⟩) (fun D3 H3 s3 hD30 hD3 => ?_)
  ·
   intro x hx H' sm R hR
   obtain ⟨m, hm, rfl⟩ := List.mem_map.mp hx
   obtain ⟨zs, hp, hv⟩ := (hL2.ok m (hb m hm).1).up sm
   obtain ⟨r, rfl⟩ := hv.four
   have q := hR H' (Same.refl _)
   rw [lqF_at hL.ok (hb m hm).1] at q
   refine ⟨_, rfl, m.2, _, _, _, rfl, rfl, SqT.of hp, at_3, _, rfl, rfl, _, rfl, ?_⟩
   rw [vint]
   exact q
  rw [fil_refs' hL.ok (fun x hx => (hb x hx).1)] at hD3
  have h3 : ∃ x0 r, (bl.filter fun x => decide (x.1.turn = M)) = x0 :: r := by
   obtain ⟨x, hx, e⟩ := List.mem_map.mp hM
   cases e2 : bl.filter fun x => decide (x.1.turn = M) with
   | nil => exact absurd (decide_eq_true e) (List.filter_eq_nil_iff.mp e2 x hx)
   | cons x0 r => exact ⟨x0, r, rfl⟩
  obtain ⟨x0, r0, e3⟩ := h3
  have hx0 := List.mem_filter.mp (show x0 ∈ bl.filter fun x => decide (x.1.turn = M) by rw [e3]; exact List.mem_cons_self ..)
  rw [e3] at hD3
  have hx1 := hb x0 hx0.1
  have tM : x0.1.turn = M := of_decide_eq_true hx0.2
  have bP := hx1.2
  unfold bnP at bP
  rw [Bool.and_eq_true, Bool.and_eq_true, decide_eq_true_eq, decide_eq_true_eq] at bP
  have hlast : IsLast (inK ms (a0, n)) x0.1 := ⟨⟨List.mem_map_of_mem hx1.1, Prod.ext bP.2.1 bP.2.2⟩, bP.1, fun y hy by_ => by
   obtain ⟨u, hu, rfl⟩ := hA y hy by_
   rw [tM]
   exact hmax _ (List.mem_map_of_mem (f := fun x : Lt × Addr => x.1.turn) hu)⟩
  refine ⟨D3, _, 0, _, rfl, rfl, SqL.of hD3, at_0, ?_⟩
  have S3 := (s1.trans s2).trans s3
  have hL3 := hL2.up s3
  clear hD3 e3 hx0 hmax hM hD2 hD20 hD30 hD0 hpos z hD hL1 hL2 hA hbl
  obtain ⟨lt, p0⟩ := x0
  have hlt := hL3.ok _ hx1.1
  have z0 : (0 : Nat) ≤ sizeLine := Nat.zero_le _
  cases lt with
  | close => exact absurd hlast.2.1 Bool.false_ne_true
  | ans => exact absurd hlast.2.1 Bool.false_ne_true
  |
   off a1 n1 t1 =>
   obtain ⟨zs, hp, rfl⟩ := hlt
   obtain rfl : a1 = a0 := bP.2.1
   obtain rfl : n1 = n := bP.2.2
   obtain rfl : t1 = M := tM
   refine ⟨_, rfl, p0, _, _, _, rfl, rfl, SqT.of hp, at_0, rfl, _, rfl, ite2 (fun _ => ?_) (fun z => absurd (decide_eq_true rfl) z)⟩
   refine ⟨_, rfl, _, rfl, _, rfl, z0, fun e1 h1 => ⟨z0, fun e2 h2 => ⟨z0, fun e3 h3 => ⟨z0, fun e4 h4 => ⟨z0, fun e5 h5 => ⟨(by show 11 ≤ sizeLine; decide), fun q hq => ?_⟩⟩⟩⟩⟩⟩
   have u1 := same_upd (o := .tup []) h1
   have u2 := same_upd (o := .tup []) h2
   have u3 := same_upd (o := .tup []) h3
   have u4 := same_upd (o := .tup []) h4
   have u5 := same_upd (o := .tup []) h5
   have u6 := same_upd (o := .tup [.str a1, .int n1, .int t1, .str "off", .non, .non, .ref e1, .ref e2, .ref e3, .ref e4, .ref e5]) hq
   exact k _ _ (((((S3.trans u1).trans u2).trans u3).trans u4).trans (u5.trans u6)) (.inr ⟨q, ⟨a1, n1, t1, "off", none, [], [], [], [], []⟩, rfl, ⟨⟨e1, e2, e3, e4, e5, upd_same, u6 _ _ (u5 _ _ (u4 _ _ (u3 _ _ (u2 _ _ upd_same)))), u6 _ _ (u5 _ _ (u4 _ _ (u3 _ _ upd_same))), u6 _ _ (u5 _ _ (u4 _ _ upd_same)), u6 _ _ (u5 _ _ upd_same), u6 _ _ upd_same⟩, Nat.zero_le _, Nat.zero_le _, Nat.zero_le _, Nat.zero_le _, Nat.zero_le _⟩, _, hlast, rfl⟩)
  | bid a1 n1 t1 b e hs =>
  obtain ⟨zs, hp, q0, rfl, hq⟩ := hlt
  obtain rfl : a1 = a0 := bP.2.1
  obtain rfl : n1 = n := bP.2.2
  obtain rfl : t1 = M := tM
  have hhs : hs.length ≤ 1000 := (hz _ hx1.1).2.1
  refine ⟨_, rfl, p0, _, _, _, rfl, rfl, SqT.of hp, at_0, rfl, _, rfl, ite2 (fun z => absurd z (by decide)) (fun _ => ?_)⟩
  refine fun W hW => ?_
  have uW := same_upd (o := .dK []) hW
  refine ⟨_, rfl, p0, _, _, _, rfl, rfl, SqT.of (uW _ _ hp), atI_nat (j := 6) rfl, q0, rfl, ⟨_, SqT.of (uW _ _ hq)⟩, ?_⟩
  clear bP
  refine for_seq (H0 := H3) (seq_tup (SqT.of hq)) (fun i σ H' => Same H3 H' ∧ ∃ (kvs : List (Key × V)) (y7 y8 : Option V), H' W = some (.dK kvs) ∧ WdOk (inK ms (a1, n1)) t1 hs i kvs ∧ kvs.length ≤ i ∧ σ = [some (.ref L), some (.str a1), some (.int n1), some (.ref D), some (.int t1), some (.ref p0), some (.ref W), y7, y8, none, none, none, none, none]) ⟨uW, [], _, _, upd_same, (fun x => .inl ⟨rfl, fun z => nomatch z⟩), Nat.le_refl _, rfl⟩ (fun _ _ _ _ h => h.1) ?_ ?_
  ·
   rintro i v σ H4 hv ⟨s4, kvs, y7, y8, hW4, hO, hl4, rfl⟩
   rw [List.getElem?_map] at hv
   obtain ⟨h0, hi0, rfl⟩ := Option.map_eq_some_iff.mp hv
   have hi : i < 1000 := by have := (List.getElem?_eq_some_iff.mp hi0).1; omega
   have hL4 := hL3.up s4
   refine ⟨_, rfl, L, rfl, ⟨_, SqL.of hL4.at_⟩, ?_⟩
   refine comp_rel (seq_list (K := K) (SqL.of hL4.at_)) (lqF (anP a1 n1 t1 h0) ms) (RlA ms) (fun _ _ _ _ tp ⟨q, e1, e2⟩ => ⟨q, e1, tp _ _ e2⟩) (by rw [List.length_map]; omega) ?_ ?_ (fun D5 H5 ys s5 hD50 hD5 hP => ?_)
   ·
    intro x hx H' sm R hR
    obtain ⟨m, hm, rfl⟩ := List.mem_map.mp hx
    rw [lqF_at hL.ok hm] at hR
    obtain ⟨lt, pm⟩ := m
    obtain ⟨zs, hpm, hv⟩ := (hL4.ok _ hm).up sm
    cases lt with
    | bid => obtain ⟨_, rfl, _⟩ := hv; exact ⟨_, rfl, pm, _, _, _, rfl, rfl, SqT.of hpm, at_0, rfl, _, rfl, ite2 (fun z => absurd z (by decide)) (fun _ => hR H' (Same.refl _))⟩
    | off => cases hv; exact ⟨_, rfl, pm, _, _, _, rfl, rfl, SqT.of hpm, at_0, rfl, _, rfl, ite2 (fun z => absurd z (by decide)) (fun _ => hR H' (Same.refl _))⟩
    | close => obtain ⟨_, rfl, _⟩ := hv; exact ⟨_, rfl, pm, _, _, _, rfl, rfl, SqT.of hpm, at_0, rfl, _, rfl, ite2 (fun z => absurd z (by decide)) (fun _ => hR H' (Same.refl _))⟩
    | ans a' n' t' h' g w0 =>
    cases hv
    refine ⟨_, rfl, pm, _, _, _, rfl, rfl, SqT.of hpm, at_0, rfl, _, rfl, ite2 (fun _ => ?_) (fun z => absurd (decide_eq_true rfl) z)⟩
    refine ⟨_, rfl, _, rfl, _, rfl, pm, _, rfl, hpm, fun p1 H6 s6 h6 => ?_⟩
    refine ⟨_, rfl, _, rfl, _, rfl, _, rfl, (by show 4 ≤ sizeLine; decide), fun p2 hp2 => ?_⟩
    have u6 := same_upd (o := .tup [.str a1, .int n1, .int t1, .str h0]) hp2
    exact ⟨p1, p2, [.inl (.inr a'), .inl (.inl n'), .inl (.inl t'), .inl (.inr h')], [.inl (.inr a1), .inl (.inl n1), .inl (.inl t1), .inl (.inr h0)], rfl, rfl, ⟨_, u6 _ _ h6, .cons rfl (.cons rfl (.cons rfl (.cons rfl .nil)))⟩, ⟨_, upd_same, .cons rfl (.cons rfl (.cons rfl (.cons rfl .nil)))⟩, _, rfl, hR _ (s6.trans u6)⟩
   ·
    intro x hx hP H' sm R hR
    obtain ⟨m, hm, rfl⟩ := List.mem_map.mp hx
    rw [lqF_at hL.ok hm] at hP
    obtain ⟨g, w0, em⟩ := anP_iff.mp hP
    obtain ⟨zs, hpm, hv⟩ := (hL4.ok _ hm).up sm
    rw [em] at hv
    cases hv
    refine ⟨_, rfl, _, rfl, m.2, _, rfl, hpm, fun p1 H6 s6 h6 => hR (.ref p1) H6 s6 ⟨p1, rfl, ?_⟩⟩
    rw [agOf_at hL.ok hm, em]
    exact h6
   rw [fil_refs hL.ok (fun x hx => hx)] at hP
   have hal : ∀ x, x ∈ (ms.filter fun x => anP a1 n1 t1 h0 x.1) ↔ x ∈ ms ∧ ∃ g w, x.1 = .ans a1 n1 t1 h0 g w := fun x => by rw [List.mem_filter, anP_iff]
   have hll : (ms.filter fun x => anP a1 n1 t1 h0 x.1).length < 64 := Nat.lt_of_le_of_lt (List.length_filter_le _ _) h64
   generalize (ms.filter fun x => anP a1 n1 t1 h0 x.1) = al at hP hal hll
   obtain ⟨zs, rfl, hzs, hza⟩ := said_of hL.ok (fun x hx => ((hal x).mp hx).1) hP
   have hzl : zs.length = al.length := by have := congrArg List.length hza; rw [List.length_map, List.length_map] at this; exact this
   refine ⟨_, rfl, D5, _, rfl, .inl (SqL.of hD5), _, _, rfl, rfl, _, rfl, ?_⟩
   rw [List.length_map]
   refine ite2 (fun z => ?_) (fun z => ?_)
   ·
    have hpos : 0 < zs.length := by have := of_decide_eq_true z; omega
    have hI : ∀ x ∈ zs.map (fun z => (pn z.1, z.2)), ∃ z ∈ zs, x = (pn z.1, z.2) := fun x hx => by obtain ⟨z, hz, rfl⟩ := List.mem_map.mp hx; exact ⟨z, hz, rfl⟩
    refine ⟨_, rfl, D5, zs.map (fun z => (pn z.1, z.2)), rfl, by rw [List.map_map]; exact hD5, fun x hx => ?_, by rw [List.length_map]; omega, .inr fun x hx => ?_, fun x hx y hy => ?_, fun D6 qs hD6 hpm hso => ?_⟩
    ·
     obtain ⟨z, hz, rfl⟩ := hI x hx
     exact ⟨_, hzs z hz, .cons rfl (.cons rfl .nil)⟩
    ·
     obtain ⟨z, hz, rfl⟩ := hI x hx
     exact ⟨_, _, rfl⟩
    ·
     obtain ⟨z, hz, rfl⟩ := hI x hx
     obtain ⟨u, hu, rfl⟩ := hI y hy
     exact pn_ok _ _
    have hql : 0 < qs.length := by rw [hpm.length_eq, List.length_map]; exact hpos
    obtain ⟨qs', q, rfl⟩ : ∃ qs' q, qs = qs' ++ [q] := ⟨_, _, (List.dropLast_concat_getLast (List.ne_nil_of_length_pos hql)).symm⟩
    obtain ⟨z1, hz1, rfl, hw⟩ := best_last hal hza hpm hso
    have u6 := same_upd (o := .lst ((qs' ++ [(pn z1.1, z1.2)]).map fun x => V.ref x.2)) hD6
    refine ⟨_, rfl, D6, _, _, _, rfl, rfl, SqL.of upd_same, by rw [List.map_append]; exact atI_last _ _, z1.2, _, _, _, rfl, rfl, SqT.of (u6 _ _ (hzs z1 hz1)), at_1, ?_⟩
    have hW6 := u6 _ _ (s5 _ _ hW4)
    refine ⟨_, rfl, _, rfl, W, _, rfl, DPut.k (k := .inr h0) hW6 (by rw [sizeLine_eq]; omega), fun b o e => ?_, _, _, _, upd_same, hO.put hi0 hw, Nat.le_trans (length_putK _ _ _) (by omega), rfl⟩
    rw [upd_ne (ne_of_none e hW)]
    exact u6 _ _ (s5 _ _ (s4 _ _ e))
   ·
    have e0 : zs = [] := List.length_eq_zero_iff.mp (by
     rcases Nat.eq_zero_or_pos zs.length with e | e
     · exact e
     · exact absurd (decide_eq_true (by omega)) z)
    refine ⟨s4.trans s5, kvs, _, _, s5 _ _ hW4, hO.skip hi0 ?_, by omega, rfl⟩
    rintro a' n' g' w' ⟨h1, h2⟩
    obtain ⟨x, hx, ex⟩ := List.mem_map.mp h1
    have e1 : a' = a1 := congrArg Prod.fst h2
    have e2 : n' = n1 := congrArg Prod.snd h2
    subst e1 e2
    have hxa := (hal x).mpr ⟨hx, g', w', ex⟩
    have : al.length = 0 := by rw [← hzl, e0]; rfl
    rw [List.length_eq_zero_iff.mp this] at hxa
    cases hxa
  rintro σ H4 ⟨s4, kvs, y7, y8, hW4, hO, hl4, rfl⟩
  rw [List.length_map] at hO
  have hwf := hO.word
  have ITX : ∀ {H' : Hp}, Same H3 H' → H' p0 = some (.tup [.str "bid", .str a1, .int n1, .int t1, .int b, .int e, .ref q0]) := fun s => s _ _ hp
  refine ⟨_, rfl, p0, _, _, _, rfl, rfl, SqT.of (ITX s4), atI_nat (j := 6) rfl, q0, rfl, ⟨_, SqT.of (s4 _ _ hq)⟩, ?_⟩
  refine comp_pure (seq_tup (SqT.of (s4 _ _ hq))) (wP (wfS kvs) (some (Str.ofString "yes"))) (fun v => v) (by rw [List.length_map]; omega) (fun x hx H' sm R hR => ?_) (fun x hx _ H' sm R hR => ⟨_, rfl, hR H' (Same.refl _)⟩) (fun D5 H5 s5 hD50 hD5 => ?_)
  ·
   obtain ⟨tx, htx, rfl⟩ := List.mem_map.mp hx
   have q : R (decide (wfS kvs tx = (some (Str.ofString "yes")))) H' := hR H' (Same.refl _)
   rw [← hO.get (by decide)] at q
   exact ⟨_, rfl, W, rfl, .inl ⟨kvs, .inl (sm _ _ hW4)⟩, _, rfl, _, DGet.k (k := .inr tx) (sm _ _ hW4), (by rcases hO tx with ⟨e, _⟩ | ⟨w, e, _⟩ <;> rw [e] <;> rfl), _, rfl, q⟩
  rw [wP_fil] at hD5
  refine ⟨D5, _, rfl, .inl ⟨SqL.of hD5, fun r5 hr5 => ?_⟩⟩
  have u5 := same_upd (o := .tup ((wfil (wfS kvs) (some (Str.ofString "yes")) hs).map V.str)) hr5
  have S5 := s4.trans (s5.trans u5)
  have e5 : (upd H5 r5 (.tup ((wfil (wfS kvs) (some (Str.ofString "yes")) hs).map V.str))) r5 = some (.tup ((wfil (wfS kvs) (some (Str.ofString "yes")) hs).map V.str)) := upd_same
  have t5 := s5.trans u5
  generalize upd H5 r5 (.tup ((wfil (wfS kvs) (some (Str.ofString "yes")) hs).map V.str)) = K5 at *
  have hW5 := t5 _ _ hW4
  clear hr5 u5 hD5
  refine ⟨_, rfl, p0, _, _, _, rfl, rfl, SqT.of (ITX S5), atI_nat (j := 6) rfl, q0, rfl, ⟨_, SqT.of (S5 _ _ hq)⟩, ?_⟩
  refine comp_pure (seq_tup (SqT.of (S5 _ _ hq))) (wP (wfS kvs) (some (Str.ofString "no"))) (fun v => v) (by rw [List.length_map]; omega) (fun x hx H' sm R hR => ?_) (fun x hx _ H' sm R hR => ⟨_, rfl, hR H' (Same.refl _)⟩) (fun D6 H6 s6 hD60 hD6 => ?_)
  ·
   obtain ⟨tx, htx, rfl⟩ := List.mem_map.mp hx
   have q : R (decide (wfS kvs tx = (some (Str.ofString "no")))) H' := hR H' (Same.refl _)
   rw [← hO.get (by decide)] at q
   exact ⟨_, rfl, W, rfl, .inl ⟨kvs, .inl (sm _ _ hW5)⟩, _, rfl, _, DGet.k (k := .inr tx) (sm _ _ hW5), (by rcases hO tx with ⟨e, _⟩ | ⟨w, e, _⟩ <;> rw [e] <;> rfl), _, rfl, q⟩
  rw [wP_fil] at hD6
  refine ⟨D6, _, rfl, .inl ⟨SqL.of hD6, fun r6 hr6 => ?_⟩⟩
  have u6 := same_upd (o := .tup ((wfil (wfS kvs) (some (Str.ofString "no")) hs).map V.str)) hr6
  have S6 := S5.trans (s6.trans u6)
  have e6 : (upd H6 r6 (.tup ((wfil (wfS kvs) (some (Str.ofString "no")) hs).map V.str))) r6 = some (.tup ((wfil (wfS kvs) (some (Str.ofString "no")) hs).map V.str)) := upd_same
  have t6 := s6.trans u6
  generalize upd H6 r6 (.tup ((wfil (wfS kvs) (some (Str.ofString "no")) hs).map V.str)) = K6 at *
  have hW6 := t6 _ _ hW5
  clear hr6 u6 hD6
  refine ⟨_, rfl, p0, _, _, _, rfl, rfl, SqT.of (ITX S6), atI_nat (j := 6) rfl, q0, rfl, ⟨_, SqT.of (S6 _ _ hq)⟩, ?_⟩
  refine comp_pure (seq_tup (SqT.of (S6 _ _ hq))) (wP (wfS kvs) none) (fun v => v) (by rw [List.length_map]; omega) (fun x hx H' sm R hR => ?_) (fun x hx _ H' sm R hR => ⟨_, rfl, hR H' (Same.refl _)⟩) (fun D7 H7 s7 hD70 hD7 => ?_)
  ·
   obtain ⟨tx, htx, rfl⟩ := List.mem_map.mp hx
   have q : R (decide (wfS kvs tx = none)) H' := hR H' (Same.refl _)
   rw [← hO.mem] at q
   exact ⟨_, rfl, _, rfl, W, _, rfl, DGet.k (k := .inr tx) (sm _ _ hW6), _, rfl, q⟩
  rw [wP_fil] at hD7
  refine ⟨D7, _, rfl, .inl ⟨SqL.of hD7, fun r7 hr7 => ?_⟩⟩
  have u7 := same_upd (o := .tup ((wfil (wfS kvs) none hs).map V.str)) hr7
  have S7 := S6.trans (s7.trans u7)
  have e7 : (upd H7 r7 (.tup ((wfil (wfS kvs) none hs).map V.str))) r7 = some (.tup ((wfil (wfS kvs) none hs).map V.str)) := upd_same
  have t7 := s7.trans u7
  generalize upd H7 r7 (.tup ((wfil (wfS kvs) none hs).map V.str)) = K7 at *
  have hW7 := t7 _ _ hW6
  clear hr7 u7 hD7
  have hL7 := hL3.up S7
  replace e5 := t7 _ _ (t6 _ _ e5)
  replace e6 := t7 _ _ e6
  refine ⟨_, rfl, L, rfl, ⟨_, SqL.of hL7.at_⟩, ?_⟩
  refine comp_rel (seq_list (K := K) (SqL.of hL7.at_)) (lqF (clP a1 n1 t1) ms) (RlC ms) (fun _ _ _ _ tp ⟨q, e1, e2⟩ => ⟨q, e1, tp _ _ e2⟩) (by rw [List.length_map]; omega) ?_ ?_ (fun D8 H8 ys s8 hD80 hD8 hP => ?_)
  ·
   intro x hx H' sm R hR
   obtain ⟨m, hm, rfl⟩ := List.mem_map.mp hx
   rw [lqF_at hL.ok hm] at hR
   obtain ⟨lt, pm⟩ := m
   obtain ⟨zs, hpm, hv⟩ := (hL7.ok _ hm).up sm
   cases lt with
   | bid => obtain ⟨_, rfl, _⟩ := hv; exact ⟨_, rfl, pm, _, _, _, rfl, rfl, SqT.of hpm, at_0, rfl, _, rfl, ite2 (fun z => absurd z (by decide)) (fun _ => hR H' (Same.refl _))⟩
   | off => cases hv; exact ⟨_, rfl, pm, _, _, _, rfl, rfl, SqT.of hpm, at_0, rfl, _, rfl, ite2 (fun z => absurd z (by decide)) (fun _ => hR H' (Same.refl _))⟩
   | ans => cases hv; exact ⟨_, rfl, pm, _, _, _, rfl, rfl, SqT.of hpm, at_0, rfl, _, rfl, ite2 (fun z => absurd z (by decide)) (fun _ => hR H' (Same.refl _))⟩
   | close a' n' t' hs' =>
   obtain ⟨qh, rfl, hqh⟩ := hv
   refine ⟨_, rfl, pm, _, _, _, rfl, rfl, SqT.of hpm, at_0, rfl, _, rfl, ite2 (fun _ => ?_) (fun z => absurd (decide_eq_true rfl) z)⟩
   refine ⟨_, rfl, _, rfl, _, rfl, pm, _, rfl, hpm, fun p1 H9 s9 h9 => ?_⟩
   refine ⟨_, rfl, _, rfl, _, rfl, (by show 3 ≤ sizeLine; decide), fun p2 hp2 => ?_⟩
   have u9 := same_upd (o := .tup [.str a1, .int n1, .int t1]) hp2
   exact ⟨p1, p2, [.inl (.inr a'), .inl (.inl n'), .inl (.inl t')], [.inl (.inr a1), .inl (.inl n1), .inl (.inl t1)], rfl, rfl, ⟨_, u9 _ _ h9, .cons rfl (.cons rfl (.cons rfl .nil))⟩, ⟨_, upd_same, .cons rfl (.cons rfl (.cons rfl .nil))⟩, _, rfl, hR _ (s9.trans u9)⟩
  ·
   intro x hx hP H' sm R hR
   obtain ⟨m, hm, rfl⟩ := List.mem_map.mp hx
   rw [lqF_at hL.ok hm] at hP
   obtain ⟨hs', em⟩ := clP_iff.mp hP
   obtain ⟨zs, hpm, hv⟩ := (hL7.ok _ hm).up sm
   rw [em] at hv
   obtain ⟨qh, rfl, hqh⟩ := hv
   refine ⟨_, rfl, m.2, _, _, _, rfl, rfl, SqT.of hpm, atI_nat (j := 4) rfl, hR _ H' (Same.refl _) ⟨qh, rfl, ?_⟩⟩
   rw [clOf_at hL.ok hm, em]
   exact hqh
  rw [fil_refs hL.ok (fun x hx => hx)] at hP
  have hcl : ∀ x, x ∈ (ms.filter fun x => clP a1 n1 t1 x.1) ↔ x ∈ ms ∧ ∃ hs, x.1 = .close a1 n1 t1 hs := fun x => by rw [List.mem_filter, clP_iff]
  generalize (ms.filter fun x => clP a1 n1 t1 x.1) = cl at hP hcl
  have S8 := S7.trans s8
  replace e5 := s8 _ _ e5
  replace e6 := s8 _ _ e6
  replace e7 := s8 _ _ e7
  have wl := fun o => Nat.le_trans (wfil_len (wfS kvs) o hs) hhs
  refine ⟨_, rfl, D8, _, rfl, .inl (SqL.of hD8), rfl, _, rfl, ?_⟩
  rw [vint]
  cases cl with
  |
   nil =>
   rw [List.map_nil] at hP
   cases hP
   refine ite2 (fun _ => ?_) (fun z => absurd (decide_eq_true rfl) z)
   refine ⟨_, rfl, _, rfl, _, rfl, _, rfl, p0, _, _, _, rfl, rfl, SqT.of (ITX S8), atI_nat (j := 4) rfl, _, rfl, p0, _, _, _, rfl, rfl, SqT.of (ITX S8), atI_nat (j := 5) rfl, _, rfl, _, rfl, _, rfl, z0, fun f1 h1 => ⟨z0, fun f2 h2 => ⟨(by show 11 ≤ sizeLine; decide), fun q hq' => ?_⟩⟩⟩
   have u1 := same_upd (o := .tup []) h1
   have u2 := same_upd (o := .tup []) h2
   have u3 := same_upd (o := .tup [.str a1, .int n1, .int t1, .str "open", .int b, .int e, .ref r5, .ref r6, .ref r7, .ref f1, .ref f2]) hq'
   have U := (u1.trans u2).trans u3
   refine k _ _ ((S3.trans S8).trans U) (.inr ⟨q, ⟨a1, n1, t1, "open", some (b, e), _, _, _, [], []⟩, rfl, ⟨⟨r5, r6, r7, f1, f2, upd_same, U _ _ e5, U _ _ e6, U _ _ e7, u3 _ _ (u2 _ _ upd_same), u3 _ _ upd_same⟩, wl _, wl _, wl _, Nat.zero_le _, Nat.zero_le _⟩, _, hlast, wfS kvs, hwf, .inl ⟨?_, rfl⟩⟩)
   rintro a' n' hs' ⟨g1, g2⟩
   obtain ⟨x, hx, ex⟩ := List.mem_map.mp g1
   have e1 : a' = a1 := congrArg Prod.fst g2
   have e2 : n' = n1 := congrArg Prod.snd g2
   subst e1 e2
   exact nomatch (hcl x).mpr ⟨hx, hs', ex⟩
  | cons x1 cl =>
  rw [List.map_cons] at hP
  cases hP with
  | cons r1 rs =>
  obtain ⟨q1, rfl, hq1⟩ := r1
  obtain ⟨hm1, hs1, ex1⟩ := (hcl x1).mp (List.mem_cons_self ..)
  rw [clOf_at hL.ok hm1, ex1] at hq1
  refine ite2 (fun z => absurd z (by rw [List.length_cons]; intro z; have := of_decide_eq_true z; omega)) (fun _ => ?_)
  refine ⟨_, rfl, r5, rfl, ⟨_, SqT.of e5⟩, ?_⟩
  refine comp_pure (seq_tup (SqT.of e5)) (lateP hs1) (fun v => v) (by rw [List.length_map]; exact Nat.le_trans (wl _) (by decide)) (fun x hx H' sm R hR => ?_) (fun x hx _ H' sm R hR => ⟨_, rfl, hR H' (Same.refl _)⟩) (fun D9 H9 s9 hD90 hD9 => ?_)
  ·
   obtain ⟨tx, htx, rfl⟩ := List.mem_map.mp hx
   refine ⟨_, rfl, _, rfl, D8, _, _, _, rfl, rfl, SqL.of (sm _ _ hD8), at_0, q1, _, rfl, .inr (SqT.of (sm _ _ hq1)), rfl, flat_strs hs1, _, rfl, ?_⟩
   rw [inV_strs]
   exact hR _ (Same.refl _)
  rw [late_fil] at hD9
  refine ⟨D9, _, rfl, .inl ⟨SqL.of hD9, fun rl hrl => ?_⟩⟩
  have url := same_upd (o := .tup (((wfil (wfS kvs) (some (Str.ofString "yes")) hs).filter fun h => !decide (h ∈ hs1)).map V.str)) hrl
  have S9 := S8.trans (s9.trans url)
  have hD9' := url _ _ (s9 _ _ hD8)
  refine ⟨_, rfl, _, rfl, _, rfl, _, rfl, p0, _, _, _, rfl, rfl, SqT.of (ITX S9), atI_nat (j := 4) rfl, _, rfl, p0, _, _, _, rfl, rfl, SqT.of (ITX S9), atI_nat (j := 5) rfl, _, rfl, _, rfl, _, rfl, _, rfl, D8, _, _, _, rfl, rfl, SqL.of hD9', at_0, _, rfl, (by show 11 ≤ sizeLine; decide), fun q hq' => ?_⟩
  have u3 := same_upd (o := .tup [.str a1, .int n1, .int t1, .str "closed", .int b, .int e, .ref r5, .ref r6, .ref r7, .ref q1, .ref rl]) hq'
  have U := (s9.trans url).trans u3
  exact k _ _ ((S3.trans S8).trans U) (.inr ⟨q, ⟨a1, n1, t1, "closed", some (b, e), _, _, _, hs1, _⟩, rfl, ⟨⟨r5, r6, r7, q1, rl, upd_same, U _ _ e5, U _ _ e6, U _ _ e7, U _ _ hq1, u3 _ _ upd_same⟩, wl _, wl _, wl _, (by have := hz _ hm1; rw [ex1] at this; exact this.2.1), Nat.le_trans (List.length_filter_le _ _) (wl _)⟩, _, hlast, wfS kvs, hwf, .inr ⟨a1, n1, hs1, ⟨List.mem_map.mpr ⟨x1, hm1, ex1⟩, rfl⟩, rfl⟩⟩)
theorem sc_is_name : FnScope ["text"] ["text"] (defScope s_is_name) := ⟨rfl, rfl, rfl, by decide +kernel, rfl, by decide +kernel, by decide +kernel⟩
theorem ok_is_name (T : Txt K mg a) : FnOk P w K mg base CX0 true 2 a.f_is_name a.d_is_name ["text"] (sp_is_name) := by
 refine T.F_is_name.ok sc_is_name (fun vs H Q E h => ?_) (fun cdv A outer s H vs Q E hr h => ?_)
 · obtain ⟨t, rfl, _⟩ := h; rfl
 ·
  obtain ⟨t, rfl, hl, k⟩ := h
  refine ⟨_, (pss_cons (ps_if (PW.pt (pw_or (pt_cmpR op_lt (pe_callB call_len_str rfl T.n_len (by decide +kernel) (pa_cons (pv 0) pa_nil)) pe_int (nomark _)) (pw_or1 (pt_cmpR op_gt (pe_callB call_len_str rfl T.n_len (by decide +kernel) (pa_cons (pv 0) pa_nil)) (pe_globI rfl T.g_NAME_SIGNS) (nomark _))))) (pss_one (ps_ret pe_bl)) pss_nil)
   (pss_one (ps_ret (pe_and (pe_cmpR op_in_chr (pe_ix ix_str (pv 0) pe_int (fun _ _ => rfl)) (pe_globS rfl T.g_LETTERS) (by with_unfolding_all rfl)) (pe_one (pe_call ((ok_is_made_of T).mono (by decide)) hr rfl T.m_is_made_of T.F_is_made_of.kp T.b_is_made_of .nil pass0 (pa_cons (pv 0) (pa_cons (pe_op op_add_str (pe_globS rfl T.g_LETTERS) (pe_globS rfl T.g_FIGURES)) pa_nil)))))))), ?_⟩
  have hz : t.length ≤ sizeLine := Nat.le_of_lt (Nat.lt_of_le_of_lt hl sz1000)
  have el : t.cps.toList.length = t.length := Array.length_toList
  refine ⟨_, rfl, t, rfl, hz, _, _, rfl, rfl, _, rfl, ?_⟩
  refine ite2 (fun h1 => ?_) (fun h1 => ?_)
  ·
   refine iteT ?_
   have q := k H (Same.refl _)
   rw [nameB_short (by rw [el]; have := of_decide_eq_true h1; omega)] at q
   exact q
  ·
   have h1' : ¬ ((t.length : Int) < 1) := fun z => h1 (decide_eq_true z)
   refine ⟨_, rfl, t, rfl, hz, _, _, rfl, rfl, _, rfl, ?_⟩
   refine ite2 (fun h2 => ?_) (fun h2 => ?_)
   ·
    have q := k H (Same.refl _)
    rw [nameB_long (by rw [el]; have := of_decide_eq_true h2; omega)] at q
    exact q
   ·
    have h2' : ¬ ((8 : Int) < t.length) := fun z => h2 (decide_eq_true z)
    obtain ⟨c0, e0⟩ : ∃ c, t.cps.toList[0]? = some c := ⟨t.cps.toList[0]'(by rw [el]; omega), by simp⟩
    refine ⟨_, rfl, t, 0, c0, rfl, rfl, hz, atI_nat e0, c0, _, rfl, rfl, _, rfl, ?_⟩
    have en := nameB_mid (l := t.cps.toList) (by rw [el]; omega) (by rw [el]; omega) e0
    refine ite2 (fun h3 => ?_) (fun h3 => ?_)
    ·
     refine ⟨_, rfl, _, _, rfl, rfl, by decide +kernel, t, _, rfl, hl, fun H' sm => ?_⟩
     have q := k H' sm
     rw [en, show decide (c0 ∈ LT) = true from h3, Bool.true_and] at q
     exact q
    ·
     have q := k H (Same.refl _)
     rw [en, show decide (c0 ∈ LT) = false from decide_eq_false (fun z => h3 (decide_eq_true z)), Bool.false_and] at q
     exact q
theorem sc_is_from : FnScope ["value", "least"] ["value", "least"] (defScope s_is_from) := ⟨rfl, rfl, rfl, by decide +kernel, rfl, by decide +kernel, by decide +kernel⟩
theorem ok_is_from (T : Txt K mg a) : FnOk P w K mg base CX0 true 2 a.f_is_from a.d_is_from ["value", "least"] (sp_is_from) := by
 refine T.F_is_from.ok sc_is_from (fun vs H Q E h => ?_) (fun cdv A outer s H vs Q E hr h => ?_)
 · obtain ⟨v, w, j, rfl, _⟩ := h; rfl
 ·
  obtain ⟨v, w, j, rfl, hw, k⟩ := h
  refine ⟨_, (pss_one (ps_ret (pe_and (pe_call ((ok_is_number T).mono (by decide)) hr rfl T.m_is_number T.F_is_number.kp T.b_is_number .nil pass0 (pa_cons (pv 0) pa_nil)) (pe_one (pe_cmpR op_ge (pv 0) (pv 1) (nomark _)))))), ?_⟩
  refine ⟨_, rfl, v, w, rfl, hw, _, rfl, ?_⟩
  cases w with
  | i z => cases hw; exact iteT ⟨_, rfl, _, rfl, _, _, rfl, rfl, k⟩
  | n => exact iteF k
  | b x => exact iteF k
  | s t => exact iteF k
  | ts l => exact iteF k
  | ti z => exact iteF k
theorem sc_told_of_bid : FnScope ["letters", "bid", "turn", "asked", "answers", "yes", "no", "silent", "closes", "come", "late"] ["letters", "bid"] (defScope s_told_of_bid) := ⟨rfl, rfl, rfl, by decide +kernel, rfl, by decide +kernel, by decide +kernel⟩
theorem ok_told_of_bid (T : Txt K mg a) : FnOk P w K mg base CX0 true 2 a.f_told_of_bid a.d_told_of_bid ["letters", "bid"] (sp_told_of_bid) := by
 refine T.F_told_of_bid.ok sc_told_of_bid (fun vs H Q E h => ?_) (fun cdv A outer s H vs Q E hr h => ?_)
 · obtain ⟨L, B, ms, a0, n, t, b, e, hs, rfl, _⟩ := h; rfl
 ·
  obtain ⟨L, B, ms, a0, n, t, b, e, hs, rfl, hL, hz, hG, hB, hhs, k⟩ := h
  refine ⟨_, (pss_cons (ps_set (i := 2) sc_told_of_bid.nd rfl (Or.inr rfl) (pe_ix (ix_tupK (K := K) rfl) (pv 1) pe_int (fun _ _ => rfl)))
   (pss_cons (ps_set (i := 3) sc_told_of_bid.nd rfl (Or.inl rfl) (pe_ix (ix_tupK (K := K) rfl) (pv 1) pe_int (fun _ _ => rfl)))
   (pss_cons (ps_set (i := 4) sc_told_of_bid.nd rfl (Or.inl rfl) (pe_call ((ok_answers_of T).mono (by decide)) hr rfl T.m_answers_of T.F_answers_of.kp T.b_answers_of .nil pass0 (pa_cons (pv 0) (pa_cons (pv 2) pa_nil))))
   (pss_cons (ps_set (i := 5) sc_told_of_bid.nd rfl (Or.inl rfl) (pe_call ((ok_with_word T).mono (by decide)) hr rfl T.m_with_word T.F_with_word.kp T.b_with_word .nil pass0 (pa_cons (pv 3) (pa_cons (pv 4) (pa_cons pe_str pa_nil)))))
   (pss_cons (ps_set (i := 6) sc_told_of_bid.nd rfl (Or.inl rfl) (pe_call ((ok_with_word T).mono (by decide)) hr rfl T.m_with_word T.F_with_word.kp T.b_with_word .nil pass0 (pa_cons (pv 3) (pa_cons (pv 4) (pa_cons pe_str pa_nil)))))
   (pss_cons (ps_set (i := 7) sc_told_of_bid.nd rfl (Or.inl rfl) (pe_call ((ok_with_word T).mono (by decide)) hr rfl T.m_with_word T.F_with_word.kp T.b_with_word .nil pass0 (pa_cons (pv 3) (pa_cons (pv 4) (pa_cons pe_non pa_nil)))))
   (pss_cons (ps_setComp (i0 := 8) sc_told_of_bid.nd rfl rfl (N := ["letter", "turn"]) (cap := [none, some 2]) (by show CompScope (defScope s_told_of_bid) _ ["letters", "bid", "turn", "asked", "answers", "yes", "no", "silent", "closes", "come", "late"] _ _; exact ⟨rfl, by decide +kernel, by decide +kernel, by decide +kernel, by decide +kernel, rfl, by decide +kernel⟩) rfl (pi_listK (K := K) rfl (pv 0)) (fun C s H fp => ⟨(pg_name (i := 0) (by show (["letter", "turn"] : List Str).Nodup; decide +kernel) rfl (Or.inl rfl) (.inr rfl)), (pf_one (PW.pt (pw_and (pt_cmpR (op_eqW (hu_of hr)) (pe_ix (ix_tupK (K := K) rfl) (pv 0) pe_int (fun _ _ => rfl)) pe_str (nomark _)) (pw_and1 (pt_cmpR op_eq (pe_ix (ix_tupK (K := K) rfl) (pv 0) pe_int (fun _ _ => rfl)) (pv 1) (nomark _)))))), (pv 0)⟩))
   (pss_cons (ps_if (pt_not (pt_truth (pv 8) (fun _ => rfl))) (pss_one (ps_ret (pe_tup (pa_cons (pe_ix (ix_tupK (K := K) rfl) (pv 1) pe_int (fun _ _ => rfl)) (pa_cons (pe_ix (ix_tupK (K := K) rfl) (pv 1) pe_int (fun _ _ => rfl)) (pa_cons (pv 2) (pa_cons pe_str (pa_cons (pe_ix (ix_tupK (K := K) rfl) (pv 1) pe_int (fun _ _ => rfl)) (pa_cons (pe_ix (ix_tupK (K := K) rfl) (pv 1) pe_int (fun _ _ => rfl)) (pa_cons (pv 5) (pa_cons (pv 6) (pa_cons (pv 7) (pa_cons (pe_tup pa_nil) (pa_cons (pe_tup pa_nil) pa_nil)))))))))))))) pss_nil)
   (pss_cons (ps_set (i := 9) sc_told_of_bid.nd rfl (Or.inr rfl) (pe_ix (ix_tupK (K := K) rfl) (pe_callB (call_maxN rfl) rfl T.n_max (by decide +kernel) (pa_cons (pv 8) pa_nil)) pe_int (fun _ _ => rfl)))
   (pss_cons (ps_set (i := 10) sc_told_of_bid.nd rfl (Or.inl rfl) (pe_callTy (call_tuple_ofK (K := K) rfl) rfl T.n_tuple (by decide +kernel) (pa_cons (pe_comp (N := ["hand", "come"]) (cap := [none, some 9]) (by show CompScope (defScope s_told_of_bid) _ ["letters", "bid", "turn", "asked", "answers", "yes", "no", "silent", "closes", "come", "late"] _ _; exact ⟨rfl, by decide +kernel, by decide +kernel, by decide +kernel, by decide +kernel, rfl, by decide +kernel⟩) rfl (pi_tupK (K := K) rfl (pv 5)) (fun C s H fp => ⟨(pg_name (i := 0) (by show (["hand", "come"] : List Str).Nodup; decide +kernel) rfl (Or.inl rfl) (.inr rfl)), (pf_one (pt_cmpR (op_notIn_seqK (K := K) rfl) (pv 0) (pv 1) (by with_unfolding_all rfl))), (pv 0)⟩)) pa_nil)))
   (pss_one (ps_ret (pe_tup (pa_cons (pe_ix (ix_tupK (K := K) rfl) (pv 1) pe_int (fun _ _ => rfl)) (pa_cons (pe_ix (ix_tupK (K := K) rfl) (pv 1) pe_int (fun _ _ => rfl)) (pa_cons (pv 2) (pa_cons pe_str (pa_cons (pe_ix (ix_tupK (K := K) rfl) (pv 1) pe_int (fun _ _ => rfl)) (pa_cons (pe_ix (ix_tupK (K := K) rfl) (pv 1) pe_int (fun _ _ => rfl)) (pa_cons (pv 5) (pa_cons (pv 6) (pa_cons (pv 7) (pa_cons (pv 9) (pa_cons (pv 10) pa_nil)))))))))))))))))))))))), ?_⟩
  obtain ⟨zs, hB, q0, rfl, hq⟩ := hB
  refine ⟨_, rfl, B, _, _, _, rfl, rfl, SqT.of hB, at_3, ?_⟩
  refine ⟨_, rfl, B, _, _, _, rfl, rfl, SqT.of hB, atI_nat (j := 6) rfl, ?_⟩
  refine ⟨_, rfl, _, rfl, L, ms, t, rfl, hL, hG, fun D kvs H1 s1 hD hA => ?_⟩
  obtain ⟨wf, hwf⟩ := hA.know
  have hK := fun h => (hwf h).1
  refine ⟨_, rfl, _, rfl, q0, D, hs, kvs, some (Str.ofString "yes"), wf, rfl, s1 _ _ hq, hhs, hD, hK, fun r1 H2 s2 h2 => ?_⟩
  refine ⟨_, rfl, _, rfl, q0, D, hs, kvs, some (Str.ofString "no"), wf, rfl, s2 _ _ (s1 _ _ hq), hhs, s2 _ _ hD, fun h => (hK h).up s2, fun r2 H3 s3 h3 => ?_⟩
  refine ⟨_, rfl, _, rfl, q0, D, hs, kvs, none, wf, rfl, s3 _ _ (s2 _ _ (s1 _ _ hq)), hhs, s3 _ _ (s2 _ _ hD), fun h => ((hK h).up s2).up s3, fun r3 H4 s4 h4 => ?_⟩
  have S4 := ((s1.trans s2).trans s3).trans s4
  have hL4 := hL.up S4
  refine ⟨_, rfl, L, rfl, ⟨_, SqL.of hL4.at_⟩, ?_⟩
  refine comp_pure (seq_list (K := K) (SqL.of hL4.at_)) (clF ms t) (fun v => v) (by rw [List.length_map]; have := hL.few; omega) ?_ (fun x _ _ H' _ R hR => ⟨_, rfl, hR H' (Same.refl _)⟩) (fun C H5 s5 hC0 hC => ?_)
  ·
   intro x hx H' sm R hR
   obtain ⟨m, hm, rfl⟩ := List.mem_map.mp hx
   have hq := hR H' (Same.refl _)
   rw [clF_at (t := t) hL.ok hm] at hq
   obtain ⟨ws, hp, hv⟩ := (hL4.ok m hm).up sm
   obtain ⟨r, rfl⟩ := hv.four
   refine ⟨_, rfl, m.2, _, _, _, rfl, rfl, SqT.of hp, at_0, _, rfl, .inl ⟨rfl, _, rfl, ?_⟩⟩
   have e1 : decide (V.str m.1.kind = V.str "close") = decide (m.1.kind = "close") := decide_eq_decide.mpr (by rw [V.str.injEq])
   rw [e1]
   refine ite2 (fun z => ?_) (fun z => ?_)
   ·
    refine ⟨_, rfl, m.2, _, _, _, rfl, rfl, SqT.of hp, at_3, _, rfl, rfl, _, rfl, ?_⟩
    rw [z, Bool.true_and] at hq
    rw [vint]
    exact hq
   ·
    rw [Bool.eq_false_iff.mpr z, Bool.false_and] at hq
    exact hq
  have hS5 := S4.trans s5
  have hB5 := hS5 _ _ hB
  have hcs : ∀ z ∈ (((ms.map fun x => V.ref x.2).filter (clF ms t)).map fun v => v), ∃ x ∈ ms, z = V.ref x.2 ∧ x.1.kind = "close" ∧ x.1.turn = t := by
   intro z hz
   obtain ⟨y, hy, rfl⟩ := List.mem_map.mp hz
   obtain ⟨hy1, hy2⟩ := List.mem_filter.mp hy
   obtain ⟨x, hx, rfl⟩ := List.mem_map.mp hy1
   rw [clF_at (t := t) hL.ok hx, Bool.and_eq_true] at hy2
   exact ⟨x, hx, rfl, of_decide_eq_true hy2.1, of_decide_eq_true hy2.2⟩
  have hno : (((ms.map fun x => V.ref x.2).filter (clF ms t)).map fun v => v) = [] → ∀ a' n' hs', ¬ inM ms (.close a' n' t hs') := fun e a' n' hs' z => by
   obtain ⟨x, hx, ex⟩ := List.mem_map.mp z
   rw [List.map_id'' (fun _ => rfl), List.filter_eq_nil_iff] at e
   refine e _ (List.mem_map_of_mem (f := fun x : Lt × Addr => V.ref x.2) hx) ?_
   rw [clF_at (t := t) hL.ok hx, show x.1 = .close a' n' t hs' from ex]
   show (decide ((Str.ofString "close") = Str.ofString "close") && decide (t = t)) = true
   rw [decide_eq_true rfl, decide_eq_true rfl]
   rfl
  generalize (((ms.map fun x => V.ref x.2).filter (clF ms t)).map fun v => v) = cs at hC hcs hno
  have g1 := fun (H' : Hp) (s' : Same H5 H') => s' _ _ hB5
  cases cs with
  |
   nil =>
   refine ⟨_, rfl, _, .inl ⟨_, SqL.of hC, rfl⟩, iteT ?_⟩
   refine ⟨_, rfl, B, _, _, _, rfl, rfl, SqT.of hB5, at_1, _, rfl, B, _, _, _, rfl, rfl, SqT.of hB5, at_2, _, rfl, _, rfl, B, _, _, _, rfl, rfl, SqT.of hB5, atI_nat (j := 4) rfl, _, rfl, B, _, _, _, rfl, rfl, SqT.of hB5, atI_nat (j := 5) rfl, _, rfl, _, rfl, _, rfl, (by show 0 ≤ sizeLine; decide), fun e1 he1 => ⟨(by show 0 ≤ sizeLine; decide), fun e2 he2 => ⟨(by show 11 ≤ sizeLine; decide), fun r hr => ?_⟩⟩⟩
   have u1 := same_upd (o := .tup []) he1
   have u2 := same_upd (o := .tup []) he2
   have u3 := same_upd (o := .tup [.str a0, .int n, .int t, .str "open", .int b, .int e, .ref r1, .ref r2, .ref r3, .ref e1, .ref e2]) hr
   have S8 := (s5.trans u1).trans (u2.trans u3)
   exact k r ⟨a0, n, t, "open", some (b, e), _, _, _, [], []⟩ _ (S4.trans S8) ⟨⟨r1, r2, r3, e1, e2, upd_same, S8 _ _ (s4 _ _ (s3 _ _ h2)), S8 _ _ (s4 _ _ h3), S8 _ _ h4, u3 _ _ (u2 _ _ upd_same), u3 _ _ upd_same⟩, Nat.le_trans (wfil_len _ _ _) hhs, Nat.le_trans (wfil_len _ _ _) hhs, Nat.le_trans (wfil_len _ _ _) hhs, Nat.zero_le _, Nat.zero_le _⟩ ⟨wf, fun h _ => (hwf h).2, .inl ⟨hno rfl, rfl⟩⟩
  |
   cons c cs =>
   refine ⟨_, rfl, _, .inl ⟨_, SqL.of hC, rfl⟩, iteF ?_⟩
   have hL5 := hL.up hS5
   refine ⟨_, rfl, C, c, cs, fun z z' => ltL (codeOf ms z').2 (codeOf ms z).2, rfl, hC, ?_, fun H6 s6 => ?_⟩
   ·
    intro z hz z' hz' H' s'
    obtain ⟨x, hx, rfl, _, _⟩ := hcs z hz
    obtain ⟨x', hx', rfl, _, _⟩ := hcs z' hz'
    obtain ⟨y, hy, ey, hcode⟩ := code_at hx
    obtain ⟨y', hy', ey', hcode'⟩ := code_at hx'
    have e1 : y.1 = x.1 := LtAt.inj (by rw [← ey]; exact hL.ok y hy) (hL.ok x hx)
    have e2 : y'.1 = x'.1 := LtAt.inj (by rw [← ey']; exact hL.ok y' hy') (hL.ok x' hx')
    show GtV _ H' _ _ (ltL (codeOf ms (.ref x'.2)).2 (codeOf ms (.ref x.2)).2)
    rw [hcode, hcode', e1, e2]
    exact gtv_nest (hu2 hr) ((hL5.ok x hx).up s').nk ((hL5.ok x' hx').up s').nk (Lt.ok _ _)
   ·
    have hmx : ∃ x ∈ ms, maxBy (fun z z' => ltL (codeOf ms z').2 (codeOf ms z).2) c cs = V.ref x.2 ∧ x.1.kind = "close" ∧ x.1.turn = t := by
     rcases maxBy_mem (gt := fun z z' => ltL (codeOf ms z').2 (codeOf ms z).2) (xs := cs) (b := c) with e | e
     · rw [e]; exact hcs c (List.mem_cons_self ..)
     · exact hcs _ (List.mem_cons_of_mem _ e)
    obtain ⟨⟨lt, p⟩, hx, emx, hk, htn⟩ := hmx
    rw [emx]
    have hlt := (hL5.ok _ hx).up s6
    cases lt with
    | bid => exact absurd (show Str.ofString "bid" = Str.ofString "close" from hk) (by decide)
    | off => exact absurd (show Str.ofString "off" = Str.ofString "close" from hk) (by decide)
    | ans => exact absurd (show Str.ofString "answer" = Str.ofString "close" from hk) (by decide)
    | close a1 n1 t1 hs1 =>
    obtain ⟨zs, hp, q1, rfl, hq1⟩ := hlt
    refine ⟨p, _, _, _, rfl, rfl, SqT.of hp, atI_nat (j := 4) rfl, ?_⟩
    have h26 := s6 _ _ (s5 _ _ (s4 _ _ (s3 _ _ h2)))
    refine ⟨_, rfl, r1, rfl, ⟨_, SqT.of h26⟩, comp_pure (seq_tup (SqT.of h26)) (lateP hs1) (fun v => v) (by rw [List.length_map]; exact Nat.le_trans (Nat.le_trans (wfil_len _ _ _) hhs) (by decide)) (fun x hx H' sm R hR => ?_) (fun x hx _ H' sm R hR => ⟨_, rfl, hR H' (Same.refl _)⟩) (fun D2 H7 s7 hD20 hD2 => ?_)⟩
    ·
     obtain ⟨tx, htx, rfl⟩ := List.mem_map.mp hx
     refine ⟨_, rfl, _, rfl, q1, _, rfl, .inr (SqT.of (sm _ _ hq1)), rfl, flat_strs hs1, _, rfl, ?_⟩
     rw [inV_strs]
     exact hR _ (Same.refl _)
    refine ⟨D2, _, rfl, .inl ⟨SqL.of hD2, fun rl hrl => ?_⟩⟩
    rw [late_fil] at hD2 ⊢
    have url := same_upd (o := .tup (((wfil wf (some (Str.ofString "yes")) hs).filter fun h => !decide (h ∈ hs1)).map V.str)) hrl
    have hB8 := url _ _ (s7 _ _ (s6 _ _ hB5))
    refine ⟨_, rfl, B, _, _, _, rfl, rfl, SqT.of hB8, at_1, _, rfl, B, _, _, _, rfl, rfl, SqT.of hB8, at_2, _, rfl, _, rfl, B, _, _, _, rfl, rfl, SqT.of hB8, atI_nat (j := 4) rfl, _, rfl, B, _, _, _, rfl, rfl, SqT.of hB8, atI_nat (j := 5) rfl, _, rfl, _, rfl, _, rfl, _, rfl, _, rfl, (by show 11 ≤ sizeLine; decide), fun r hr => ?_⟩
    have ur := same_upd (o := .tup [.str a0, .int n, .int t, .str "closed", .int b, .int e, .ref r1, .ref r2, .ref r3, .ref q1, .ref rl]) hr
    have S9 := ((s5.trans s6).trans s7).trans (url.trans ur)
    obtain rfl : t1 = t := htn
    exact k r ⟨a0, n, _, "closed", some (b, e), _, _, _, hs1, _⟩ _ (S4.trans S9) ⟨⟨r1, r2, r3, q1, rl, upd_same, S9 _ _ (s4 _ _ (s3 _ _ h2)), S9 _ _ (s4 _ _ h3), S9 _ _ h4, ur _ _ (url _ _ (s7 _ _ hq1)), ur _ _ upd_same⟩, Nat.le_trans (wfil_len _ _ _) hhs, Nat.le_trans (wfil_len _ _ _) hhs, Nat.le_trans (wfil_len _ _ _) hhs, (hz _ hx).2.1, Nat.le_trans (List.length_filter_le _ _) (Nat.le_trans (wfil_len _ _ _) hhs)⟩ ⟨wf, fun h _ => (hwf h).2, .inr ⟨a1, n1, hs1, List.mem_map_of_mem (f := fun x : Lt × Addr => x.1) hx, rfl⟩⟩
theorem sc_law_names_by : FnScope ["_law_cell", "_law_many"] ["_law_cell"] (defScope s_law_names_by) := ⟨rfl, rfl, rfl, by decide +kernel, rfl, by decide +kernel, by decide +kernel⟩
theorem ok_law_names_by (T : Txt K mg a) : FnOk P w K mg base CX0 true 2 a.f_law_names_by a.d_law_names_by ["_law_cell"] (sp_law_names_by) := by
 refine T.F_law_names_by.ok sc_law_names_by (fun vs H Q E h => ?_) (fun cdv A outer s H vs Q E hr h => ?_)
 · obtain ⟨c, rfl, _⟩ := h; rfl
 ·
  obtain ⟨c, rfl, k⟩ := h
  refine ⟨_, (pss_cons (ps_set (i := 1) sc_law_names_by.nd rfl (Or.inl rfl) (pe_op op_add pe_int (pe_op op_mod (pv 0) pe_int)))
   (pss_cut (ps_if (pt_cmpR op_eq (pe_op op_mod (pe_op op_fdiv (pv 0) pe_int) pe_int) pe_int (nomark _)) (pss_one (ps_set (i := 1) sc_law_names_by.nd rfl (Or.inl rfl) (pe_op op_add pe_int (pe_op op_mod (pe_op op_fdiv (pv 0) pe_int) pe_int)))) pss_nil)
   (pss_one (ps_ret (pe_callB call_sortedT rfl T.n_sorted (by decide +kernel) (pa_cons (pe_comp (N := ["_law_k", "_law_cell"]) (cap := [none, some 0]) (by show CompScope (defScope s_law_names_by) _ ["_law_cell", "_law_many"] _ _; exact ⟨rfl, by decide +kernel, by decide +kernel, by decide +kernel, by decide +kernel, rfl, by decide +kernel⟩) rfl (pi_range1 rfl T.n_range (pa_cons (pv 1) pa_nil)) (fun C s H fp => ⟨(pg_name (i := 0) (by show (["_law_k", "_law_cell"] : List Str).Nodup; decide +kernel) rfl (Or.inl rfl) (.inr rfl)), pf_none, (pe_call ((ok_law_name_by T).mono (by decide)) hr rfl T.m_law_name_by T.F_law_name_by.kp T.b_law_name_by .nil pass0 (pa_cons (pv 0) (pa_cons (pe_op op_fdiv (pv 1) pe_int) pa_nil)))⟩)) pa_nil)))))), ?_⟩
  have b0 : 0 ≤ c % 6 := Int.emod_nonneg _ (by decide)
  have b1 : c % 6 < 6 := Int.emod_lt_of_pos _ (by decide)
  refine ⟨_, rfl, _, _, rfl, rfl, (by show (0 : Int) < 6; decide), _, _, rfl, rfl, ?_⟩
  refine ⟨fun σ H' => H' = H ∧ ∃ n : Int, 2 ≤ n ∧ n ≤ 22 ∧ σ = [some (.int c), some (.int n)], ?_, ?_⟩
  ·
   refine ⟨_, rfl, _, _, rfl, rfl, ⟨by decide, by decide⟩, _, _, rfl, rfl, (by show (0 : Int) < 6; decide), rfl, _, rfl, ?_⟩
   refine ite2 (fun _ => ?_) (fun _ => ⟨rfl, _, by omega, by omega, rfl⟩)
   have d0 : 0 ≤ c / 36 % 2 := Int.emod_nonneg _ (by decide)
   have d1 : c / 36 % 2 < 2 := Int.emod_lt_of_pos _ (by decide)
   exact ⟨_, rfl, _, _, rfl, rfl, ⟨by decide, by decide⟩, _, _, rfl, rfl, (by show (0 : Int) < 2; decide), _, _, rfl, rfl, rfl, _, by omega, by omega, rfl⟩
  rintro _ H1 ⟨e1, n, n0, n1, rfl⟩
  obtain rfl := e1.symm
  refine ⟨_, rfl, n, rfl, by omega, by omega, ?_⟩
  refine comp_pure (seq_range 0 n.toNat H) (fun _ => true) (nmG (c / 6)) ?_ (fun x _ H' _ R hR => hR H' (Same.refl _)) ?_ (fun D H2 s2 hD0 hD => ?_)
  ·
   rw [List.length_map, List.length_range]
   omega
  ·
   intro x hx _ H' sm R hR
   obtain ⟨j, hj, rfl⟩ := List.mem_map.mp hx
   have hj2 := List.mem_range.mp hj
   refine ⟨_, rfl, _, rfl, _, _, rfl, rfl, ⟨by decide, by decide⟩, j, _, (by rw [show (0 + (j : Int)) = (j : Int) by omega]; rfl), by omega, fun H3 s3 => ?_⟩
   have q := hR H3 s3
   rw [show nmG ((c / 6)) (V.int (0 + (j : Int))) = .str (nmT ((c / 6)) j) from by show V.str (nmT ((c / 6)) (0 + (j : Int)).toNat) = _; rw [show (0 + (j : Int)).toNat = j by omega]] at q
   exact q
  rw [List.filter_eq_self.mpr (fun _ _ => rfl), nmG_vals] at hD
  refine ⟨D, _, rfl, hD, by rw [List.length_map, List.length_range]; omega, fun D2 ms hD2 hpm hsr => ?_⟩
  exact k D2 ms _ (s2.trans (same_upd hD2)) upd_same (nms_gen (n := n.toNat) (by omega) (by omega) hpm hsr)
theorem sc_law_some : FnScope ["_law_names", "_law_asker", "_law_seed", "_law_k", "_law_least", "_law_others", "_law_found"] ["_law_names", "_law_asker", "_law_seed", "_law_k", "_law_least"] (defScope s_law_some) := ⟨rfl, rfl, rfl, by decide +kernel, rfl, by decide +kernel, by decide +kernel⟩
theorem ok_law_some (T : Txt K mg a) : FnOk P w K mg base CX0 true 2 a.f_law_some a.d_law_some ["_law_names", "_law_asker", "_law_seed", "_law_k", "_law_least"] (sp_law_some) := by
 refine T.F_law_some.ok sc_law_some (fun vs H Q E h => ?_) (fun cdv A outer s H vs Q E hr h => ?_)
 · obtain ⟨L, ns, a, s, k, m, rfl, _⟩ := h; rfl
 ·
  obtain ⟨L, ns, a0, sd, kk, m, rfl, hL, hN, k0, k1, m0, m1, k⟩ := h
  refine ⟨_, (pss_cons (ps_set (i := 5) sc_law_some.nd rfl (Or.inr rfl) (pe_comp (N := ["_law_name", "_law_asker"]) (cap := [none, some 1]) (by show CompScope (defScope s_law_some) _ ["_law_names", "_law_asker", "_law_seed", "_law_k", "_law_least", "_law_others", "_law_found"] _ _; exact ⟨rfl, by decide +kernel, by decide +kernel, by decide +kernel, by decide +kernel, rfl, by decide +kernel⟩) rfl (pi_listK (K := K) rfl (pv 0)) (fun C s H fp => ⟨(pg_name (i := 0) (by show (["_law_name", "_law_asker"] : List Str).Nodup; decide +kernel) rfl (Or.inl rfl) (.inr rfl)), (pf_one (pt_cmpR op_ne (pv 0) (pv 1) (nomark _))), (pv 0)⟩)))
   (pss_cons (ps_setComp (i0 := 6) sc_law_some.nd rfl rfl (N := ["_law_at", "_law_others", "_law_seed", "_law_k"]) (cap := [none, some 5, some 2, some 3]) (by show CompScope (defScope s_law_some) _ ["_law_names", "_law_asker", "_law_seed", "_law_k", "_law_least", "_law_others", "_law_found"] _ _; exact ⟨rfl, by decide +kernel, by decide +kernel, by decide +kernel, by decide +kernel, rfl, by decide +kernel⟩) rfl (pi_range1 rfl T.n_range (pa_cons (pe_callB (call_len_seqK (K := K) rfl) rfl T.n_len (by decide +kernel) (pa_cons (pv 5) pa_nil)) pa_nil)) (fun C s H fp => ⟨(pg_name (i := 0) (by show (["_law_at", "_law_others", "_law_seed", "_law_k"] : List Str).Nodup; decide +kernel) rfl (Or.inl rfl) (.inr rfl)), (pf_one (pt_cmpR op_gt (pe_call ((ok_law_mixed T).mono (by decide)) hr rfl T.m_law_mixed T.F_law_mixed.kp T.b_law_mixed .nil pass0 (pa_cons (pv 2) (pa_cons (pe_op op_add (pe_op op_add (pv 3) pe_int) (pe_op op_mul pe_int (pv 0))) (pa_cons pe_int pa_nil)))) pe_int (nomark _))), (pe_ix (ix_listK (K := K) rfl) (pv 1) (pv 0) (fun _ _ => rfl))⟩))
   (pss_cut (ps_if (pt_cmpR op_lt (pe_callB (call_len_seqK (K := K) rfl) rfl T.n_len (by decide +kernel) (pa_cons (pv 6) pa_nil)) (pv 4) (nomark _)) (pss_one (ps_set (i := 6) sc_law_some.nd rfl (Or.inl rfl) (pv 5))) pss_nil)
   (pss_one (ps_ret (pe_callTy (call_tuple_ofK (K := K) rfl) rfl T.n_tuple (by decide +kernel) (pa_cons (pe_slice (sl_listK (K := K) rfl) (pv 6) po_none (po_some pe_int)) pa_nil))))))), ?_⟩
  refine ⟨_, rfl, L, rfl, ⟨_, SqL.of hL⟩, ?_⟩
  refine comp_pure (seq_list (K := K) (SqL.of hL)) (neF a0) (fun v => v) (by rw [List.length_map]; have := hN.hi; omega) ?_ (fun x _ _ H' _ R hR => ⟨_, rfl, hR H' (Same.refl _)⟩) (fun D H1 s1 hD0 hD => ?_)
  ·
   intro x hx H' sm R hR
   obtain ⟨t, ht, rfl⟩ := List.mem_map.mp hx
   refine ⟨_, rfl, _, rfl, rfl, _, rfl, ?_⟩
   have q := hR H' (Same.refl _)
   rw [show neF a0 (V.str t) = (!decide (t = a0)) from rfl] at q
   rw [show (!decide (V.str t = V.str a0)) = (!decide (t = a0)) from congrArg _ (decide_eq_decide.mpr (by rw [V.str.injEq]))]
   exact q
  rw [fil_strs] at hD
  obtain ⟨os, hos⟩ : ∃ os : List Str, os = ns.filter fun t => !decide (t = a0) := ⟨_, rfl⟩
  rw [← hos] at hD
  have hon : ∀ t ∈ os, NM t = true := fun t ht => hN.nm t (by rw [hos] at ht; exact (List.mem_filter.mp ht).1)
  have hor : riseS os = true := rise_sub hN.rise (by rw [hos]; exact List.filter_sublist)
  have hoa : ¬ a0 ∈ os := fun z => by rw [hos] at z; have := (List.mem_filter.mp z).2; simp at this
  have hpos := some_not hN.lo hN.nd a0
  rw [← hos] at hpos
  have hol : os.length ≤ 22 := Nat.le_trans (by rw [hos]; exact List.length_filter_le _ _) hN.hi
  refine ⟨_, rfl, D, _, rfl, .inl (SqL.of hD), (os.length : Int), by rw [List.length_map], by omega, by omega, ?_⟩
  refine comp_pure (seq_range 0 _ H1) (fndP sd kk) (fndV os) (by rw [List.length_map, List.length_range]; omega) ?_ ?_ (fun D2 H2 s2 hD20 hD2 => ?_)
  ·
   intro x hx H' sm R hR
   obtain ⟨j, hj, rfl⟩ := List.mem_map.mp hx
   have hj2 := List.mem_range.mp hj
   refine ⟨_, rfl, _, rfl, _, _, rfl, rfl, _, rfl, _, _, rfl, rfl, .inl ⟨by decide, by decide⟩, _, _, rfl, rfl, _, _, _, rfl, by omega, by omega, by decide, fun v _ _ hv => ⟨_, _, rfl, rfl, _, rfl, ?_⟩⟩
   have q := hR H' (Same.refl _)
   rw [hv]
   exact q
  ·
   intro x hx _ H' sm R hR
   obtain ⟨j, hj, rfl⟩ := List.mem_map.mp hx
   have hj2 := List.mem_range.mp hj
   have hj3 : j < os.length := by omega
   have et : atI (os.map V.str) (0 + (j : Int)) = some (.str (os.getD (0 + (j : Int)).toNat "")) := by rw [show (0 + (j : Int)).toNat = j by omega, show (0 + (j : Int)) = ((j : Nat) : Int) by omega]; exact getD_at hj3
   exact ⟨_, rfl, _, rfl, D, _, _, _, rfl, rfl, SqL.of (sm _ _ hD), et, hR _ (Same.refl _)⟩
  have hfs := fnd_sub os sd kk
  rw [fnd_vals] at hD2
  refine ⟨fun σ H' => H' = H2 ∧ ∃ (F : Addr) (gs : List Str), H2 F = some (.lst (gs.map V.str)) ∧ gs.Sublist os ∧ m ≤ gs.length ∧ gs = (if ((fndF os sd kk).length : Int) < m then os else fndF os sd kk) ∧ σ = [some (.ref L), some (.str a0), some (.int sd), some (.int kk), some (.int m), some (.ref D), some (.ref F)], ?_, ?_⟩
  ·
   refine ⟨_, rfl, D2, _, rfl, .inl (SqL.of hD2), _, rfl, _, _, rfl, rfl, _, rfl, ?_⟩
   rw [List.length_map]
   refine ite2 (fun z => ⟨_, rfl, rfl, D, os, s2 _ _ hD, List.Sublist.refl _, by omega, by rw [if_pos (of_decide_eq_true z)], rfl⟩) (fun z => ⟨rfl, D2, _, hD2, hfs, by have z' : ¬ (((fndF os sd kk).length : Nat) : Int) < m := fun y => z (decide_eq_true y); omega, by rw [if_neg (fun y => z (decide_eq_true y))], rfl⟩)
  rintro _ H3 ⟨e3, F, gs, hF, hgs, hgm, hge, rfl⟩
  obtain rfl := e3.symm
  refine ⟨_, rfl, _, rfl, F, _, rfl, SqL.of hF, fun l hl => ?_⟩
  have el : cutV (gs.map V.str) none (some 20) = (gs.take 20).map V.str := cut20 gs
  rw [el]
  refine ⟨l, _, rfl, .inl ⟨SqL.of upd_same, fun r hr0 => ?_⟩⟩
  have hsub : (gs.take 20).Sublist os := (List.take_sublist _ _).trans hgs
  exact k r _ _ (((s1.trans s2).trans (same_upd hl)).trans (same_upd hr0)) upd_same (hands_of (by rw [List.length_take]; omega) (by rw [List.length_take]; omega) (fun t ht => hon t (hsub.subset ht)) (rise_sub hor hsub) (fun z => hoa (hsub.subset z))) (by rw [hge, hos]; rfl)
theorem sc_law_answer_of : FnScope ["_law_seed", "_law_names", "_law_asker", "_law_number", "_law_turn", "_law_cell", "_law_others", "_law_hand", "_law_again", "_law_key_here"] ["_law_seed", "_law_names", "_law_asker", "_law_number", "_law_turn", "_law_cell"] (defScope s_law_answer_of) := ⟨rfl, rfl, rfl, by decide +kernel, rfl, by decide +kernel, by decide +kernel⟩
theorem ok_law_answer_of (T : Txt K mg a) : FnOk P w K mg base CX0 true 2 a.f_law_answer_of a.d_law_answer_of ["_law_seed", "_law_names", "_law_asker", "_law_number", "_law_turn", "_law_cell"] (DrawP (fun r => ∃ c : Int, r = [.int c])) := by
 refine T.F_law_answer_of.ok sc_law_answer_of (fun vs H Q E h => ?_) (fun cdv A outer s H vs Q E hr h => ?_)
 · obtain ⟨L, ns, a0, sd, n, t, r, rfl, ⟨c, rfl⟩, _⟩ := h; rfl
 ·
  obtain ⟨L, ns, a0, sd, n, t, r, rfl, ⟨c, rfl⟩, hL, hN, ha, n0, n1, t0, t1, k⟩ := h
  refine ⟨_, (pss_cons (ps_setComp (i0 := 6) sc_law_answer_of.nd rfl rfl (N := ["_law_name", "_law_asker"]) (cap := [none, some 2]) (by show CompScope (defScope s_law_answer_of) _ ["_law_seed", "_law_names", "_law_asker", "_law_number", "_law_turn", "_law_cell", "_law_others", "_law_hand", "_law_again", "_law_key_here"] _ _; exact ⟨rfl, by decide +kernel, by decide +kernel, by decide +kernel, by decide +kernel, rfl, by decide +kernel⟩) rfl (pi_listK (K := K) rfl (pv 1)) (fun C s H fp => ⟨(pg_name (i := 0) (by show (["_law_name", "_law_asker"] : List Str).Nodup; decide +kernel) rfl (Or.inl rfl) (.inr rfl)), (pf_one (pt_cmpR op_ne (pv 0) (pv 1) (nomark _))), (pv 0)⟩))
   (pss_cons (ps_set (i := 7) sc_law_answer_of.nd rfl (Or.inl rfl) (pe_ix (ix_listK (K := K) rfl) (pv 6) (pe_call ((ok_law_mixed T).mono (by decide)) hr rfl T.m_law_mixed T.F_law_mixed.kp T.b_law_mixed .nil pass0 (pa_cons (pv 5) (pa_cons pe_int (pa_cons (pe_callB (call_len_seqK (K := K) rfl) rfl T.n_len (by decide +kernel) (pa_cons (pv 6) pa_nil)) pa_nil)))) (fun _ _ => rfl)))
   (pss_cons (ps_set (i := 8) sc_law_answer_of.nd rfl (Or.inl rfl) (pe_call ((ok_law_mixed T).mono (by decide)) hr rfl T.m_law_mixed T.F_law_mixed.kp T.b_law_mixed .nil pass0 (pa_cons (pv 5) (pa_cons pe_int (pa_cons pe_int pa_nil)))))
   (pss_cut (ps_if (pt_cmpR op_eq (pe_call ((ok_law_mixed T).mono (by decide)) hr rfl T.m_law_mixed T.F_law_mixed.kp T.b_law_mixed .nil pass0 (pa_cons (pv 5) (pa_cons pe_int (pa_cons pe_int pa_nil)))) pe_int (nomark _)) (pss_one (ps_set (i := 8) sc_law_answer_of.nd rfl (Or.inl rfl) (pe_op op_add (pe_op op_pow pe_int pe_int) (pv 8)))) pss_nil)
   (pss_cons (ps_set (i := 9) sc_law_answer_of.nd rfl (Or.inl rfl) (pe_op op_add (pe_op op_add (pe_call ((ok_law_key T).mono (by decide)) hr rfl T.m_law_key T.F_law_key.kp T.b_law_key .nil pass0 (pa_cons (pv 0) (pa_cons (pv 1) (pa_cons (pv 2) (pa_cons (pv 3) (pa_cons (pv 4) pa_nil)))))) (pe_op op_mul pe_int (pe_bm PySem.F.plainAttrs_list PySem.F.slot_list_index PySem.F.type_list_index mt_indexF (pv 1) (pa_cons (pv 7) pa_nil)))) (pe_op op_mul (pv 8) pe_int)))
   (pss_one (ps_ret (pe_tup (pa_cons pe_str (pa_cons (pv 2) (pa_cons (pv 3) (pa_cons (pv 4) (pa_cons (pv 7) (pa_cons (pv 8) (pa_cons (pe_ix (ix_listK (K := K) rfl) (pe_lst (pa_lits [.str "yes", .str "no", .str "yes"] (by decide +kernel))) (pe_call ((ok_law_mixed T).mono (by decide)) hr rfl T.m_law_mixed T.F_law_mixed.kp T.b_law_mixed .nil pass0 (pa_cons (pv 9) (pa_cons pe_int (pa_cons pe_int pa_nil)))) (fun _ _ => rfl)) pa_nil))))))))))))))), ?_⟩
  have hna := hN.nm a0 ha
  refine ⟨_, rfl, L, rfl, ⟨_, SqL.of hL⟩, ?_⟩
  refine comp_pure (seq_list (K := K) (SqL.of hL)) (neF a0) (fun v => v) (by rw [List.length_map]; have := hN.hi; omega) ?_ (fun x _ _ H' _ R hR => ⟨_, rfl, hR H' (Same.refl _)⟩) (fun D H1 s1 hD0 hD => ?_)
  ·
   intro x hx H' sm R hR
   obtain ⟨t, ht, rfl⟩ := List.mem_map.mp hx
   refine ⟨_, rfl, _, rfl, rfl, _, rfl, ?_⟩
   have q := hR H' (Same.refl _)
   rw [show neF a0 (V.str t) = (!decide (t = a0)) from rfl] at q
   rw [show (!decide (V.str t = V.str a0)) = (!decide (t = a0)) from congrArg _ (decide_eq_decide.mpr (by rw [V.str.injEq]))]
   exact q
  rw [fil_strs] at hD
  obtain ⟨os, hos⟩ : ∃ os : List Str, os = ns.filter fun t => !decide (t = a0) := ⟨_, rfl⟩
  have hpos := some_not hN.lo hN.nd a0
  rw [← hos] at hD hpos
  have hon : ∀ t ∈ os, t ∈ ns := fun t ht => by rw [hos] at ht; exact (List.mem_filter.mp ht).1
  replace hL := s1 _ _ hL
  refine ⟨_, rfl, _, rfl, _, rfl, D, _, rfl, .inl (SqL.of hD), _, _, _, rfl, by decide, by decide, (by rw [List.length_map]; omega), fun v v0 v1 _ => ?_⟩
  rw [List.length_map] at v1
  obtain ⟨hd, hhd, et⟩ := atI_strs (ts := os) v0 v1
  have hnd := hN.nm hd (hon hd hhd)
  have hne : hd ≠ a0 := fun z => by rw [hos] at hhd; have := (List.mem_filter.mp hhd).2; simp [z] at this
  refine ⟨D, _, _, _, rfl, rfl, SqL.of hD, et, ?_⟩
  refine ⟨_, rfl, _, _, _, rfl, by decide, by decide, by decide, fun g g0 g1 _ => ?_⟩
  refine ⟨fun σ H' => H' = H1 ∧ ∃ g : Int, 0 ≤ g ∧ g ≤ 10 ^ 10 ∧ σ = [some (.int sd), some (.ref L), some (.str a0), some (.int n), some (.int t), some (.int c), some (.ref D), some (.str hd), some (.int g), none], ?_, ?_⟩
  ·
   refine ⟨_, rfl, _, _, _, rfl, by decide, by decide, by decide, fun u _ _ _ => ⟨rfl, _, rfl, ite2 (fun _ => ?_) (fun _ => ⟨rfl, g, g0, by omega, rfl⟩)⟩⟩
   refine ⟨_, _, rfl, rfl, ⟨by decide, by decide, by decide⟩, _, rfl, _, _, rfl, rfl, rfl, _, ?_, ?_, rfl⟩
   ·
    have : (10 : Int) ^ (9 : Int).toNat = 1000000000 := by decide
    rw [this]
    omega
   ·
    have : (10 : Int) ^ (9 : Int).toNat = 1000000000 := by decide
    rw [this]
    omega
  rintro _ H2 ⟨e2, g, g0, g1, rfl⟩
  obtain rfl := e2.symm
  refine ⟨_, rfl, _, rfl, _, rfl, _, rfl, _, rfl, L, ns, a0, sd, n, t, rfl, hL, hN, ha, fun key _ => ⟨_, rfl, .inl ⟨rfl, _, SqL.of hL⟩, _, rfl, L, ns, hd, rfl, rfl, SqL.of hL, hon hd hhd, ⟨_, _, rfl, rfl, .inl ⟨by decide, by decide⟩, _, _, rfl, rfl, _, rfl, _, _, rfl, rfl, .inr ⟨by decide, by decide⟩, _, _, rfl, rfl, ?_⟩⟩⟩
  refine ⟨_, rfl, _, rfl, _, rfl, _, rfl, _, rfl, (by show 3 ≤ sizeLine; decide), fun l hl => ⟨_, rfl, _, _, _, rfl, by decide, by decide, by decide, fun y y0 y1 _ => ?_⟩⟩
  obtain ⟨yn, hyn, ey⟩ := atI_strs (ts := ["yes", "no", "yes"]) y0 y1
  refine ⟨l, _, _, _, rfl, rfl, SqL.of upd_same, ey, (by show 7 ≤ sizeLine; decide), fun p hp => ?_⟩
  have big : (10 : Int) ^ 10 ≤ 10 ^ 18 := by decide
  have hyo := kw_yn yn hyn
  exact k p (.ans a0 n t hd g yn) _ ((s1.trans (same_upd hl)).trans (same_upd hp)) ⟨_, upd_same, rfl⟩ (ok_ans hna n0 t0 hnd hne g0 (by simp only [List.mem_cons, List.not_mem_nil, or_false] at hyn; rcases hyn with h | h | h <;> first | exact .inl h | exact .inr h)) True.intro rfl
theorem sc_is_called : FnScope ["value"] ["value"] (defScope s_is_called) := ⟨rfl, rfl, rfl, by decide +kernel, rfl, by decide +kernel, by decide +kernel⟩
theorem ok_is_called (T : Txt K mg a) : FnOk P w K mg base CX0 true 3 a.f_is_called a.d_is_called ["value"] (sp_is_called) := by
 refine T.F_is_called.ok sc_is_called (fun vs H Q E h => ?_) (fun cdv A outer s H vs Q E hr h => ?_)
 · obtain ⟨v, w, rfl, _⟩ := h; rfl
 ·
  obtain ⟨v, w, rfl, hw, k⟩ := h
  refine ⟨_, (pss_one (ps_ret (pe_and (pe_callB (call_isinstK (K := K) rfl) rfl T.n_isinstance (by decide +kernel) (pa_cons (pv 0) (pa_cons (pe_bltn (v := .ty "str") rfl T.n_str (by decide +kernel) rfl) pa_nil))) (pe_one (pe_call ((ok_is_name T).mono (by decide)) hr rfl T.m_is_name T.F_is_name.kp T.b_is_name .nil pass0 (pa_cons (pv 0) pa_nil)))))), ?_⟩
  cases w with
  | n => cases hw; exact ⟨_, rfl, _, _, _, _, rfl, TyOf.non, rfl, _, rfl, iteF (k H (Same.refl _))⟩
  | b x => cases hw; exact ⟨_, rfl, _, _, _, _, rfl, TyOf.bl _, rfl, _, rfl, iteF (k H (Same.refl _))⟩
  | i z => cases hw; exact ⟨_, rfl, _, _, _, _, rfl, TyOf.int _, rfl, _, rfl, iteF (k H (Same.refl _))⟩
  | s t => obtain ⟨rfl, ht⟩ := hw; exact ⟨_, rfl, _, _, _, _, rfl, TyOf.str _, rfl, _, rfl, iteT ⟨_, rfl, t, rfl, ht, k⟩⟩
  | ts l => obtain ⟨r, rfl, hr0, hl0, hl1⟩ := hw; exact ⟨_, rfl, _, _, _, _, rfl, TyOf.tup hr0, rfl, _, rfl, iteF (k H (Same.refl _))⟩
  | ti z => obtain ⟨r, rfl, hr0⟩ := hw; exact ⟨_, rfl, _, _, _, _, rfl, TyOf.tup hr0, rfl, _, rfl, iteF (k H (Same.refl _))⟩
theorem sc_is_off : FnScope ["letter"] ["letter"] (defScope s_is_off) := ⟨rfl, rfl, rfl, by decide +kernel, rfl, by decide +kernel, by decide +kernel⟩
theorem ok_is_off (T : Txt K mg a) : FnOk P w K mg base CX0 true 3 a.f_is_off a.d_is_off ["letter"] (LetP offW) := by
 refine T.F_is_off.ok sc_is_off (fun vs H Q E h => ?_) (fun cdv A outer s H vs Q E hr h => ?_)
 · obtain ⟨p, ps, a0, rfl, _⟩ := h; rfl
 ·
  obtain ⟨p, ps, a0, rfl, hp, h4, h1, k⟩ := h
  refine ⟨_, (pss_one (ps_ret (pe_and (pe_cmpR op_eq (pe_callB (call_len_seqK (K := K) rfl) rfl T.n_len (by decide +kernel) (pa_cons (pv 0) pa_nil)) pe_int (nomark _)) (pe_one (pe_call ((ok_is_from T).mono (by decide)) hr rfl T.m_is_from T.F_is_from.kp T.b_is_from .nil pass0 (pa_cons (pe_ix (ix_tupK (K := K) rfl) (pv 0) pe_int (fun _ _ => rfl)) (pa_cons pe_int pa_nil))))))), ?_⟩
  have fin : ∀ b, b = offW (ws ps) → ∀ H', Same H H' → Q (.bl b) H' := fun b e => by rw [e]; exact k
  have wl := ws_len ps
  obtain ⟨v3, A3, w3⟩ := hp.get (j := 3) (by omega)
  refine ⟨_, rfl, p, _, rfl, .inr (SqT.of hp.at_), rfl, _, rfl, ?_⟩
  rw [vint, vs_len]
  by_cases h : ps.length = 4
  case neg => rw [decide_eq_false (by omega)]; exact iteF (fin _ (by unfold offW; rw [decide_eq_false (by omega), Bool.false_and]) H (Same.refl _))
  rw [decide_eq_true (by omega)]
  exact iteT ⟨_, rfl, p, _, _, _, rfl, rfl, SqT.of hp.at_, A3, v3, _, 2, rfl, w3, fin _ (by unfold offW; rw [decide_eq_true (by omega), Bool.true_and]) H (Same.refl _)⟩
theorem sc_latest_of : FnScope ["letters", "found"] ["letters"] (defScope s_latest_of) := ⟨rfl, rfl, rfl, by decide +kernel, rfl, by decide +kernel, by decide +kernel⟩
theorem ok_latest_of (T : Txt K mg a) : FnOk P w K mg base CX0 true 3 a.f_latest_of a.d_latest_of ["letters"] (sp_latest_of) := by
 refine T.F_latest_of.ok sc_latest_of (fun vs H Q E h => ?_) (fun cdv A outer s H vs Q E hr h => ?_)
 · obtain ⟨L, ms, rfl, _⟩ := h; rfl
 ·
  obtain ⟨L, ms, rfl, hL, k⟩ := h
  refine ⟨_, (pss_cons (ps_setComp (i0 := 1) sc_latest_of.nd rfl rfl (N := ["letter"]) (cap := [none]) (by show CompScope (defScope s_latest_of) _ ["letters", "found"] _ _; exact ⟨rfl, by decide +kernel, by decide +kernel, by decide +kernel, by decide +kernel, rfl, by decide +kernel⟩) rfl (pi_listK (K := K) rfl (pv 0)) (fun C s H fp => ⟨(pg_name (i := 0) (by show (["letter"] : List Str).Nodup; decide +kernel) rfl (Or.inl rfl) (.inr rfl)), (pf_one (PW.pt (pw_or (pt_cmpR (op_eqW (hu_of hr)) (pe_ix (ix_tupK (K := K) rfl) (pv 0) pe_int (fun _ _ => rfl)) pe_str (nomark _)) (pw_or1 (pt_cmpR (op_eqW (hu_of hr)) (pe_ix (ix_tupK (K := K) rfl) (pv 0) pe_int (fun _ _ => rfl)) pe_str (nomark _)))))), (pv 0)⟩))
   (pss_one (ps_ret (pe_ifExp (pt_truth (pv 1) (fun _ => rfl)) (pe_maxKey rfl (ok_turn_first T) (hr.mono (by decide)) T.b_turn_first rfl T.n_max rfl T.m_turn_first (pv 1)) pe_non)))), ?_⟩
  refine ⟨_, rfl, L, rfl, ⟨_, SqL.of hL.at_⟩, ?_⟩
  refine comp_pure (seq_list (K := K) (SqL.of hL.at_)) (boF ms) (fun v => v) (by rw [List.length_map]; have := hL.few; omega) ?_ (fun x _ _ H' _ R hR => ⟨_, rfl, hR H' (Same.refl _)⟩) (fun D H1 s1 hD0 hD => ?_)
  ·
   intro x hx H' sm R hR
   obtain ⟨m, hm, rfl⟩ := List.mem_map.mp hx
   have hq := hR H' (Same.refl _)
   rw [boF_at hL.ok hm, bo_kind] at hq
   obtain ⟨zs, hp, hv⟩ := (hL.ok m hm).up sm
   obtain ⟨r, rfl⟩ := hv.four
   refine ⟨_, rfl, m.2, _, _, _, rfl, rfl, SqT.of hp, at_0, _, rfl, .inl ⟨rfl, _, rfl, ?_⟩⟩
   rw [str_dec]
   refine ite2 (fun z => ?_) (fun z => ?_)
   ·
    rw [z, Bool.true_or] at hq
    exact hq
   ·
    rw [Bool.eq_false_iff.mpr z, Bool.false_or] at hq
    refine ⟨_, rfl, m.2, _, _, _, rfl, rfl, SqT.of hp, at_0, _, rfl, .inl ⟨rfl, _, rfl, ?_⟩⟩
    rw [str_dec]
    exact hq
  have hG : ∀ z ∈ ((ms.map fun x => V.ref x.2).filter (boF ms)).map fun v => v, ∃ x ∈ ms, z = V.ref x.2 ∧ x.1.bo = true := fun z hz => by
   obtain ⟨y, hy, rfl⟩ := List.mem_map.mp hz
   obtain ⟨h1, h2⟩ := List.mem_filter.mp hy
   obtain ⟨x, hx, rfl⟩ := List.mem_map.mp h1
   rw [boF_at hL.ok hx] at h2
   exact ⟨x, hx, rfl, h2⟩
  have hA : ∀ x ∈ ms, x.1.bo = true → V.ref x.2 ∈ ((ms.map fun x => V.ref x.2).filter (boF ms)).map fun v => v := fun x hx e => by
   rw [List.map_id'' (fun _ => rfl)]
   exact List.mem_filter.mpr ⟨List.mem_map_of_mem (f := fun x : Lt × Addr => V.ref x.2) hx, by rw [boF_at hL.ok hx]; exact e⟩
  generalize (((ms.map fun x => V.ref x.2).filter (boF ms)).map fun v => v) = ys at hD hG hA
  cases ys with
  |
   nil =>
   refine ⟨_, rfl, _, .inl ⟨_, SqL.of hD, rfl⟩, iteF (k _ H1 s1 (.inl ⟨rfl, fun x hx => ?_⟩))⟩
   obtain ⟨y, hy, rfl⟩ := List.mem_map.mp hx
   cases e : y.1.bo with
   | false => rfl
   | true => exact nomatch hA y hy e
  | cons y ys =>
  refine ⟨_, rfl, _, .inl ⟨_, SqL.of hD, rfl⟩, iteT ?_⟩
  have hG' : ∀ H', Same H1 H' → ∀ z ∈ y :: ys, ∃ x ∈ ms, z = V.ref x.2 ∧ LtAt H' x.1 x.2 := fun H' s' z hz => by
   obtain ⟨x, hx, e, _⟩ := hG z hz
   exact ⟨x, hx, e, (hL.ok x hx).up (s1.trans s')⟩
  refine ⟨_, rfl, D, y, ys, fun z H' w => ∃ (p q : Addr) (l : Lt), z = .ref p ∧ w = .ref q ∧ LtAt H' l p ∧ H' q = some (.tup [.int l.turn, .ref p]), fun z z' => gtTurn (codeOf ms z) (codeOf ms z'), rfl, hD, ?_, ?_, ?_, ?_⟩
  ·
   intro z hz H' s'
   obtain ⟨x, hx, rfl, hl⟩ := hG' H' s' z hz
   exact ⟨x.2, x.1, rfl, hl, fun q hq => ⟨same_upd hq, x.2, q, x.1, rfl, rfl, hl.up (same_upd hq), upd_same⟩⟩
  ·
   rintro z H2 H3 w s' ⟨p, q, l, rfl, rfl, h1, h2⟩
   exact ⟨p, q, l, rfl, rfl, h1.up s', s' _ _ h2⟩
  ·
   rintro z hz z' hz' H' w w' s' ⟨p, q, l, rfl, rfl, h1, h2⟩ ⟨p', q', l', rfl, rfl, h1', h2'⟩
   obtain ⟨x, hx, e, hl⟩ := hG' H' s' _ hz
   obtain ⟨x', hx', e', hl'⟩ := hG' H' s' _ hz'
   cases e
   cases e'
   have e1 : x.1 = l := LtAt.inj hl h1
   have e2 : x'.1 = l' := LtAt.inj hl' h1'
   show GtV _ H' _ _ (gtTurn (codeOf ms (.ref x.2)) (codeOf ms (.ref x'.2)))
   rw [code_is hL.ok hx, code_is hL.ok hx', e1, e2]
   exact gtv_turn (hu3 hr) h2 h2' h1.nk h1'.nk (Lt.ok _ _)
  ·
   intro H' s'
   have top := maxBy_top (gt := fun z z' => gtTurn (codeOf ms z) (codeOf ms z')) (fun _ => gtT_irr _) (fun _ _ _ => gtT_neg _ _ _) (fun _ _ => gtT_asym _ _) (xs := ys) (b := y)
   have hmx : ∃ x ∈ ms, maxBy (fun z z' => gtTurn (codeOf ms z) (codeOf ms z')) y ys = V.ref x.2 ∧ x.1.bo = true := by
    rcases maxBy_mem (gt := fun z z' => gtTurn (codeOf ms z) (codeOf ms z')) (xs := ys) (b := y) with e | e
    · rw [e]; exact hG y (List.mem_cons_self ..)
    · exact hG _ (List.mem_cons_of_mem _ e)
   obtain ⟨x, hx, ex, bx⟩ := hmx
   refine k _ _ (s1.trans s') (.inr ⟨x, hx, ex, List.mem_map_of_mem hx, bx, fun u hu bu => ?_⟩)
   obtain ⟨v, hv, rfl⟩ := List.mem_map.mp hu
   have := top _ (hA v hv bu)
   rw [ex] at this
   have t := gtT_le this
   rw [code_is hL.ok hx, code_is hL.ok hv] at t
   exact t
theorem sc_law_bid_of : FnScope ["_law_seed", "_law_names", "_law_asker", "_law_number", "_law_turn", "_law_key_here", "_law_begin", "_law_end"] ["_law_seed", "_law_names", "_law_asker", "_law_number", "_law_turn"] (defScope s_law_bid_of) := ⟨rfl, rfl, rfl, by decide +kernel, rfl, by decide +kernel, by decide +kernel⟩
theorem ok_law_bid_of (T : Txt K mg a) : FnOk P w K mg base CX0 true 3 a.f_law_bid_of a.d_law_bid_of ["_law_seed", "_law_names", "_law_asker", "_law_number", "_law_turn"] (DrawP (fun r => r = [])) := by
 refine T.F_law_bid_of.ok sc_law_bid_of (fun vs H Q E h => ?_) (fun cdv A outer s H vs Q E hr h => ?_)
 · obtain ⟨L, ns, a0, sd, n, t, r, rfl, rfl, _⟩ := h; rfl
 ·
  obtain ⟨L, ns, a0, sd, n, t, r, rfl, rfl, hL, hN, ha, n0, n1, t0, t1, k⟩ := h
  refine ⟨_, (pss_cons (ps_set (i := 5) sc_law_bid_of.nd rfl (Or.inl rfl) (pe_call ((ok_law_key T).mono (by decide)) hr rfl T.m_law_key T.F_law_key.kp T.b_law_key .nil pass0 (pa_cons (pv 0) (pa_cons (pv 1) (pa_cons (pv 2) (pa_cons (pv 3) (pa_cons (pv 4) pa_nil)))))))
   (pss_cut (ps_if (PW.pt (pw_and (pt_cmpR op_gt (pv 4) pe_int (nomark _)) (pw_and1 (pt_cmpR op_eq (pe_call ((ok_law_mixed T).mono (by decide)) hr rfl T.m_law_mixed T.F_law_mixed.kp T.b_law_mixed .nil pass0 (pa_cons (pv 5) (pa_cons pe_int (pa_cons pe_int pa_nil)))) pe_int (nomark _))))) (pss_one (ps_ret (pe_tup (pa_cons pe_str (pa_cons (pv 2) (pa_cons (pv 3) (pa_cons (pv 4) pa_nil))))))) pss_nil)
   (pss_cons (ps_set (i := 6) sc_law_bid_of.nd rfl (Or.inl rfl) (pe_op op_sub (pe_call ((ok_law_mixed T).mono (by decide)) hr rfl T.m_law_mixed T.F_law_mixed.kp T.b_law_mixed .nil pass0 (pa_cons (pv 5) (pa_cons pe_int (pa_cons pe_int pa_nil)))) pe_int))
   (pss_cut (ps_if (pt_cmpR op_eq (pe_call ((ok_law_mixed T).mono (by decide)) hr rfl T.m_law_mixed T.F_law_mixed.kp T.b_law_mixed .nil pass0 (pa_cons (pv 5) (pa_cons pe_int (pa_cons pe_int pa_nil)))) pe_int (nomark _)) (pss_one (ps_set (i := 6) sc_law_bid_of.nd rfl (Or.inl rfl) (pe_op op_mul (pv 6) (pe_op op_pow pe_int pe_int)))) pss_nil)
   (pss_cons (ps_set (i := 7) sc_law_bid_of.nd rfl (Or.inl rfl) (pe_op op_add (pe_op op_add (pv 6) pe_int) (pe_call ((ok_law_mixed T).mono (by decide)) hr rfl T.m_law_mixed T.F_law_mixed.kp T.b_law_mixed .nil pass0 (pa_cons (pv 5) (pa_cons pe_int (pa_cons (pe_ix (ix_listK (K := K) rfl) (pe_lst (pa_lits [.int 1, .int 30, .int 3000] (by decide +kernel))) (pe_call ((ok_law_mixed T).mono (by decide)) hr rfl T.m_law_mixed T.F_law_mixed.kp T.b_law_mixed .nil pass0 (pa_cons (pv 5) (pa_cons pe_int (pa_cons pe_int pa_nil)))) (fun _ _ => rfl)) pa_nil))))))
   (pss_one (ps_ret (pe_tup (pa_cons pe_str (pa_cons (pv 2) (pa_cons (pv 3) (pa_cons (pv 4) (pa_cons (pv 6) (pa_cons (pv 7) (pa_cons (pe_call ((ok_law_some T).mono (by decide)) hr rfl T.m_law_some T.F_law_some.kp T.b_law_some .nil pass0 (pa_cons (pv 1) (pa_cons (pv 2) (pa_cons (pv 5) (pa_cons pe_int (pa_cons pe_int pa_nil)))))) pa_nil))))))))))))))), ?_⟩
  have hna := hN.nm a0 ha
  refine ⟨_, rfl, _, rfl, _, rfl, _, rfl, _, rfl, L, ns, a0, sd, n, t, rfl, hL, hN, ha, fun key hkey => ?_⟩
  refine ⟨fun σ H' => H' = H ∧ ¬ (1 < t ∧ mixF key 1 6 = 1) ∧ σ = [some (.int sd), some (.ref L), some (.str a0), some (.int n), some (.int t), some (.int key), none, none], ?_, ?_⟩
  ·
   refine ⟨_, rfl, _, _, rfl, rfl, _, rfl, ite2 (fun z1 => ?_) (fun z1 => iteF ⟨rfl, fun z => z1 (decide_eq_true z.1), rfl⟩)⟩
   have z2 : 1 < t := of_decide_eq_true z1
   refine ⟨_, rfl, _, _, _, rfl, by decide, by decide, by decide, fun v _ _ hv => ⟨rfl, _, rfl, ite2 (fun z3 => ?_) (fun z3 => ⟨rfl, fun z => z3 (decide_eq_true (by rw [hv, z.2])), rfl⟩)⟩⟩
   exact ⟨_, rfl, _, rfl, _, rfl, (by show 4 ≤ sizeLine; decide), fun p hp => k p (.off a0 n t) _ (same_upd hp) ⟨_, upd_same, rfl⟩ (ok_off hna n0 (by omega)) (by show Lt.off a0 n t = bidK (keyF sd ns a0 n t) ns a0 n t; unfold bidK; rw [← hkey, if_pos ⟨z2, by rw [← hv]; exact V.int.inj (of_decide_eq_true z3)⟩]) rfl⟩
  rintro _ H1 ⟨e1, hno, rfl⟩
  obtain rfl := e1.symm
  refine ⟨_, rfl, _, _, _, rfl, by decide, by decide, by decide, fun v v0 v1 hv => ⟨_, _, rfl, rfl, ?_⟩⟩
  refine ⟨fun σ H' => H' = H ∧ ∃ b : Int, -(10 ^ 16) ≤ b ∧ b ≤ 10 ^ 16 ∧ b = begF key ∧ σ = [some (.int sd), some (.ref L), some (.str a0), some (.int n), some (.int t), some (.int key), some (.int b), none], ?_, ?_⟩
  ·
   refine ⟨_, rfl, _, _, _, rfl, by decide, by decide, by decide, fun u _ _ hu => ⟨rfl, _, rfl, ite2 (fun z => ?_) (fun z => ⟨rfl, _, by omega, by omega, by unfold begF; rw [if_neg (fun y => z (decide_eq_true (by rw [hu, y]))), hv], rfl⟩)⟩⟩
   refine ⟨_, rfl, _, _, rfl, rfl, ⟨by decide, by decide, by decide⟩, _, _, rfl, rfl, .inl ⟨by omega, by omega⟩, rfl, _, ?_, ?_, (by unfold begF; rw [if_pos (by rw [← hu]; exact V.int.inj (of_decide_eq_true z)), hv]), rfl⟩
   ·
    have : (10 : Int) ^ (12 : Int).toNat = 1000000000000 := by decide
    rw [this]
    omega
   ·
    have : (10 : Int) ^ (12 : Int).toNat = 1000000000000 := by decide
    rw [this]
    omega
  rintro _ H1 ⟨e1, b, b0, b1, hb, rfl⟩
  obtain rfl := e1.symm
  clear v0 v1 hv v
  refine ⟨_, rfl, _, _, rfl, rfl, _, rfl, (by show 3 ≤ sizeLine; decide), fun l hl => ⟨_, rfl, _, _, _, rfl, by decide, by decide, by decide, fun v v0 v1 hv => ?_⟩⟩
  obtain ⟨wd, w0, w1, we⟩ := atI_pick (ts := [1, 30, 3000]) (i := v) 1 3000 v0 v1 (by decide)
  refine ⟨l, _, _, _, rfl, rfl, SqL.of upd_same, we, _, _, _, rfl, by decide, by decide, by omega, fun e e0 e1 he => ⟨_, _, rfl, rfl, ?_⟩⟩
  have s1 := same_upd (o := .lst [.int 1, .int 30, .int 3000]) hl
  replace hL := s1 _ _ hL
  generalize upd H l (.lst [.int 1, .int 30, .int 3000]) = H1 at *
  refine ⟨_, rfl, _, rfl, _, rfl, _, rfl, _, rfl, _, rfl, _, rfl, _, rfl, L, ns, a0, _, _, _, rfl, hL, hN, by decide, by decide, by decide, by decide, fun r l H2 s2 hr hl hso => ⟨(by show 7 ≤ sizeLine; decide), fun p hp => ?_⟩⟩
  have s3 := same_upd (o := .tup [.str "bid", .str a0, .int n, .int t, .int b, .int (b + 1 + e), .ref r]) hp
  have big : (10 : Int) ^ 16 + 4000 ≤ 10 ^ 18 := by decide
  exact k p (.bid a0 n t b (b + 1 + e) l) _ ((s1.trans s2).trans s3) ⟨_, upd_same, r, rfl, s3 _ _ hr⟩ (ok_bid hna n0 t0 (by omega) hl) (by show Lt.bid a0 n t b (b + 1 + e) l = bidK (keyF sd ns a0 n t) ns a0 n t; unfold bidK; rw [← hkey, if_neg hno, ← hb, he, pick3_at v0 v1 we, hv, hso]) rfl
theorem sc_law_close_of : FnScope ["_law_seed", "_law_names", "_law_asker", "_law_number", "_law_turn", "_law_key_here", "_law_hands"] ["_law_seed", "_law_names", "_law_asker", "_law_number", "_law_turn"] (defScope s_law_close_of) := ⟨rfl, rfl, rfl, by decide +kernel, rfl, by decide +kernel, by decide +kernel⟩
theorem ok_law_close_of (T : Txt K mg a) : FnOk P w K mg base CX0 true 3 a.f_law_close_of a.d_law_close_of ["_law_seed", "_law_names", "_law_asker", "_law_number", "_law_turn"] (DrawP (fun r => r = [])) := by
 refine T.F_law_close_of.ok sc_law_close_of (fun vs H Q E h => ?_) (fun cdv A outer s H vs Q E hr h => ?_)
 · obtain ⟨L, ns, a0, sd, n, t, r, rfl, rfl, _⟩ := h; rfl
 ·
  obtain ⟨L, ns, a0, sd, n, t, r, rfl, rfl, hL, hN, ha, n0, n1, t0, t1, k⟩ := h
  refine ⟨_, (pss_cons (ps_set (i := 5) sc_law_close_of.nd rfl (Or.inl rfl) (pe_call ((ok_law_key T).mono (by decide)) hr rfl T.m_law_key T.F_law_key.kp T.b_law_key .nil pass0 (pa_cons (pv 0) (pa_cons (pv 1) (pa_cons (pv 2) (pa_cons (pv 3) (pa_cons (pv 4) pa_nil)))))))
   (pss_cons (ps_set (i := 6) sc_law_close_of.nd rfl (Or.inl rfl) (pe_call ((ok_law_some T).mono (by decide)) hr rfl T.m_law_some T.F_law_some.kp T.b_law_some .nil pass0 (pa_cons (pv 1) (pa_cons (pv 2) (pa_cons (pv 5) (pa_cons pe_int (pa_cons pe_int pa_nil)))))))
   (pss_cut (ps_if (pt_cmpR op_eq (pe_call ((ok_law_mixed T).mono (by decide)) hr rfl T.m_law_mixed T.F_law_mixed.kp T.b_law_mixed .nil pass0 (pa_cons (pv 5) (pa_cons pe_int (pa_cons pe_int pa_nil)))) pe_int (nomark _)) (pss_one (ps_set (i := 6) sc_law_close_of.nd rfl (Or.inl rfl) (pe_tup pa_nil))) pss_nil)
   (pss_one (ps_ret (pe_tup (pa_cons pe_str (pa_cons (pv 2) (pa_cons (pv 3) (pa_cons (pv 4) (pa_cons (pv 6) pa_nil))))))))))), ?_⟩
  have hna := hN.nm a0 ha
  refine ⟨_, rfl, _, rfl, _, rfl, _, rfl, _, rfl, L, ns, a0, sd, n, t, rfl, hL, hN, ha, fun key hkey => ?_⟩
  refine ⟨_, rfl, _, rfl, _, rfl, L, ns, a0, _, _, _, rfl, hL, hN, by decide, by decide, by decide, by decide, fun r l H1 s1 hr hl hso => ?_⟩
  refine ⟨fun σ H' => Same H H' ∧ ∃ (r : Addr) (l : List Str), H' r = some (.tup (l.map V.str)) ∧ handsW NM (.ts l) a0 0 = true ∧ l = closeK key ns a0 ∧ σ = [some (.int sd), some (.ref L), some (.str a0), some (.int n), some (.int t), some (.int key), some (.ref r)], ?_, ?_⟩
  ·
   refine ⟨_, rfl, _, _, _, rfl, by decide, by decide, by decide, fun u _ _ hu => ⟨rfl, _, rfl, ite2 (fun z => ?_) (fun z => ⟨s1, r, l, hr, hl, by unfold closeK; rw [if_neg (fun y => z (decide_eq_true (by rw [hu, y])))]; exact hso, rfl⟩)⟩⟩
   exact ⟨(by show 0 ≤ sizeLine; decide), fun q hq => ⟨s1.trans (same_upd hq), q, [], upd_same, hands_of (by decide) (by decide) (fun _ z => nomatch z) rfl (fun z => nomatch z), (by unfold closeK; rw [if_pos (by rw [← hu]; exact V.int.inj (of_decide_eq_true z))]), rfl⟩⟩
  rintro _ H2 ⟨s2, r, l, hr, hl, hcl, rfl⟩
  refine ⟨_, rfl, _, rfl, _, rfl, _, rfl, (by show 5 ≤ sizeLine; decide), fun p hp => ?_⟩
  have s3 := same_upd (o := .tup [.str "close", .str a0, .int n, .int t, .ref r]) hp
  exact k p (.close a0 n t l) _ (s2.trans s3) ⟨_, upd_same, r, rfl, s3 _ _ hr⟩ (ok_close hna n0 t0 hl) (by show l = closeK (keyF sd ns a0 n t) ns a0; rw [← hkey]; exact hcl) rfl
theorem sc_are_hands : FnScope ["value", "asker", "least"] ["value", "asker", "least"] (defScope s_are_hands) := ⟨rfl, rfl, rfl, by decide +kernel, rfl, by decide +kernel, by decide +kernel⟩
theorem ok_are_hands (T : Txt K mg a) : FnOk P w K mg base CX0 true 4 a.f_are_hands a.d_are_hands ["value", "asker", "least"] (sp_are_hands) := by
 refine T.F_are_hands.ok sc_are_hands (fun vs H Q E h => ?_) (fun cdv A outer s H vs Q E hr h => ?_)
 · obtain ⟨v, w, a0, m, rfl, _⟩ := h; rfl
 ·
  obtain ⟨v, w, a0, m, rfl, hw, k⟩ := h
  refine ⟨_, (pss_cons (ps_if (PW.pt (pw_or (pt_not (pt_val (pe_callB (call_isinstK (K := K) rfl) rfl T.n_isinstance (by decide +kernel) (pa_cons (pv 0) (pa_cons (pe_bltn (v := .ty "tuple") rfl T.n_tuple (by decide +kernel) rfl) pa_nil))))) (pw_or (pt_cmpR op_lt (pe_callB (call_len_seqK (K := K) rfl) rfl T.n_len (by decide +kernel) (pa_cons (pv 0) pa_nil)) (pv 2) (nomark _)) (pw_or1 (pt_cmpR op_gt (pe_callB (call_len_seqK (K := K) rfl) rfl T.n_len (by decide +kernel) (pa_cons (pv 0) pa_nil)) (pe_globI rfl T.g_MOST_HANDS) (nomark _)))))) (pss_one (ps_ret pe_bl)) pss_nil)
   (pss_cons (ps_if (pt_not (pt_val (pe_callB (call_allK (K := K) rfl rfl) rfl T.n_all (by decide +kernel) (pa_cons (pe_comp (N := ["hand"]) (cap := [none]) (by show CompScope (defScope s_are_hands) _ ["value", "asker", "least"] _ _; exact ⟨rfl, by decide +kernel, by decide +kernel, by decide +kernel, by decide +kernel, rfl, by decide +kernel⟩) rfl (pi_tupK (K := K) rfl (pv 0)) (fun C s H fp => ⟨(pg_name (i := 0) (by show (["hand"] : List Str).Nodup; decide +kernel) rfl (Or.inl rfl) (.inr rfl)), pf_none, (pe_call ((ok_is_called T).mono (by decide)) hr rfl T.m_is_called T.F_is_called.kp T.b_is_called .nil pass0 (pa_cons (pv 0) pa_nil))⟩)) pa_nil)))) (pss_one (ps_ret pe_bl)) pss_nil)
   (pss_one (ps_ret (pe_and (pe_call ((ok_is_rising T).mono (by decide)) hr rfl T.m_is_rising T.F_is_rising.kp T.b_is_rising .nil pass0 (pa_cons (pv 0) pa_nil)) (pe_one (pe_cmpR (op_notIn_seqK (K := K) rfl) (pv 1) (pv 0) (by with_unfolding_all rfl)))))))), ?_⟩
  cases w with
  | n => cases hw; exact ⟨_, rfl, _, _, _, _, rfl, TyOf.non, rfl, _, rfl, ite2 (fun _ => iteT (k H (Same.refl _))) (fun z => absurd rfl z)⟩
  | b x => cases hw; exact ⟨_, rfl, _, _, _, _, rfl, TyOf.bl _, rfl, _, rfl, ite2 (fun _ => iteT (k H (Same.refl _))) (fun z => absurd rfl z)⟩
  | i z => cases hw; exact ⟨_, rfl, _, _, _, _, rfl, TyOf.int _, rfl, _, rfl, ite2 (fun _ => iteT (k H (Same.refl _))) (fun z => absurd rfl z)⟩
  | s t => obtain ⟨rfl, ht⟩ := hw; exact ⟨_, rfl, _, _, _, _, rfl, TyOf.str _, rfl, _, rfl, ite2 (fun _ => iteT (k H (Same.refl _))) (fun z => absurd rfl z)⟩
  |
   ti z =>
   obtain ⟨r, rfl, hr0⟩ := hw
   refine ⟨_, rfl, _, _, _, _, rfl, TyOf.tup hr0, rfl, _, rfl, ite2 (fun z => absurd z (by decide)) (fun _ => ?_)⟩
   refine ⟨_, rfl, r, _, rfl, .inr (SqT.of hr0), _, rfl, _, _, rfl, rfl, _, rfl, ite2 (fun _ => iteT (k H (Same.refl _))) (fun _ => ?_)⟩
   refine ⟨_, rfl, r, _, rfl, .inr (SqT.of hr0), _, _, rfl, rfl, _, rfl, ite2 (fun _ => (k H (Same.refl _))) (fun _ => ?_)⟩
   refine ⟨_, rfl, r, rfl, ⟨_, SqT.of hr0⟩, ?_⟩
   refine comp_pure (seq_tup (SqT.of hr0)) (fun _ => true) nmF (by show 1 ≤ 100000; decide) (fun x _ H' _ R hR => hR H' (Same.refl _)) ?_ (fun D H1 s1 hD0 hD => ?_)
   ·
    intro x hx _ H' sm R hR
    rw [List.mem_singleton] at hx
    subst hx
    exact ⟨_, rfl, _, .i z, rfl, rfl, fun H2 s2 => hR H2 s2⟩
   refine ⟨D, [false], rfl, SqL.of hD, _, rfl, ite2 (fun _ => k H1 s1) (fun z => absurd rfl z)⟩
  |
   ts l =>
   obtain ⟨r, rfl, hr0, hl0, hl1⟩ := hw
   refine ⟨_, rfl, _, _, _, _, rfl, TyOf.tup hr0, rfl, _, rfl, ite2 (fun z => absurd z (by decide)) (fun _ => ?_)⟩
   refine ⟨_, rfl, r, _, rfl, .inr (SqT.of hr0), _, rfl, _, _, rfl, rfl, _, rfl, ?_⟩
   rw [List.length_map]
   have fin : ∀ b, b = handsW NM (.ts l) a0 m → ∀ H', Same H H' → Q (.bl b) H' := fun b e => by rw [e]; exact k
   refine ite2 (fun z => iteT ?_) (fun z => ?_)
   ·
    have z' : (l.length : Int) < (m : Int) := of_decide_eq_true z
    exact fin _ (hands_few (by omega)) H (Same.refl _)
   have z1 : ¬ (l.length : Int) < (m : Int) := fun w => z (decide_eq_true w)
   refine ⟨_, rfl, r, _, rfl, .inr (SqT.of hr0), _, _, rfl, rfl, _, rfl, ?_⟩
   rw [List.length_map]
   refine ite2 (fun z => ?_) (fun z => ?_)
   ·
    have z' : (20 : Int) < (l.length : Int) := of_decide_eq_true z
    exact fin _ (hands_many (by omega)) H (Same.refl _)
   have z2 : ¬ (20 : Int) < (l.length : Int) := fun w => z (decide_eq_true w)
   refine ⟨_, rfl, r, rfl, ⟨_, SqT.of hr0⟩, ?_⟩
   refine comp_pure (seq_tup (SqT.of hr0)) (fun _ => true) nmF (by rw [List.length_map]; omega) (fun x _ H' _ R hR => hR H' (Same.refl _)) ?_ (fun D H1 s1 hD0 hD => ?_)
   ·
    intro x hx _ H' sm R hR
    obtain ⟨t, ht, rfl⟩ := List.mem_map.mp hx
    exact ⟨_, rfl, _, .s t, rfl, ⟨rfl, hl1 t ht⟩, fun H2 s2 => hR H2 s2⟩
   have hD' : H1 D = some (.lst ((l.map NM).map V.bl)) := by rw [hD, List.filter_eq_self.mpr (fun _ _ => rfl), List.map_map, List.map_map]; rfl
   refine ⟨D, _, rfl, SqL.of hD', ?_⟩
   rw [List.all_map]
   by_cases hn : l.all NM = true
   case neg => exact ⟨_, rfl, ite2 (fun _ => fin _ (hands_nm (Bool.eq_false_iff.mpr hn)) H1 s1) (fun z => absurd (by rw [show l.all (id ∘ NM) = false from Bool.eq_false_iff.mpr hn]; rfl) z)⟩
   rw [show l.all (id ∘ NM) = true from hn]
   refine ⟨_, rfl, iteF ?_⟩
   refine ⟨_, rfl, r, l, rfl, s1 _ _ hr0, hl0, fun H2 s2 => ⟨_, rfl, ?_⟩⟩
   cases hr1 : riseS l with
   | false => exact iteF (fin false (hands_rise hr1) H2 (s1.trans s2))
   | true =>
   refine iteT ?_
   refine ⟨_, rfl, _, rfl, r, _, rfl, .inr (SqT.of (s2 _ _ (s1 _ _ hr0))), rfl, flat_strs l, ?_⟩
   rw [inV_strs]
   exact fin _ (hands_go (by omega) (by omega) hn hr1).symm H2 (s1.trans s2)
theorem sc_is_answer : FnScope ["letter"] ["letter"] (defScope s_is_answer) := ⟨rfl, rfl, rfl, by decide +kernel, rfl, by decide +kernel, by decide +kernel⟩
theorem ok_is_answer (T : Txt K mg a) : FnOk P w K mg base CX0 true 4 a.f_is_answer a.d_is_answer ["letter"] (LetP (ansW NM)) := by
 refine T.F_is_answer.ok sc_is_answer (fun vs H Q E h => ?_) (fun cdv A outer s H vs Q E hr h => ?_)
 · obtain ⟨p, ps, a0, rfl, _⟩ := h; rfl
 ·
  obtain ⟨p, ps, a0, rfl, hp, h4, h1, k⟩ := h
  refine ⟨_, (pss_cons (ps_if (PW.pt (pw_or (pt_cmpR op_ne (pe_callB (call_len_seqK (K := K) rfl) rfl T.n_len (by decide +kernel) (pa_cons (pv 0) pa_nil)) pe_int (nomark _)) (pw_or1 (pt_not (pt_val (pe_call ((ok_is_from T).mono (by decide)) hr rfl T.m_is_from T.F_is_from.kp T.b_is_from .nil pass0 (pa_cons (pe_ix (ix_tupK (K := K) rfl) (pv 0) pe_int (fun _ _ => rfl)) (pa_cons pe_int pa_nil)))))))) (pss_one (ps_ret pe_bl)) pss_nil)
   (pss_cons (ps_if (PW.pt (pw_or (pt_not (pt_val (pe_call ((ok_is_called T).mono (by decide)) hr rfl T.m_is_called T.F_is_called.kp T.b_is_called .nil pass0 (pa_cons (pe_ix (ix_tupK (K := K) rfl) (pv 0) pe_int (fun _ _ => rfl)) pa_nil)))) (pw_or (pt_cmpR op_eq (pe_ix (ix_tupK (K := K) rfl) (pv 0) pe_int (fun _ _ => rfl)) (pe_ix (ix_tupK (K := K) rfl) (pv 0) pe_int (fun _ _ => rfl)) (nomark _)) (pw_or1 (pt_not (pt_val (pe_call ((ok_is_from T).mono (by decide)) hr rfl T.m_is_from T.F_is_from.kp T.b_is_from .nil pass0 (pa_cons (pe_ix (ix_tupK (K := K) rfl) (pv 0) pe_int (fun _ _ => rfl)) (pa_cons pe_int pa_nil))))))))) (pss_one (ps_ret pe_bl)) pss_nil)
   (pss_one (ps_ret (pe_or (pe_cmpR (op_eqW (hu_of hr)) (pe_ix (ix_tupK (K := K) rfl) (pv 0) pe_int (fun _ _ => rfl)) pe_str (nomark _)) (pe_one (pe_cmpR (op_eqW (hu_of hr)) (pe_ix (ix_tupK (K := K) rfl) (pv 0) pe_int (fun _ _ => rfl)) pe_str (nomark _)))))))), ?_⟩
  have fin : ∀ b, b = ansW NM (ws ps) → ∀ H', Same H H' → Q (.bl b) H' := fun b e => by rw [e]; exact k
  have wl := ws_len ps
  obtain ⟨v1, A1, w1⟩ := hp.get (j := 1) (by omega)
  obtain ⟨v3, A3, w3⟩ := hp.get (j := 3) (by omega)
  rw [h1] at w1
  obtain ⟨rfl, _⟩ := w1
  refine ⟨_, rfl, p, _, rfl, .inr (SqT.of hp.at_), rfl, _, rfl, ?_⟩
  rw [vint, vs_len]
  by_cases hl : ps.length = 7
  case neg => exact ite2 (fun _ => iteT (fin _ (by unfold ansW; rw [decide_eq_false (by omega), Bool.false_and]) H (Same.refl _))) (fun z => absurd (by rw [decide_eq_false (by omega)]; rfl) z)
  rw [decide_eq_true (by omega)]
  refine iteF ?_
  obtain ⟨v4, A4, w4⟩ := hp.get (j := 4) (by omega)
  obtain ⟨v5, A5, w5⟩ := hp.get (j := 5) (by omega)
  obtain ⟨v6, A6, w6⟩ := hp.get (j := 6) (by omega)
  have e1 : ansW NM (ws ps) = (fromW (at_ (ws ps) 3) 1 && (callW NM (at_ (ws ps) 4) && (!eqS (at_ (ws ps) 4) a0 && (fromW (at_ (ws ps) 5) 0 && (eqS (at_ (ws ps) 6) "yes" || eqS (at_ (ws ps) 6) "no"))))) := by unfold ansW; rw [decide_eq_true (by omega), Bool.true_and, nmOf_s h1]
  refine ⟨_, rfl, p, _, _, _, rfl, rfl, SqT.of hp.at_, A3, v3, _, 1, rfl, w3, _, rfl, ?_⟩
  cases hf : fromW (at_ (ws ps) 3) 1 with
  | false => exact ite2 (fun _ => fin _ (by rw [e1, hf, Bool.false_and]) H (Same.refl _)) (fun z => absurd rfl z)
  | true =>
  refine iteF ?_
  refine ⟨_, rfl, p, _, _, _, rfl, rfl, SqT.of hp.at_, A4, v4, _, rfl, w4, fun H1 s1 => ⟨_, rfl, ?_⟩⟩
  replace hp := hp.up s1
  replace w6 := w6.up s1
  replace w5 := w5.up s1
  cases hc : callW NM (at_ (ws ps) 4) with
  | false => exact ite2 (fun _ => iteT (fin _ (by rw [e1, hf, hc, Bool.false_and, Bool.and_false]) H1 s1)) (fun z => absurd rfl z)
  | true =>
  refine iteF ?_
  obtain ⟨t, et, _⟩ := call_s hc
  rw [et] at w4
  obtain ⟨rfl, _⟩ := w4
  have e2 : ansW NM (ws ps) = (!decide (t = a0) && (fromW (at_ (ws ps) 5) 0 && (eqS (at_ (ws ps) 6) "yes" || eqS (at_ (ws ps) 6) "no"))) := by rw [e1, hf, hc, et]; rfl
  refine ⟨_, rfl, p, _, _, _, rfl, rfl, SqT.of hp.at_, A4, _, rfl, p, _, _, _, rfl, rfl, SqT.of hp.at_, A1, rfl, _, rfl, ?_⟩
  rw [show decide (V.str t = V.str a0) = decide (t = a0) from decide_eq_decide.mpr (by rw [V.str.injEq])]
  by_cases ha : t = a0
  case pos => rw [decide_eq_true ha]; exact iteT (iteT (fin _ (by rw [e2, decide_eq_true ha]; rfl) H1 s1))
  rw [decide_eq_false ha]
  refine iteF ?_
  refine ⟨_, rfl, p, _, _, _, rfl, rfl, SqT.of hp.at_, A5, v5, _, 0, rfl, w5, _, rfl, ?_⟩
  cases h5 : fromW (at_ (ws ps) 5) 0 with
  | false => exact ite2 (fun _ => fin _ (by rw [e2, h5, decide_eq_false ha]; rfl) H1 s1) (fun z => absurd rfl z)
  | true =>
  refine iteF ?_
  have e3 : ansW NM (ws ps) = (eqS (at_ (ws ps) 6) "yes" || eqS (at_ (ws ps) 6) "no") := by rw [e2, h5, decide_eq_false ha]; rfl
  refine ⟨_, rfl, p, _, _, _, rfl, rfl, SqT.of hp.at_, A6, eqW_go w6 ⟨_, rfl, ?_⟩⟩
  cases h6 : eqS (at_ (ws ps) 6) "yes" with
  | true => exact iteT (fin _ (by rw [e3, h6, Bool.true_or]) H1 s1)
  | false => exact iteF ⟨_, rfl, p, _, _, _, rfl, rfl, SqT.of hp.at_, A6, eqW_go w6 (fin _ (by rw [e3, h6, Bool.false_or]) H1 s1)⟩
theorem sc_told_of : FnScope ["letters", "latest"] ["letters"] (defScope s_told_of) := ⟨rfl, rfl, rfl, by decide +kernel, rfl, by decide +kernel, by decide +kernel⟩
theorem ok_told_of (T : Txt K mg a) : FnOk P w K mg base CX0 true 4 a.f_told_of a.d_told_of ["letters"] (sp_told_of) := by
 refine T.F_told_of.ok sc_told_of (fun vs H Q E h => ?_) (fun cdv A outer s H vs Q E hr h => ?_)
 · obtain ⟨L, ms, rfl, _⟩ := h; rfl
 ·
  obtain ⟨L, ms, rfl, hL, hz, hG, k⟩ := h
  refine ⟨_, (pss_cons (ps_set (i := 1) sc_told_of.nd rfl (Or.inl rfl) (pe_call ((ok_latest_of T).mono (by decide)) hr rfl T.m_latest_of T.F_latest_of.kp T.b_latest_of .nil pass0 (pa_cons (pv 0) pa_nil)))
   (pss_cons (ps_if (pt_cmpR op_isN (pv 1) pe_non (nomark _)) (pss_one (ps_ret pe_non)) pss_nil)
   (pss_cons (ps_if (pt_cmpR op_eq (pe_ix (ix_tupK (K := K) rfl) (pv 1) pe_int (fun _ _ => rfl)) pe_str (nomark _)) (pss_one (ps_ret (pe_call ((ok_told_of_bid T).mono (by decide)) hr rfl T.m_told_of_bid T.F_told_of_bid.kp T.b_told_of_bid .nil pass0 (pa_cons (pv 0) (pa_cons (pv 1) pa_nil))))) pss_nil)
   (pss_one (ps_ret (pe_tup (pa_cons (pe_ix (ix_tupK (K := K) rfl) (pv 1) pe_int (fun _ _ => rfl)) (pa_cons (pe_ix (ix_tupK (K := K) rfl) (pv 1) pe_int (fun _ _ => rfl)) (pa_cons (pe_ix (ix_tupK (K := K) rfl) (pv 1) pe_int (fun _ _ => rfl)) (pa_cons pe_str (pa_cons pe_non (pa_cons pe_non (pa_cons (pe_tup pa_nil) (pa_cons (pe_tup pa_nil) (pa_cons (pe_tup pa_nil) (pa_cons (pe_tup pa_nil) (pa_cons (pe_tup pa_nil) pa_nil))))))))))))))))), ?_⟩
  refine ⟨_, rfl, L, ms, rfl, hL, fun v H1 s1 hv => ?_⟩
  rcases hv with ⟨rfl, hno⟩ | ⟨⟨lt, p⟩, hx, rfl, hlast⟩
  · exact ⟨_, rfl, rfl, _, rfl, ite2 (fun _ => k _ H1 s1 (.inl ⟨rfl, hno⟩)) (fun z => absurd rfl z)⟩
  refine ⟨_, rfl, rfl, _, rfl, ite2 (fun z => absurd z (by simp)) (fun _ => ?_)⟩
  have hl1 := (hL.ok _ hx).up s1
  obtain ⟨ys, hp, hv⟩ := id hl1
  obtain ⟨r, er⟩ := hv.four
  subst er
  refine ⟨_, rfl, p, _, _, _, rfl, rfl, SqT.of hp, at_0, rfl, _, rfl, ?_⟩
  refine ite2 (fun z => ?_) (fun zk => ?_)
  ·
   have hk : lt.kind = "bid" := V.str.inj (of_decide_eq_true z)
   cases lt with
   | off => exact absurd (show Str.ofString "off" = Str.ofString "bid" from hk) (by decide)
   | close => exact absurd (show Str.ofString "close" = Str.ofString "bid" from hk) (by decide)
   | ans => exact absurd (show Str.ofString "answer" = Str.ofString "bid" from hk) (by decide)
   | bid a0 n t b e hs =>
   exact ⟨_, rfl, _, rfl, L, p, ms, a0, n, t, b, e, hs, rfl, hL.up s1, hz, hG, hl1, (hz _ hx).2.1, fun r d H2 s2 h2 h3 => k _ H2 (s1.trans s2) (.inr ⟨r, d, rfl, h2, _, hlast, h3⟩)⟩
  have z0 : (0 : Nat) ≤ sizeLine := Nat.zero_le _
  obtain ⟨a0, n, t, rfl⟩ : ∃ a0 n t, lt = .off a0 n t := by
   have hb := hlast.2.1
   cases lt with
   | off a0 n t => exact ⟨a0, n, t, rfl⟩
   | bid => exact absurd (decide_eq_true rfl) zk
   | close => cases hb
   | ans => cases hb
  refine ⟨_, rfl, p, _, _, _, rfl, rfl, SqT.of hp, at_1, _, rfl, p, _, _, _, rfl, rfl, SqT.of hp, at_2, _, rfl, p, _, _, _, rfl, rfl, SqT.of hp, at_3, z0, fun e1 h1 => ⟨z0, fun e2 h2 => ⟨z0, fun e3 h3 => ⟨z0, fun e4 h4 => ⟨z0, fun e5 h5 => ⟨(by show 11 ≤ sizeLine; decide), fun q hq => ?_⟩⟩⟩⟩⟩⟩
  have u1 := same_upd (o := .tup []) h1
  have u2 := same_upd (o := .tup []) h2
  have u3 := same_upd (o := .tup []) h3
  have u4 := same_upd (o := .tup []) h4
  have u5 := same_upd (o := .tup []) h5
  have u6 := same_upd (o := .tup [.str a0, .int n, .int t, .str "off", .non, .non, .ref e1, .ref e2, .ref e3, .ref e4, .ref e5]) hq
  exact k _ _ (((((s1.trans u1).trans u2).trans u3).trans u4).trans (u5.trans u6)) (.inr ⟨q, ⟨a0, n, t, "off", none, [], [], [], [], []⟩, rfl, ⟨⟨e1, e2, e3, e4, e5, upd_same, u6 _ _ (u5 _ _ (u4 _ _ (u3 _ _ (u2 _ _ upd_same)))), u6 _ _ (u5 _ _ (u4 _ _ (u3 _ _ upd_same))), u6 _ _ (u5 _ _ (u4 _ _ upd_same)), u6 _ _ (u5 _ _ upd_same), u6 _ _ upd_same⟩, Nat.zero_le _, Nat.zero_le _, Nat.zero_le _, Nat.zero_le _, Nat.zero_le _⟩, _, hlast, rfl⟩)
theorem sc_law_one_by : FnScope ["_law_cell", "_law_seed", "_law_names", "_law_number", "_law_turn", "_law_asker", "_law_way"] ["_law_cell", "_law_seed", "_law_names"] (defScope s_law_one_by) := ⟨rfl, rfl, rfl, by decide +kernel, rfl, by decide +kernel, by decide +kernel⟩
theorem ok_law_one_by (T : Txt K mg a) : FnOk P w K mg base CX0 true 4 a.f_law_one_by a.d_law_one_by ["_law_cell", "_law_seed", "_law_names"] (sp_law_one_by) := by
 refine T.F_law_one_by.ok sc_law_one_by (fun vs H Q E h => ?_) (fun cdv A outer s H vs Q E hr h => ?_)
 · obtain ⟨L, ns, c, s, rfl, _⟩ := h; rfl
 ·
  obtain ⟨L, ns, c, sd, rfl, hL, hN, k⟩ := h
  refine ⟨_, (pss_cons (ps_set (i := 3) sc_law_one_by.nd rfl (Or.inl rfl) (pe_call ((ok_law_mixed T).mono (by decide)) hr rfl T.m_law_mixed T.F_law_mixed.kp T.b_law_mixed .nil pass0 (pa_cons (pv 0) (pa_cons pe_int (pa_cons pe_int pa_nil)))))
   (pss_cons (ps_set (i := 4) sc_law_one_by.nd rfl (Or.inl rfl) (pe_op op_add pe_int (pe_call ((ok_law_mixed T).mono (by decide)) hr rfl T.m_law_mixed T.F_law_mixed.kp T.b_law_mixed .nil pass0 (pa_cons (pv 0) (pa_cons pe_int (pa_cons pe_int pa_nil))))))
   (pss_cons (ps_set (i := 5) sc_law_one_by.nd rfl (Or.inl rfl) (pe_ix (ix_listK (K := K) rfl) (pv 2) (pe_call ((ok_law_mixed T).mono (by decide)) hr rfl T.m_law_mixed T.F_law_mixed.kp T.b_law_mixed .nil pass0 (pa_cons (pv 1) (pa_cons pe_int (pa_cons (pe_callB (call_len_seqK (K := K) rfl) rfl T.n_len (by decide +kernel) (pa_cons (pv 2) pa_nil)) pa_nil)))) (fun _ _ => rfl)))
   (pss_cons (ps_set (i := 6) sc_law_one_by.nd rfl (Or.inl rfl) (pe_call ((ok_law_mixed T).mono (by decide)) hr rfl T.m_law_mixed T.F_law_mixed.kp T.b_law_mixed .nil pass0 (pa_cons (pv 0) (pa_cons pe_int (pa_cons pe_int pa_nil)))))
   (pss_cons (ps_if (pt_cmpR op_lt (pv 6) pe_int (nomark _)) (pss_one (ps_ret (pe_call ((ok_law_bid_of T).mono (by decide)) hr rfl T.m_law_bid_of T.F_law_bid_of.kp T.b_law_bid_of .nil pass0 (pa_cons (pv 1) (pa_cons (pv 2) (pa_cons (pv 5) (pa_cons (pv 3) (pa_cons (pv 4) pa_nil)))))))) pss_nil)
   (pss_cons (ps_if (pt_cmpR op_eq (pv 6) pe_int (nomark _)) (pss_one (ps_ret (pe_call ((ok_law_close_of T).mono (by decide)) hr rfl T.m_law_close_of T.F_law_close_of.kp T.b_law_close_of .nil pass0 (pa_cons (pv 1) (pa_cons (pv 2) (pa_cons (pv 5) (pa_cons (pv 3) (pa_cons (pv 4) pa_nil)))))))) pss_nil)
   (pss_one (ps_ret (pe_call ((ok_law_answer_of T).mono (by decide)) hr rfl T.m_law_answer_of T.F_law_answer_of.kp T.b_law_answer_of .nil pass0 (pa_cons (pv 1) (pa_cons (pv 2) (pa_cons (pv 5) (pa_cons (pv 3) (pa_cons (pv 4) (pa_cons (pv 0) pa_nil))))))))))))))), ?_⟩
  have hlo := hN.lo
  refine ⟨_, rfl, _, _, _, rfl, by decide, by decide, by decide, fun n n0 n1 _ => ?_⟩
  refine ⟨_, rfl, _, _, _, rfl, by decide, by decide, by decide, fun t t0 t1 _ => ⟨_, _, rfl, rfl, ?_⟩⟩
  refine ⟨_, rfl, _, rfl, _, rfl, L, _, rfl, .inl (SqL.of hL), _, _, _, rfl, by decide, by decide, (by rw [List.length_map]; omega), fun v v0 v1 _ => ?_⟩
  rw [List.length_map] at v1
  obtain ⟨a0, ha, ea⟩ := atI_strs (ts := ns) (i := v) v0 v1
  refine ⟨L, _, _, _, rfl, rfl, SqL.of hL, ea, ?_⟩
  refine ⟨_, rfl, _, _, _, rfl, by decide, by decide, by decide, fun wy _ _ _ => ?_⟩
  have p9 : (1 : Int) ≤ 10 ^ 9 := by decide
  have p10 : (3 : Int) ≤ 10 ^ 10 := by decide
  have go : ∀ (p : Addr) (l : Lt) H', Same H H' → LtAt H' l p → LtOk l → Det sd ns l → l.mk = (a0, n) → Q (.ref p) H' := fun p l H' s' h h' h'' hm => k p l H' s' h h' h'' (by have e : l.number = n := congrArg Prod.snd hm; omega)
  refine ⟨_, rfl, _, _, rfl, rfl, _, rfl, ite2 (fun _ => ⟨_, rfl, _, rfl, _, rfl, _, rfl, _, rfl, L, ns, a0, sd, n, _, [], rfl, rfl, hL, hN, ha, n0, by omega, by omega, by omega, go⟩) (fun _ => ?_)⟩
  refine ⟨_, rfl, rfl, _, rfl, ite2 (fun _ => ⟨_, rfl, _, rfl, _, rfl, _, rfl, _, rfl, L, ns, a0, sd, n, _, [], rfl, rfl, hL, hN, ha, n0, by omega, by omega, by omega, go⟩) (fun _ => ?_)⟩
  exact ⟨_, rfl, _, rfl, _, rfl, _, rfl, _, rfl, _, rfl, L, ns, a0, sd, n, _, [.int c], rfl, ⟨c, rfl⟩, hL, hN, ha, n0, by omega, by omega, by omega, go⟩
theorem sc_is_bid : FnScope ["letter"] ["letter"] (defScope s_is_bid) := ⟨rfl, rfl, rfl, by decide +kernel, rfl, by decide +kernel, by decide +kernel⟩
theorem ok_is_bid (T : Txt K mg a) : FnOk P w K mg base CX0 true 5 a.f_is_bid a.d_is_bid ["letter"] (LetP (bidW NM)) := by
 refine T.F_is_bid.ok sc_is_bid (fun vs H Q E h => ?_) (fun cdv A outer s H vs Q E hr h => ?_)
 · obtain ⟨p, ps, a0, rfl, _⟩ := h; rfl
 ·
  obtain ⟨p, ps, a0, rfl, hp, h4, h1, k⟩ := h
  refine ⟨_, (pss_cons (ps_if (PW.pt (pw_or (pt_cmpR op_ne (pe_callB (call_len_seqK (K := K) rfl) rfl T.n_len (by decide +kernel) (pa_cons (pv 0) pa_nil)) pe_int (nomark _)) (pw_or1 (pt_not (pt_val (pe_call ((ok_is_from T).mono (by decide)) hr rfl T.m_is_from T.F_is_from.kp T.b_is_from .nil pass0 (pa_cons (pe_ix (ix_tupK (K := K) rfl) (pv 0) pe_int (fun _ _ => rfl)) (pa_cons pe_int pa_nil)))))))) (pss_one (ps_ret pe_bl)) pss_nil)
   (pss_cons (ps_if (PW.pt (pw_or (pt_not (pt_val (pe_call ((ok_is_number T).mono (by decide)) hr rfl T.m_is_number T.F_is_number.kp T.b_is_number .nil pass0 (pa_cons (pe_ix (ix_tupK (K := K) rfl) (pv 0) pe_int (fun _ _ => rfl)) pa_nil)))) (pw_or1 (pt_not (pt_val (pe_call ((ok_is_number T).mono (by decide)) hr rfl T.m_is_number T.F_is_number.kp T.b_is_number .nil pass0 (pa_cons (pe_ix (ix_tupK (K := K) rfl) (pv 0) pe_int (fun _ _ => rfl)) pa_nil))))))) (pss_one (ps_ret pe_bl)) pss_nil)
   (pss_one (ps_ret (pe_and (pe_call ((ok_is_span T).mono (by decide)) hr rfl T.m_is_span T.F_is_span.kp T.b_is_span .nil pass0 (pa_cons (pe_ix (ix_tupK (K := K) rfl) (pv 0) pe_int (fun _ _ => rfl)) (pa_cons (pe_ix (ix_tupK (K := K) rfl) (pv 0) pe_int (fun _ _ => rfl)) pa_nil))) (pe_one (pe_call ((ok_are_hands T).mono (by decide)) hr rfl T.m_are_hands T.F_are_hands.kp T.b_are_hands .nil pass0 (pa_cons (pe_ix (ix_tupK (K := K) rfl) (pv 0) pe_int (fun _ _ => rfl)) (pa_cons (pe_ix (ix_tupK (K := K) rfl) (pv 0) pe_int (fun _ _ => rfl)) (pa_cons pe_int pa_nil)))))))))), ?_⟩
  have fin : ∀ b, b = bidW NM (ws ps) → ∀ H', Same H H' → Q (.bl b) H' := fun b e => by rw [e]; exact k
  have wl := ws_len ps
  obtain ⟨v1, A1, w1⟩ := hp.get (j := 1) (by omega)
  obtain ⟨v3, A3, w3⟩ := hp.get (j := 3) (by omega)
  rw [h1] at w1
  obtain ⟨rfl, _⟩ := w1
  refine ⟨_, rfl, p, _, rfl, .inr (SqT.of hp.at_), rfl, _, rfl, ?_⟩
  rw [vint, vs_len]
  by_cases hl : ps.length = 7
  case neg => exact ite2 (fun _ => iteT (fin _ (by unfold bidW; rw [decide_eq_false (by omega), Bool.false_and]) H (Same.refl _))) (fun z => absurd (by rw [decide_eq_false (by omega)]; rfl) z)
  rw [decide_eq_true (by omega)]
  refine iteF ?_
  obtain ⟨v4, A4, w4⟩ := hp.get (j := 4) (by omega)
  obtain ⟨v5, A5, w5⟩ := hp.get (j := 5) (by omega)
  obtain ⟨v6, A6, w6⟩ := hp.get (j := 6) (by omega)
  have e1 : bidW NM (ws ps) = (fromW (at_ (ws ps) 3) 1 && (numW (at_ (ws ps) 4) && (numW (at_ (ws ps) 5) && (spanW (at_ (ws ps) 4) (at_ (ws ps) 5) && handsW NM (at_ (ws ps) 6) a0 1)))) := by unfold bidW; rw [decide_eq_true (by omega), Bool.true_and, nmOf_s h1]
  refine ⟨_, rfl, p, _, _, _, rfl, rfl, SqT.of hp.at_, A3, v3, _, 1, rfl, w3, _, rfl, ?_⟩
  cases hf : fromW (at_ (ws ps) 3) 1 with
  | false => exact ite2 (fun _ => fin _ (by rw [e1, hf, Bool.false_and]) H (Same.refl _)) (fun z => absurd rfl z)
  | true =>
  refine iteF ?_
  refine ⟨_, rfl, p, _, _, _, rfl, rfl, SqT.of hp.at_, A4, v4, _, rfl, w4, _, rfl, ?_⟩
  cases h4n : numW (at_ (ws ps) 4) with
  | false => exact ite2 (fun _ => iteT (fin _ (by rw [e1, hf, h4n, Bool.false_and, Bool.and_false]) H (Same.refl _))) (fun z => absurd rfl z)
  | true =>
  refine iteF ?_
  refine ⟨_, rfl, p, _, _, _, rfl, rfl, SqT.of hp.at_, A5, v5, _, rfl, w5, _, rfl, ?_⟩
  cases h5n : numW (at_ (ws ps) 5) with
  | false => exact ite2 (fun _ => fin _ (by rw [e1, hf, h4n, h5n, Bool.false_and, Bool.and_false, Bool.and_false]) H (Same.refl _)) (fun z => absurd rfl z)
  | true =>
  refine iteF ?_
  obtain ⟨b, eb⟩ := num_i h4n
  obtain ⟨e, ee⟩ := num_i h5n
  rw [eb] at w4
  rw [ee] at w5
  cases w4
  cases w5
  have e2 : bidW NM (ws ps) = (decide (b < e) && handsW NM (at_ (ws ps) 6) a0 1) := by rw [e1, hf, h4n, h5n, eb, ee]; rfl
  refine ⟨_, rfl, p, _, _, _, rfl, rfl, SqT.of hp.at_, A4, _, rfl, p, _, _, _, rfl, rfl, SqT.of hp.at_, A5, b, e, rfl, _, rfl, ?_⟩
  by_cases hbe : b < e
  ·
   rw [decide_eq_true hbe]
   exact iteT ⟨_, rfl, p, _, _, _, rfl, rfl, SqT.of hp.at_, A6, _, rfl, p, _, _, _, rfl, rfl, SqT.of hp.at_, A1, v6, _, a0, 1, rfl, w6, fin _ (by rw [e2, decide_eq_true hbe, Bool.true_and])⟩
  ·
   rw [decide_eq_false hbe]
   exact iteF (fin _ (by rw [e2, decide_eq_false hbe, Bool.false_and]) H (Same.refl _))
theorem sc_is_close : FnScope ["letter"] ["letter"] (defScope s_is_close) := ⟨rfl, rfl, rfl, by decide +kernel, rfl, by decide +kernel, by decide +kernel⟩
theorem ok_is_close (T : Txt K mg a) : FnOk P w K mg base CX0 true 5 a.f_is_close a.d_is_close ["letter"] (LetP (closeW NM)) := by
 refine T.F_is_close.ok sc_is_close (fun vs H Q E h => ?_) (fun cdv A outer s H vs Q E hr h => ?_)
 · obtain ⟨p, ps, a0, rfl, _⟩ := h; rfl
 ·
  obtain ⟨p, ps, a0, rfl, hp, h4, h1, k⟩ := h
  refine ⟨_, (pss_one (ps_ret (pe_and (pe_cmpR op_eq (pe_callB (call_len_seqK (K := K) rfl) rfl T.n_len (by decide +kernel) (pa_cons (pv 0) pa_nil)) pe_int (nomark _)) (pe_and (pe_call ((ok_is_from T).mono (by decide)) hr rfl T.m_is_from T.F_is_from.kp T.b_is_from .nil pass0 (pa_cons (pe_ix (ix_tupK (K := K) rfl) (pv 0) pe_int (fun _ _ => rfl)) (pa_cons pe_int pa_nil))) (pe_one (pe_call ((ok_are_hands T).mono (by decide)) hr rfl T.m_are_hands T.F_are_hands.kp T.b_are_hands .nil pass0 (pa_cons (pe_ix (ix_tupK (K := K) rfl) (pv 0) pe_int (fun _ _ => rfl)) (pa_cons (pe_ix (ix_tupK (K := K) rfl) (pv 0) pe_int (fun _ _ => rfl)) (pa_cons pe_int pa_nil))))))))), ?_⟩
  have fin : ∀ b, b = closeW NM (ws ps) → ∀ H', Same H H' → Q (.bl b) H' := fun b e => by rw [e]; exact k
  have wl := ws_len ps
  obtain ⟨v1, A1, w1⟩ := hp.get (j := 1) (by omega)
  obtain ⟨v3, A3, w3⟩ := hp.get (j := 3) (by omega)
  rw [h1] at w1
  obtain ⟨rfl, _⟩ := w1
  refine ⟨_, rfl, p, _, rfl, .inr (SqT.of hp.at_), rfl, _, rfl, ?_⟩
  rw [vint, vs_len]
  by_cases h : ps.length = 5
  case neg => rw [decide_eq_false (by omega)]; exact iteF (fin _ (by unfold closeW; rw [decide_eq_false (by omega), Bool.false_and]) H (Same.refl _))
  obtain ⟨v4, A4, w4⟩ := hp.get (j := 4) (by omega)
  rw [decide_eq_true (by omega)]
  refine iteT ⟨_, rfl, p, _, _, _, rfl, rfl, SqT.of hp.at_, A3, v3, _, 1, rfl, w3, _, rfl, ?_⟩
  have e1 : closeW NM (ws ps) = (fromW (at_ (ws ps) 3) 1 && handsW NM (at_ (ws ps) 4) a0 0) := by unfold closeW; rw [decide_eq_true (by omega), Bool.true_and, nmOf_s h1]
  cases hf : fromW (at_ (ws ps) 3) 1 with
  | false => exact iteF (fin _ (by rw [e1, hf, Bool.false_and]) H (Same.refl _))
  | true => exact iteT ⟨_, rfl, p, _, _, _, rfl, rfl, SqT.of hp.at_, A4, _, rfl, p, _, _, _, rfl, rfl, SqT.of hp.at_, A1, v4, _, a0, 0, rfl, w4, fin _ (by rw [e1, hf, Bool.true_and])⟩
theorem sc_is_letter : FnScope ["letter"] ["letter"] (defScope s_is_letter) := ⟨rfl, rfl, rfl, by decide +kernel, rfl, by decide +kernel, by decide +kernel⟩
theorem ok_is_letter (T : Txt K mg a) : FnOk P w K mg base CX0 true 6 a.f_is_letter a.d_is_letter ["letter"] (sp_is_letter) := by
 refine T.F_is_letter.ok sc_is_letter (fun vs H Q E h => ?_) (fun cdv A outer s H vs Q E hr h => ?_)
 · obtain ⟨p, ps, rfl, _⟩ := h; rfl
 ·
  obtain ⟨p, ps, rfl, hp, k⟩ := h
  refine ⟨_, (pss_cons (ps_if (PW.pt (pw_or (pt_not (pt_val (pe_callB (call_isinstK (K := K) rfl) rfl T.n_isinstance (by decide +kernel) (pa_cons (pv 0) (pa_cons (pe_bltn (v := .ty "tuple") rfl T.n_tuple (by decide +kernel) rfl) pa_nil))))) (pw_or1 (pt_cmpR op_lt (pe_callB (call_len_seqK (K := K) rfl) rfl T.n_len (by decide +kernel) (pa_cons (pv 0) pa_nil)) pe_int (nomark _))))) (pss_one (ps_ret pe_bl)) pss_nil)
   (pss_cons (ps_if (PW.pt (pw_or (pt_not (pt_val (pe_call ((ok_is_called T).mono (by decide)) hr rfl T.m_is_called T.F_is_called.kp T.b_is_called .nil pass0 (pa_cons (pe_ix (ix_tupK (K := K) rfl) (pv 0) pe_int (fun _ _ => rfl)) pa_nil)))) (pw_or1 (pt_not (pt_val (pe_call ((ok_is_from T).mono (by decide)) hr rfl T.m_is_from T.F_is_from.kp T.b_is_from .nil pass0 (pa_cons (pe_ix (ix_tupK (K := K) rfl) (pv 0) pe_int (fun _ _ => rfl)) (pa_cons pe_int pa_nil)))))))) (pss_one (ps_ret pe_bl)) pss_nil)
   (pss_cons (ps_if (pt_cmpR (op_eqW (hu_of hr)) (pe_ix (ix_tupK (K := K) rfl) (pv 0) pe_int (fun _ _ => rfl)) pe_str (nomark _)) (pss_one (ps_ret (pe_call ((ok_is_bid T).mono (by decide)) hr rfl T.m_is_bid T.F_is_bid.kp T.b_is_bid .nil pass0 (pa_cons (pv 0) pa_nil)))) pss_nil)
   (pss_cons (ps_if (pt_cmpR (op_eqW (hu_of hr)) (pe_ix (ix_tupK (K := K) rfl) (pv 0) pe_int (fun _ _ => rfl)) pe_str (nomark _)) (pss_one (ps_ret (pe_call ((ok_is_off T).mono (by decide)) hr rfl T.m_is_off T.F_is_off.kp T.b_is_off .nil pass0 (pa_cons (pv 0) pa_nil)))) pss_nil)
   (pss_cons (ps_if (pt_cmpR (op_eqW (hu_of hr)) (pe_ix (ix_tupK (K := K) rfl) (pv 0) pe_int (fun _ _ => rfl)) pe_str (nomark _)) (pss_one (ps_ret (pe_call ((ok_is_close T).mono (by decide)) hr rfl T.m_is_close T.F_is_close.kp T.b_is_close .nil pass0 (pa_cons (pv 0) pa_nil)))) pss_nil)
   (pss_one (ps_ret (pe_and (pe_cmpR (op_eqW (hu_of hr)) (pe_ix (ix_tupK (K := K) rfl) (pv 0) pe_int (fun _ _ => rfl)) pe_str (nomark _)) (pe_one (pe_call ((ok_is_answer T).mono (by decide)) hr rfl T.m_is_answer T.F_is_answer.kp T.b_is_answer .nil pass0 (pa_cons (pv 0) pa_nil))))))))))), ?_⟩
  have fin : ∀ b, b = isL NM (ws ps) → ∀ H', Same H H' → Q (.bl b) H' := fun b e => by rw [e]; exact k
  have wl := ws_len ps
  refine ⟨_, rfl, _, _, _, _, rfl, TyOf.tup hp.at_, rfl, _, rfl, ite2 (fun z => absurd z (by decide)) (fun _ => ?_)⟩
  refine ⟨_, rfl, p, _, rfl, .inr (SqT.of hp.at_), _, _, rfl, rfl, _, rfl, ?_⟩
  rw [vs_len]
  refine ite2 (fun z => ?_) (fun z => ?_)
  ·
   have z' : (ps.length : Int) < 4 := of_decide_eq_true z
   exact fin _ (isL_len (by omega)).symm H (Same.refl _)
  have z' : ¬ (ps.length : Int) < 4 := fun w => z (decide_eq_true w)
  obtain ⟨v0, A0, w0⟩ := hp.get (j := 0) (by omega)
  obtain ⟨v1, A1, w1⟩ := hp.get (j := 1) (by omega)
  obtain ⟨v2, A2, w2⟩ := hp.get (j := 2) (by omega)
  refine ⟨_, rfl, p, _, _, _, rfl, rfl, SqT.of hp.at_, A1, v1, _, rfl, w1, fun H1 s1 => ⟨_, rfl, ?_⟩⟩
  replace hp := hp.up s1
  replace w2 := w2.up s1
  replace w0 := w0.up s1
  cases hc : callW NM (at_ (ws ps) 1) with
  | false => exact ite2 (fun _ => iteT (fin _ (isL_call hc).symm H1 s1)) (fun z => absurd rfl z)
  | true =>
  refine iteF ?_
  obtain ⟨a0, h1, _⟩ := call_s hc
  refine ⟨_, rfl, p, _, _, _, rfl, rfl, SqT.of hp.at_, A2, v2, _, 0, rfl, w2, _, rfl, ?_⟩
  cases h2 : fromW (at_ (ws ps) 2) 0 with
  | false => exact ite2 (fun _ => fin _ (isL_two h2).symm H1 s1) (fun z => absurd rfl z)
  | true =>
  refine iteF ?_
  have e1 := isL_go (nm := NM) (ws := ws ps) (by omega) hc h2
  have go : ∀ b, b = kindW NM (ws ps) → ∀ H', Same H1 H' → Q (.bl b) H' := fun b e H' s' => fin b (by rw [e1, e]) H' (s1.trans s')
  refine ⟨_, rfl, p, _, _, _, rfl, rfl, SqT.of hp.at_, A0, eqW_go w0 ⟨_, rfl, ?_⟩⟩
  refine ite2 (fun z => ⟨_, rfl, p, ps, a0, rfl, hp, by omega, h1, go _ (kind_bid z).symm⟩) (fun z1 => ?_)
  refine ⟨_, rfl, p, _, _, _, rfl, rfl, SqT.of hp.at_, A0, eqW_go w0 ⟨_, rfl, ?_⟩⟩
  refine ite2 (fun z => ⟨_, rfl, p, ps, a0, rfl, hp, by omega, h1, go _ (kind_off z).symm⟩) (fun z2 => ?_)
  refine ⟨_, rfl, p, _, _, _, rfl, rfl, SqT.of hp.at_, A0, eqW_go w0 ⟨_, rfl, ?_⟩⟩
  refine ite2 (fun z => ⟨_, rfl, p, ps, a0, rfl, hp, by omega, h1, go _ (kind_close z).symm⟩) (fun z3 => ?_)
  refine ⟨_, rfl, p, _, _, _, rfl, rfl, SqT.of hp.at_, A0, eqW_go w0 ⟨_, rfl, ?_⟩⟩
  cases z4 : eqS (at_ (ws ps) 0) "answer" with
  | true => exact iteT ⟨_, rfl, p, ps, a0, rfl, hp, by omega, h1, go _ (kind_ans z4).symm⟩
  | false => exact iteF (go _ (kind_none (.inl (Bool.eq_false_iff.mpr z1)) (Bool.eq_false_iff.mpr z2) (.inl (Bool.eq_false_iff.mpr z3)) (.inl z4)).symm H1 (Same.refl _))
theorem sc_Table_take : FnScope ["self", "letter", "meeting", "told"] ["self", "letter"] (defScope s_Table_take) := ⟨rfl, rfl, rfl, by decide +kernel, rfl, by decide +kernel, by decide +kernel⟩
theorem ok_Table_take (T : Txt K mg a) : FnOk P w K mg base CX0 true 7 a.f_Table_take a.d_Table_take ["self", "letter"] (sp_Table_take P w a.x_Table) := by
 refine T.F_Table_take.ok sc_Table_take (fun vs H Q E h => ?_) (fun cdv A outer s H vs Q E hr h => ?_)
 · obtain ⟨x, k0, m0, t0, p, ms, bs, ts, l, rfl, _⟩ := h; rfl
 ·
  obtain ⟨x, k0, m0, t0, p, ms, bs, ts, l, rfl, hT, hTl, hG, hl, hok, hsz, hGl, h900, kF, kT⟩ := h
  refine ⟨_, (pss_cons (ps_if (pt_not (pt_val (pe_call ((ok_is_letter T).mono (by decide)) hr rfl T.m_is_letter T.F_is_letter.kp T.b_is_letter .nil pass0 (pa_cons (pv 1) pa_nil)))) (pss_one ps_never) pss_nil)
   (pss_cons (ps_if (pt_cmpR (op_inKept (hu2 hr)) (pv 1) (pe_fldK (K := K) rfl (pv 0)) (by with_unfolding_all rfl)) (pss_one (ps_ret pe_bl)) pss_nil)
   (pss_cut (ps_keptput (hu2 hr) (pe_fldK (K := K) rfl (pv 0)) (pv 1) pe_bl rfl)
   (pss_cons (ps_set (i := 2) sc_Table_take.nd rfl (Or.inl rfl) (pe_tup (pa_cons (pe_ix (ix_tupK (K := K) rfl) (pv 1) pe_int (fun _ _ => rfl)) (pa_cons (pe_ix (ix_tupK (K := K) rfl) (pv 1) pe_int (fun _ _ => rfl)) pa_nil))))
   (pss_cut (ps_expr (pe_bm PySem.F.plainAttrs_list PySem.F.slot_list_append PySem.F.type_list_append mt_append (pe_bm PySem.F.plainAttrs_dict PySem.F.slot_dict_setdefault PySem.F.type_dict_setdefault (mt_setdef (hu_of hr)) (pe_fldK (K := K) rfl (pv 0)) (pa_cons (pv 2) (pa_cons (pe_lst pa_nil) pa_nil))) (pa_cons (pv 1) pa_nil)))
   (pss_cons (ps_set (i := 3) sc_Table_take.nd rfl (Or.inl rfl) (pe_call ((ok_told_of T).mono (by decide)) hr rfl T.m_told_of T.F_told_of.kp T.b_told_of .nil pass0 (pa_cons (pe_dget (hu_of hr) (pe_fldK (K := K) rfl (pv 0)) (pv 2) (fun _ _ => rfl)) pa_nil)))
   (pss_cons (ps_if (pt_cmpR op_notN (pv 3) pe_non (nomark _)) (pss_one (ps_dput (hu_of hr) (pe_fldK (K := K) rfl (pv 0)) (pv 2) (pv 3) rfl)) pss_nil)
   (pss_one (ps_ret pe_bl))))))))), ?_⟩
  obtain ⟨dx, hx⟩ := hT.ins
  obtain ⟨ps, hps, ews⟩ := hl.letAt hsz
  refine ⟨_, rfl, p, ps, rfl, hps, fun H1 s1 => ⟨_, rfl, ?_⟩⟩
  rw [ews, show isL NM l.ws = true from hok]
  refine iteF ?_
  refine ⟨_, rfl, _, rfl, x, _, dx, _, _, rfl, s1 _ _ hx, T.cl_Table, T.n_Table_kept, rfl, p, k0, l.nk, nks ms, rfl, rfl, (hl.up s1).nk, hT.kept.up s1, _, rfl, ?_⟩
  cases hh : hasK (nks ms) l.nk with
  | true => exact iteT (kF hh H1 s1)
  | false =>
  refine iteF ?_
  refine ⟨fun σ H2 => H2 = upd H1 k0 (nkObj P w k0 (nks ms ++ [(l.nk, p)])) ∧ σ = [some (.ref x), some (.ref p), none, none], ⟨_, rfl, x, _, dx, _, _, rfl, s1 _ _ hx, T.cl_Table, T.n_Table_kept, rfl, _, rfl, k0, p, l.nk, nks ms, rfl, rfl, rfl, (hl.up s1).nk, hT.kept.up s1, hh, (by unfold nks; rw [List.length_map]; omega), rfl, rfl⟩, ?_⟩
  rintro _ _ ⟨rfl, rfl⟩
  have nK : ∀ {b : Addr} {o : HO}, H1 b = some o → (∀ φ, o ≠ .ext φ) → o ≠ .dK [] → b ≠ k0 := fun {b o} e n1 n2 => by
   rcases (hT.kept.up s1).at_ with e' | ⟨_, e'⟩
   · exact ne_of e e' (n1 _)
   · exact ne_of e e' n2
  have keep : ∀ {b : Addr} {o : HO}, H1 b = some o → (∀ φ, o ≠ .ext φ) → o ≠ .dK [] → (upd H1 k0 (nkObj P w k0 (nks ms ++ [(l.nk, p)]))) b = some o := fun {b o} e n1 n2 => by rw [upd_ne (nK e n1 n2)]; exact e
  have tups : ∀ b xs, H1 b = some (.tup xs) → (upd H1 k0 (nkObj P w k0 (nks ms ++ [(l.nk, p)]))) b = some (.tup xs) := fun b xs e => keep e (fun _ z => nomatch z) (fun z => nomatch z)
  have hx2 := keep (s1 _ _ hx) (fun _ z => nomatch z) (fun z => nomatch z)
  have hm2 := keep (s1 _ _ hT.byM) (fun _ z => nomatch z) (fun z => nomatch z)
  have ht2 := keep (s1 _ _ hT.told) (fun _ z => nomatch z) (fun z => nomatch z)
  have hk2 : KeptAt P w (upd H1 k0 (nkObj P w k0 (nks ms ++ [(l.nk, p)]))) k0 (nks (ms ++ [(l, p)])) := by
   have := (hT.kept.up s1).put (hl.up s1).nk (by unfold nks; rw [List.length_map]; omega)
   unfold nks at this ⊢
   rw [List.map_append]
   exact this
  have hb2 : BsOk (upd H1 k0 (nkObj P w k0 (nks ms ++ [(l.nk, p)]))) ms bs := hT.by_.up fun b hb o e => by
   rw [hT.by_.at_ b hb] at e
   cases e
   exact keep (s1 _ _ (hT.by_.at_ b hb)) (fun _ z => nomatch z) (fun z => nomatch z)
  have hy2 : ∀ y ∈ ms, LtAt (upd H1 k0 (nkObj P w k0 (nks ms ++ [(l.nk, p)]))) y.1 y.2 := fun y hy => ((hT.ok y hy).up s1).upT tups
  have hl2 : LtAt (upd H1 k0 (nkObj P w k0 (nks ms ++ [(l.nk, p)]))) l p := (hl.up s1).upT tups
  have keepO : ∀ b o, H b = some o → b ≠ k0 → (upd H1 k0 (nkObj P w k0 (nks ms ++ [(l.nk, p)]))) b = some o := fun b o e nb => by rw [upd_ne nb]; exact s1 _ _ e
  clear keep tups
  obtain ⟨vs, hp, hv⟩ := id hl2
  obtain ⟨r, er⟩ := hv.four
  subst er
  refine ⟨_, rfl, p, _, _, _, rfl, rfl, SqT.of hp, at_1, _, rfl, p, _, _, _, rfl, rfl, SqT.of hp, at_2, (by show 2 ≤ sizeLine; decide), fun q hq => ?_⟩
  have u3 := same_upd (o := .tup [.str l.asker, .int l.number]) hq
  have hq3 : (upd (upd H1 k0 (nkObj P w k0 (nks ms ++ [(l.nk, p)]))) q (.tup [.str l.asker, .int l.number])) q = some (.tup [.str l.asker, .int l.number]) := upd_same
  replace hx2 := u3 _ _ hx2
  replace hm2 := u3 _ _ hm2
  replace ht2 := u3 _ _ ht2
  replace hk2 := hk2.up u3
  replace hb2 := hb2.up fun b _ o e => u3 _ o e
  replace hl2 := hl2.up u3
  replace hy2 := fun y hy => (hy2 y hy).up u3
  replace hp := u3 _ _ hp
  replace keepO := fun b o (e : H b = some o) (nb : b ≠ k0) => u3 _ _ (keepO b o e nb)
  clear hq u3 hps ews
  generalize upd (upd H1 k0 (nkObj P w k0 (nks ms ++ [(l.nk, p)]))) q (.tup [.str l.asker, .int l.number]) = H3 at *
  have hok3 : ∀ y ∈ ms ++ [(l, p)], LtAt H3 y.1 y.2 := fun y hy => (List.mem_append.mp hy).elim (hy2 y) fun z => by rw [List.mem_singleton] at z; subst z; exact hl2
  refine ⟨fun σ H4 => ∃ (L : Addr) (bs' : MBs), σ = [some (.ref x), some (.ref p), some (.ref q), none] ∧ MidT P w a.x_Table H H4 x dx k0 m0 t0 q L l p ms bs bs' ts, ?_, ?_⟩
  ·
   refine ⟨_, rfl, x, _, dx, _, _, rfl, hx2, T.cl_Table, T.n_Table_by_meeting, rfl, .inr (.inr (.inl ⟨rfl, .inr ⟨_, hm2⟩⟩)), _, rfl, (by show 0 ≤ sizeLine; decide), fun N hN => ?_⟩
   have uN := same_upd (o := .lst []) hN
   refine ⟨m0, q, bsK bs, [.inr l.asker, .inl l.number], .ref N, rfl, rfl, uN _ _ hm2, uN _ _ hq3, (by unfold bsK; rw [List.length_map, sizeLine_eq]; have := hT.few; omega), ?_⟩
   cases hv : valV (bsK bs) [.inr l.asker, .inl l.number] with
   |
    some w0 =>
    obtain ⟨b, hb, hbk, rfl⟩ := bsK_val (k := l.mk) hv
    refine .inl ⟨_, rfl, .inl ⟨rfl, _, SqL.of (uN _ _ (hb2.at_ b hb))⟩, _, rfl, b.2.1, _, _, rfl, rfl, uN _ _ (hb2.at_ b hb), ?_, b.2.1, _, rfl, mid_some keepO hq3 hx2 hk2 hok3 hm2 ht2 hb2 hN hv hb hbk⟩
    rw [List.length_map, hb2.is_ b hb, sizeLine_eq]
    exact Nat.lt_of_le_of_lt (List.length_filter_le _ _) (by omega)
   |
    none =>
    have nmN : N ≠ m0 := fun z => by rw [z, hm2] at hN; cases hN
    refine .inr ⟨rfl, .inl ⟨rfl, [], SqL.of (by rw [upd_ne nmN]; exact upd_same)⟩, _, rfl, N, [], _, rfl, rfl, (by rw [upd_ne nmN]; exact upd_same), (by show 0 < sizeLine; decide), N, _, rfl, mid_none keepO hq3 hx2 hk2 (hT.own (.inl rfl)) hok3 hm2 ht2 hT.ne hb2 hN hv⟩
  rintro _ H4 ⟨L, bs', rfl, M⟩
  obtain ⟨b, hbm, hbk, hbL⟩ := M.at_
  have hLts := bs_lts M.by_ M.ok (by rw [List.length_append]; show _ + 1 ≤ _; omega) hbm
  have hin : ∀ y ∈ b.2.2, y ∈ ms ++ [(l, p)] := fun y hy => by rw [M.by_.is_ b hbm] at hy; exact (List.mem_filter.mp hy).1
  have hall : ∀ {F : Lt → Prop}, (∀ y ∈ ms, F y.1) → F l → ∀ y ∈ b.2.2, F y.1 := fun {F} h1 h2 y hy => (List.mem_append.mp (hin y hy)).elim (h1 y) fun z => by rw [List.mem_singleton] at z; subst z; exact h2
  have hS : inM b.2.2 = inK (ms ++ [(l, p)]) l.mk := by rw [M.by_.is_ b hbm, inM_of, hbk]
  have tups4 : ∀ c xs, H c = some (.tup xs) → H4 c = some (.tup xs) := fun c xs e => M.fr c _ e (hT.notup e)
  refine ⟨_, rfl, x, _, dx, _, _, rfl, M.ins, T.cl_Table, T.n_Table_by_meeting, rfl, _, rfl, m0, .ref L, rfl, M.val ▸ DGet.t M.byM M.q_, L, b.2.2, rfl, (by rw [← hbL]; exact hLts), hall hT.sz hsz, hall hG hGl, fun v H5 s5 hv => ?_⟩
  rw [hS] at hv
  have T5 := M.tab hT.sz hsz h900 hT.few.2.1 hT.few.2.2 hT.ne s5
  have fr5 : ∀ c o, H c = some o → ¬ OwnT k0 m0 t0 bs c → H5 c = some o := fun c o e n => s5 _ _ (M.fr c o e n)
  have tl5 : TlOk H5 ms ts := hTl.upT fun c xs e => s5 _ _ (tups4 c xs e)
  rcases hv with ⟨rfl, hno⟩ | ⟨r, d, rfl, hd, hto⟩
  ·
   refine ⟨_, rfl, rfl, _, rfl, ite2 (fun z => absurd z (by decide)) (fun _ => ?_)⟩
   exact kT hh bs' ts H5 fr5 M.new T5 (tl5.non hno)
  refine ⟨_, rfl, rfl, _, rfl, ite2 (fun _ => ?_) (fun z => absurd (by simp) z)⟩
  refine ⟨_, rfl, _, rfl, x, _, dx, _, _, rfl, s5 _ _ M.ins, T.cl_Table, T.n_Table_tellings, rfl, _, rfl, t0, _, rfl, DPut.t (k := mkK l.mk) (s5 _ _ M.told) (s5 _ _ M.q_) (by rw [sizeLine_eq]; have := hT.few; omega), ?_⟩
  have tp : ∀ c xs, H5 c = some (.tup xs) → (upd H5 t0 (.dT (putK ts (mkK l.mk) (.ref r)))) c = some (.tup xs) := fun c xs e => by rw [upd_ne (ne_of e (s5 _ _ M.told) (fun z => nomatch z))]; exact e
  refine kT hh bs' _ _ (fun c o e n => ?_) M.new (T5.tell (by rw [List.length_append]; exact Nat.le_trans (length_putK _ _ _) (Nat.succ_le_succ hT.few.2.2))) ((tl5.upT tp).put (hd.upT tp) hto)
  rw [upd_ne (fun z => n (.inr (.inr (.inl z))))]
  exact fr5 c o e n
theorem sc_law_like : FnScope ["_law_found", "_law_due"] ["_law_found", "_law_due"] (defScope s_law_like) := ⟨rfl, rfl, rfl, by decide +kernel, rfl, by decide +kernel, by decide +kernel⟩
theorem ok_law_like_s (T : Txt K mg a) (n : Nat) (IH : FnOk P w K mg base CX0 true (20 + n) a.f_law_like a.d_law_like ["_law_found", "_law_due"] (sp_law_like n)) : FnOk P w K mg base CX0 true (20 + n + 1) a.f_law_like a.d_law_like ["_law_found", "_law_due"] (sp_law_like (n + 1)) := by
 refine T.F_law_like.ok sc_law_like (fun vs H Q E h => ?_) (fun cdv A outer s H vs Q E hr h => ?_)
 · obtain ⟨v, u, rfl, _⟩ := h; rfl
 ·
  obtain ⟨v, u, rfl, hA, k⟩ := h
  refine ⟨_, (pss_cons (ps_if (PW.pt (pw_or (pt_val (pe_callB (call_isinstK (K := K) rfl) rfl T.n_isinstance (by decide +kernel) (pa_cons (pv 1) (pa_cons (pe_bltn (v := .ty "tuple") rfl T.n_tuple (by decide +kernel) rfl) pa_nil)))) (pw_or1 (pt_val (pe_callB (call_isinstK (K := K) rfl) rfl T.n_isinstance (by decide +kernel) (pa_cons (pv 1) (pa_cons (pe_bltn (v := .ty "list") rfl T.n_list (by decide +kernel) rfl) pa_nil))))))) (pss_cons (ps_if (PW.pt (pw_or (pt_cmpR op_ne (pe_callB (call_isinstK (K := K) rfl) rfl T.n_isinstance (by decide +kernel) (pa_cons (pv 0) (pa_cons (pe_bltn (v := .ty "tuple") rfl T.n_tuple (by decide +kernel) rfl) pa_nil))) (pe_callB (call_isinstK (K := K) rfl) rfl T.n_isinstance (by decide +kernel) (pa_cons (pv 1) (pa_cons (pe_bltn (v := .ty "tuple") rfl T.n_tuple (by decide +kernel) rfl) pa_nil))) (nomark _)) (pw_or1 (pt_cmpR op_ne (pe_callB (call_isinstK (K := K) rfl) rfl T.n_isinstance (by decide +kernel) (pa_cons (pv 0) (pa_cons (pe_bltn (v := .ty "list") rfl T.n_list (by decide +kernel) rfl) pa_nil))) (pe_callB (call_isinstK (K := K) rfl) rfl T.n_isinstance (by decide +kernel) (pa_cons (pv 1) (pa_cons (pe_bltn (v := .ty "list") rfl T.n_list (by decide +kernel) rfl) pa_nil))) (nomark _))))) (pss_one (ps_ret pe_bl)) pss_nil)
   (pss_cons (ps_if (pt_cmpR op_ne (pe_callB (call_len_seqK (K := K) rfl) rfl T.n_len (by decide +kernel) (pa_cons (pv 0) pa_nil)) (pe_callB (call_len_seqK (K := K) rfl) rfl T.n_len (by decide +kernel) (pa_cons (pv 1) pa_nil)) (nomark _)) (pss_one (ps_ret pe_bl)) pss_nil)
   (pss_one (ps_ret (pe_callB (call_allK (K := K) rfl rfl) rfl T.n_all (by decide +kernel) (pa_cons (pe_comp (N := ["_law_k", "_law_found", "_law_due"]) (cap := [none, some 0, some 1]) (by show CompScope (defScope s_law_like) _ ["_law_found", "_law_due"] _ _; exact ⟨rfl, by decide +kernel, by decide +kernel, by decide +kernel, by decide +kernel, rfl, by decide +kernel⟩) rfl (pi_range1 rfl T.n_range (pa_cons (pe_callB (call_len_seqK (K := K) rfl) rfl T.n_len (by decide +kernel) (pa_cons (pv 1) pa_nil)) pa_nil)) (fun C s H fp => ⟨(pg_name (i := 0) (by show (["_law_k", "_law_found", "_law_due"] : List Str).Nodup; decide +kernel) rfl (Or.inl rfl) (.inr rfl)), pf_none, (pe_call ((IH).mono (by omega)) hr rfl T.m_law_like T.F_law_like.kp T.b_law_like .nil pass0 (pa_cons (pe_ix (ix_seqK (K := K) rfl) (pv 1) (pv 0) (fun _ _ => rfl)) (pa_cons (pe_ix (ix_seqK (K := K) rfl) (pv 2) (pv 0) (fun _ _ => rfl)) pa_nil)))⟩)) pa_nil)))))) pss_nil)
   (pss_cons (ps_if (pt_cmpR op_isN (pv 1) pe_non (nomark _)) (pss_one (ps_ret (pe_cmpR op_isN (pv 0) pe_non (nomark _)))) pss_nil)
   (pss_cons (ps_if (pt_val (pe_callB (call_isinstK (K := K) rfl) rfl T.n_isinstance (by decide +kernel) (pa_cons (pv 1) (pa_cons (pe_bltn (v := .ty "str") rfl T.n_str (by decide +kernel) rfl) pa_nil)))) (pss_one (ps_ret (pe_and (pe_callB (call_isinstK (K := K) rfl) rfl T.n_isinstance (by decide +kernel) (pa_cons (pv 0) (pa_cons (pe_bltn (v := .ty "str") rfl T.n_str (by decide +kernel) rfl) pa_nil))) (pe_one (pe_cmpR op_eq (pv 0) (pv 1) (nomark _)))))) pss_nil)
   (pss_one (ps_ret (pe_and (pe_callB (call_isinstK (K := K) rfl) rfl T.n_isinstance (by decide +kernel) (pa_cons (pv 0) (pa_cons (pe_bltn (v := .ty "int") rfl T.n_int (by decide +kernel) rfl) pa_nil))) (pe_and (pe_not (pe_callB (call_isinstK (K := K) rfl) rfl T.n_isinstance (by decide +kernel) (pa_cons (pv 0) (pa_cons (pe_bltn (v := .ty "bool") rfl T.n_bool (by decide +kernel) rfl) pa_nil)))) (pe_one (pe_cmpR op_eq (pv 0) (pv 1) (nomark _)))))))))), ?_⟩
  rcases hA with ⟨rfl, ha⟩ | ⟨p, q, xs, ys, rfl, rfl, hpq, hl, hz, hs⟩
  ·
   cases v with
   |
    non =>
    refine ⟨_, rfl, _, _, _, _, rfl, TyOf.non, rfl, _, rfl, ite2 (fun z => absurd z (by decide)) (fun _ => ⟨_, rfl, _, _, _, _, rfl, TyOf.non, rfl, _, rfl, ite2 (fun z => absurd z (by decide)) (fun _ => ?_)⟩)⟩
    refine ⟨_, rfl, rfl, _, rfl, ite2 (fun _ => ?_) (fun z => absurd rfl z)⟩
    exact ⟨_, rfl, rfl, k H (Same.refl _)⟩
   |
    int i =>
    refine ⟨_, rfl, _, _, _, _, rfl, TyOf.int _, rfl, _, rfl, ite2 (fun z => absurd z (by decide)) (fun _ => ⟨_, rfl, _, _, _, _, rfl, TyOf.int _, rfl, _, rfl, ite2 (fun z => absurd z (by decide)) (fun _ => ?_)⟩)⟩
    refine ⟨_, rfl, rfl, _, rfl, ite2 (fun z => absurd z (by simp)) (fun _ => ?_)⟩
    refine ⟨_, rfl, _, _, _, _, rfl, TyOf.int _, rfl, _, rfl, ite2 (fun z => absurd z (by decide)) (fun _ => ?_)⟩
    refine ⟨_, rfl, _, _, _, _, rfl, TyOf.int _, rfl, _, rfl, ite2 (fun _ => ?_) (fun z => absurd rfl z)⟩
    refine ⟨_, rfl, _, _, _, _, rfl, TyOf.int _, rfl, _, rfl, _, rfl, ite2 (fun _ => ?_) (fun z => absurd rfl z)⟩
    refine ⟨_, rfl, _, rfl, rfl, ?_⟩
    rw [decide_eq_true rfl]
    exact k H (Same.refl _)
   |
    str x =>
    refine ⟨_, rfl, _, _, _, _, rfl, TyOf.str _, rfl, _, rfl, ite2 (fun z => absurd z (by decide)) (fun _ => ⟨_, rfl, _, _, _, _, rfl, TyOf.str _, rfl, _, rfl, ite2 (fun z => absurd z (by decide)) (fun _ => ?_)⟩)⟩
    refine ⟨_, rfl, rfl, _, rfl, ite2 (fun z => absurd z (by simp)) (fun _ => ?_)⟩
    refine ⟨_, rfl, _, _, _, _, rfl, TyOf.str _, rfl, _, rfl, ite2 (fun _ => ?_) (fun z => absurd rfl z)⟩
    refine ⟨_, rfl, _, _, _, _, rfl, TyOf.str _, rfl, _, rfl, ite2 (fun _ => ?_) (fun z => absurd rfl z)⟩
    refine ⟨_, rfl, _, rfl, rfl, ?_⟩
    rw [decide_eq_true rfl]
    exact k H (Same.refl _)
   | bl => exact ha.elim
   | byt => exact ha.elim
   | flt => exact ha.elim
   | ref => exact ha.elim
   | ty => exact ha.elim
  rcases hpq with ⟨hp, hq⟩ | ⟨hp, hq⟩
  ·
   refine ⟨_, rfl, _, _, _, _, rfl, TyOf.tup hq, rfl, _, rfl, ite2 (fun _ => ?_) (fun z => absurd rfl z)⟩
   refine ⟨_, rfl, _, _, _, _, rfl, TyOf.tup hp, rfl, _, rfl, _, _, _, _, rfl, TyOf.tup hq, rfl, rfl, _, rfl, ite2 (fun z => absurd z (by decide)) (fun _ => ?_)⟩
   refine ⟨_, rfl, _, _, _, _, rfl, TyOf.tup hp, rfl, _, rfl, _, _, _, _, rfl, TyOf.tup hq, rfl, rfl, _, rfl, ite2 (fun z => absurd z (by decide)) (fun _ => ?_)⟩
   refine ⟨_, rfl, p, _, rfl, .inr (SqT.of hp), _, rfl, q, _, rfl, .inr (SqT.of hq), rfl, _, rfl, ?_⟩
   rw [hl]
   refine iteNS rfl ?_
   refine ⟨_, rfl, q, _, rfl, .inr (SqT.of hq), (ys.length : Int), rfl, by omega, by omega, ?_⟩
   refine comp_pure (seq_range 0 _ H) (fun _ => true) (fun _ => .bl true) (by rw [List.length_map, List.length_range]; omega) (fun x _ H' _ R hR => hR H' (Same.refl _)) ?_ (fun D H1 s1 hD0 hD => ?_)
   ·
    intro x hx _ H' sm R hR
    obtain ⟨j, hj, rfl⟩ := List.mem_map.mp hx
    have hj2 := List.mem_range.mp hj
    have j1 : j < ys.length := by omega
    have j2 : j < xs.length := by omega
    have e1 : xs[j]? = some xs[j] := List.getElem?_eq_getElem j2
    have e2 : ys[j]? = some ys[j] := List.getElem?_eq_getElem j1
    have a1 : atI xs (0 + (j : Int)) = some xs[j] := by rw [show (0 + (j : Int)) = ((j : Nat) : Int) by omega]; exact atI_nat e1
    have a2 : atI ys (0 + (j : Int)) = some ys[j] := by rw [show (0 + (j : Int)) = ((j : Nat) : Int) by omega]; exact atI_nat e2
    exact ⟨_, rfl, _, rfl, .inr <| .inl ⟨p, _, _, _, rfl, rfl, SqT.of (sm _ _ hp), a1, _, rfl, _, rfl, .inr <| .inl ⟨q, _, _, _, rfl, rfl, SqT.of (sm _ _ hq), a2, _, _, rfl, AlH.up (n := n) sm (hs j _ _ e1 e2), fun H3 s3 => hR H3 s3⟩⟩⟩
   rw [List.filter_eq_self.mpr (fun _ _ => rfl), bls_map] at hD
   refine ⟨D, _, rfl, SqL.of hD, ?_⟩
   rw [bls_all]
   exact k H1 s1
  ·
   refine ⟨_, rfl, _, _, _, _, rfl, TyOf.lst hq, rfl, _, rfl, ite2 (fun z => absurd z (by decide)) (fun _ => ⟨_, rfl, _, _, _, _, rfl, TyOf.lst hq, rfl, _, rfl, ite2 (fun _ => ?_) (fun z => absurd rfl z)⟩)⟩
   refine ⟨_, rfl, _, _, _, _, rfl, TyOf.lst hp, rfl, _, rfl, _, _, _, _, rfl, TyOf.lst hq, rfl, rfl, _, rfl, ite2 (fun z => absurd z (by decide)) (fun _ => ?_)⟩
   refine ⟨_, rfl, _, _, _, _, rfl, TyOf.lst hp, rfl, _, rfl, _, _, _, _, rfl, TyOf.lst hq, rfl, rfl, _, rfl, ite2 (fun z => absurd z (by decide)) (fun _ => ?_)⟩
   refine ⟨_, rfl, p, _, rfl, .inl (SqL.of hp), _, rfl, q, _, rfl, .inl (SqL.of hq), rfl, _, rfl, ?_⟩
   rw [hl]
   refine iteNS rfl ?_
   refine ⟨_, rfl, q, _, rfl, .inl (SqL.of hq), (ys.length : Int), rfl, by omega, by omega, ?_⟩
   refine comp_pure (seq_range 0 _ H) (fun _ => true) (fun _ => .bl true) (by rw [List.length_map, List.length_range]; omega) (fun x _ H' _ R hR => hR H' (Same.refl _)) ?_ (fun D H1 s1 hD0 hD => ?_)
   ·
    intro x hx _ H' sm R hR
    obtain ⟨j, hj, rfl⟩ := List.mem_map.mp hx
    have hj2 := List.mem_range.mp hj
    have j1 : j < ys.length := by omega
    have j2 : j < xs.length := by omega
    have e1 : xs[j]? = some xs[j] := List.getElem?_eq_getElem j2
    have e2 : ys[j]? = some ys[j] := List.getElem?_eq_getElem j1
    have a1 : atI xs (0 + (j : Int)) = some xs[j] := by rw [show (0 + (j : Int)) = ((j : Nat) : Int) by omega]; exact atI_nat e1
    have a2 : atI ys (0 + (j : Int)) = some ys[j] := by rw [show (0 + (j : Int)) = ((j : Nat) : Int) by omega]; exact atI_nat e2
    exact ⟨_, rfl, _, rfl, .inl ⟨p, _, _, _, rfl, rfl, SqL.of (sm _ _ hp), a1, _, rfl, _, rfl, .inl ⟨q, _, _, _, rfl, rfl, SqL.of (sm _ _ hq), a2, _, _, rfl, AlH.up (n := n) sm (hs j _ _ e1 e2), fun H3 s3 => hR H3 s3⟩⟩⟩
   rw [List.filter_eq_self.mpr (fun _ _ => rfl), bls_map] at hD
   refine ⟨D, _, rfl, SqL.of hD, ?_⟩
   rw [bls_all]
   exact k H1 s1
theorem law_like_all (T : Txt K mg a) : ∀ n, FnOk P w K mg base CX0 true (20 + n) a.f_law_like a.d_law_like ["_law_found", "_law_due"] (sp_law_like n)
 | 0 => ⟨fun vs H Q E h => by obtain ⟨v, u, rfl, h1, _⟩ := h; exact h1.elim, fun A outer s H args us vs Q E _ _ _ _ h => by obtain ⟨v, u, rfl, h1, _⟩ := h; exact h1.elim⟩
 | n + 1 => ok_law_like_s T n (law_like_all T n)
theorem ok_law_like (T : Txt K mg a) : FnOk P w K mg base CX0 true 30 a.f_law_like a.d_law_like ["_law_found", "_law_due"] (sp_law_like 6) := (law_like_all T 6).mono (by decide)
theorem sc_law : FnScope ["_law_script", "_law_names", "_law_seed", "_law_asker", "_law_table", "_law_letters", "_law_held", "_law_cell", "_law_letter", "_law_number", "_law_due", "_law_found"] ["_law_script"] (defScope s_law) := ⟨rfl, rfl, rfl, by decide +kernel, rfl, by decide +kernel, by decide +kernel⟩
theorem ok_law (T : Txt K mg a) : FnOk P w K mg base CX0 true 32 a.f_law a.d_law ["_law_script"] (sp_law K) := by
 refine T.F_law.ok sc_law (fun vs H Q E h => ?_) (fun cdv A outer s H vs Q E hr h => ?_)
 · obtain ⟨sa, ns, rfl, _⟩ := h; rfl
 ·
  obtain ⟨sa, ns, rfl, hS, hlen, k⟩ := h
  refine ⟨_, (pss_cons (ps_set (i := 1) sc_law.nd rfl (Or.inl rfl) (pe_call ((ok_law_names_by T).mono (by decide)) hr rfl T.m_law_names_by T.F_law_names_by.kp T.b_law_names_by .nil pass0 (pa_cons (pe_call ((ok_law_cell_at T).mono (by decide)) hr rfl T.m_law_cell_at T.F_law_cell_at.kp T.b_law_cell_at .nil pass0 (pa_cons (pv 0) (pa_cons pe_int pa_nil))) pa_nil)))
   (pss_cons (ps_set (i := 2) sc_law.nd rfl (Or.inl rfl) (pe_call ((ok_law_cell_at T).mono (by decide)) hr rfl T.m_law_cell_at T.F_law_cell_at.kp T.b_law_cell_at .nil pass0 (pa_cons (pv 0) (pa_cons pe_int pa_nil))))
   (pss_cons (ps_set (i := 3) sc_law.nd rfl (Or.inl rfl) (pe_ix (ix_listK (K := K) rfl) (pv 1) (pe_call ((ok_law_mixed T).mono (by decide)) hr rfl T.m_law_mixed T.F_law_mixed.kp T.b_law_mixed .nil pass0 (pa_cons (pv 2) (pa_cons pe_int (pa_cons (pe_callB (call_len_seqK (K := K) rfl) rfl T.n_len (by decide +kernel) (pa_cons (pv 1) pa_nil)) pa_nil)))) (fun _ _ => rfl)))
   (pss_cons (ps_set (i := 4) sc_law.nd rfl (Or.inl rfl) (pe_make0 T.mk_Table ((ok_Table___init T).mono (by decide)) hr rfl T.m_Table T.b_Table___init .nil pass0))
   (pss_cons (ps_set (i := 5) sc_law.nd rfl (Or.inl rfl) (pe_lst pa_nil))
   (pss_cons (ps_set (i := 6) sc_law.nd rfl (Or.inl rfl) (pe_lst pa_nil))
   (pss_cons (ps_for PassesOwn.never rfl (pi_listK (K := K) rfl (pe_slice (sl_listK (K := K) rfl) (pv 0) (po_some pe_int) (po_some pe_int))) (pg_name (i := 7) sc_law.nd rfl (Or.inl rfl)) (pss_cons (ps_set (i := 8) sc_law.nd rfl (Or.inl rfl) (pe_call ((ok_law_one_by T).mono (by decide)) hr rfl T.m_law_one_by T.F_law_one_by.kp T.b_law_one_by .nil pass0 (pa_cons (pv 7) (pa_cons (pv 2) (pa_cons (pv 1) pa_nil)))))
   (pss_cut (ps_expr (pe_methV (n := 1) (D := fun C R => (C = a.x_Table ∧ R = fun x vs H Q => (sp_Table_take P w a.x_Table) (x :: (vs ++ ([] : List V))) H Q E0)) (pv 4) (by rintro C R ⟨rfl, rfl⟩ <;> first | exact ⟨T.cl_Table, _, _, _, _, _, _, _, _, _, _, T.me_Table_take, (ok_Table_take T).mono (by decide), hr, T.b_Table_take, .nil, pass0, fun _ _ _ _ _ h => h⟩) (pa_cons (pv 8) pa_nil)))
   (pss_cut (ps_if (pt_cmpR (op_notinN (hu2 hr)) (pv 8) (pv 5) (by with_unfolding_all rfl)) (pss_one (ps_expr (pe_bm PySem.F.plainAttrs_list PySem.F.slot_list_append PySem.F.type_list_append mt_append (pv 5) (pa_cons (pv 8) pa_nil)))) pss_nil)
   (pss_one (ps_if (PW.pt (pw_or (pt_cmpR op_eq (pe_op op_mod (pe_callB (call_len_seqK (K := K) rfl) rfl T.n_len (by decide +kernel) (pa_cons (pv 5) pa_nil)) pe_int) pe_int (nomark _)) (pw_or1 (pt_cmpR op_eq (pe_op op_mod (pv 7) pe_int) pe_int (nomark _))))) (pss_one (ps_for PassesOwn.never rfl (pi_listK (K := K) rfl (pe_lst (pa_cons (pe_op op_mod (pe_op op_fdiv (pv 7) pe_int) pe_int) (pa_cons (pe_op op_sub pe_int (pe_op op_mod (pe_op op_fdiv (pv 7) pe_int) pe_int)) (pa_cons pe_int pa_nil))))) (pg_name (i := 9) sc_law.nd rfl (Or.inl rfl)) (pss_cons (ps_set (i := 10) sc_law.nd rfl (Or.inl rfl) (pe_call ((ok_law_meeting_by T).mono (by decide)) hr rfl T.m_law_meeting_by T.F_law_meeting_by.kp T.b_law_meeting_by .nil pass0 (pa_cons (pv 5) (pa_cons (pv 3) (pa_cons (pv 9) pa_nil)))))
   (pss_cons (ps_set (i := 11) sc_law.nd rfl (Or.inl rfl) (pe_methV (n := 2) (D := fun C R => (C = a.x_Table ∧ R = fun x vs H Q => (sp_Table_meeting P w a.x_Table) (x :: (vs ++ ([] : List V))) H Q E0)) (pv 4) (by rintro C R ⟨rfl, rfl⟩ <;> first | exact ⟨T.cl_Table, _, _, _, _, _, _, _, _, _, _, T.me_Table_meeting, (ok_Table_meeting T).mono (by decide), hr, T.b_Table_meeting, .nil, pass0, fun _ _ _ _ _ h => h⟩) (pa_cons (pv 3) (pa_cons (pv 9) pa_nil))))
   (pss_cons (ps_if (PW.pt (pw_or (pt_not (pt_val (pe_call ((ok_law_like T).mono (by decide)) hr rfl T.m_law_like T.F_law_like.kp T.b_law_like .nil pass0 (pa_cons (pv 11) (pa_cons (pv 10) pa_nil))))) (pw_or1 (pt_not (pt_val (pe_call ((ok_law_like T).mono (by decide)) hr rfl T.m_law_like T.F_law_like.kp T.b_law_like .nil pass0 (pa_cons (pe_methV (n := 2) (D := fun C R => (C = a.x_Table ∧ R = fun x vs H Q => (sp_Table_meeting P w a.x_Table) (x :: (vs ++ ([] : List V))) H Q E0)) (pv 4) (by rintro C R ⟨rfl, rfl⟩ <;> first | exact ⟨T.cl_Table, _, _, _, _, _, _, _, _, _, _, T.me_Table_meeting, (ok_Table_meeting T).mono (by decide), hr, T.b_Table_meeting, .nil, pass0, fun _ _ _ _ _ h => h⟩) (pa_cons (pv 3) (pa_cons (pv 9) pa_nil))) (pa_cons (pv 10) pa_nil)))))))) (pss_one (ps_ret pe_bl)) pss_nil)
   (pss_one (ps_expr (pe_bm PySem.F.plainAttrs_list PySem.F.slot_list_append PySem.F.type_list_append mt_append (pv 6) (pa_cons (pe_tup (pa_cons (pv 11) (pa_cons (pv 10) pa_nil))) pa_nil))))))))) pss_nil))))))
   (pss_one (ps_ret (pe_and (pe_callB (call_allK (K := K) rfl rfl) rfl T.n_all (by decide +kernel) (pa_cons (pe_comp (N := ["_law_found", "_law_due"]) (cap := [none, none]) (by show CompScope (defScope s_law) _ ["_law_script", "_law_names", "_law_seed", "_law_asker", "_law_table", "_law_letters", "_law_held", "_law_cell", "_law_letter", "_law_number", "_law_due", "_law_found"] _ _; exact ⟨rfl, by decide +kernel, by decide +kernel, by decide +kernel, by decide +kernel, rfl, by decide +kernel⟩) rfl (pi_listK (K := K) rfl (pv 6)) (fun C s H fp => ⟨(pg_tupK (K := K) (n := 2) rfl rfl (pgs_cons (pg_name (i := 0) (by show (["_law_found", "_law_due"] : List Str).Nodup; decide +kernel) rfl (Or.inl rfl) (.inr rfl)) (pgs_cons (pg_name (i := 1) (by show (["_law_found", "_law_due"] : List Str).Nodup; decide +kernel) rfl (Or.inl rfl) (.inr rfl)) pgs_nil))), pf_none, (pe_call ((ok_law_like T).mono (by decide)) hr rfl T.m_law_like T.F_law_like.kp T.b_law_like .nil pass0 (pa_cons (pv 0) (pa_cons (pv 1) pa_nil)))⟩)) pa_nil)) (pe_one (pe_cmpR op_isN (pe_methV (n := 2) (D := fun C R => (C = a.x_Table ∧ R = fun x vs H Q => (sp_Table_meeting P w a.x_Table) (x :: (vs ++ ([] : List V))) H Q E0)) (pv 4) (by rintro C R ⟨rfl, rfl⟩ <;> first | exact ⟨T.cl_Table, _, _, _, _, _, _, _, _, _, _, T.me_Table_meeting, (ok_Table_meeting T).mono (by decide), hr, T.b_Table_meeting, .nil, pass0, fun _ _ _ _ _ h => h⟩) (pa_cons (pv 3) (pa_cons pe_int pa_nil))) pe_non (nomark _))))))))))))), ?_⟩
  have s0 := Same.refl H
  refine ⟨_, rfl, sa, ns, _, rfl, s0.seq hS, by decide, ⟨_, rfl, fun L nl H1 s1 hL hN => ?_⟩⟩
  refine ⟨_, rfl, sa, ns, _, rfl, s1.seq hS, by decide, ?_⟩
  obtain ⟨sd, hsd⟩ : ∃ sd, sd = cellF ns 1 := ⟨_, rfl⟩
  rw [← hsd]
  have hlo := hN.lo
  refine ⟨_, rfl, _, rfl, _, rfl, L, _, rfl, .inl (SqL.of hL), _, _, _, rfl, by decide, by decide, (by rw [List.length_map]; omega), fun v v0 v1 _ => ?_⟩
  rw [List.length_map] at v1
  obtain ⟨a0, ha, ea⟩ := atI_strs (ts := nl) (i := v) v0 v1
  refine ⟨L, _, _, _, rfl, rfl, SqL.of hL, ea, ?_⟩
  clear v0 v1 ea
  refine fun x dx nx ndx nex => ?_
  have up1 : ∀ b u, H1 b = some u → (upd (upd H1 dx (.own x)) x (.ins a.x_Table dx [])) b = some u := fun b u e => by rw [upd_ne (ne_of_none e nx), upd_ne (ne_of_none e ndx)]; exact e
  refine ⟨x, dx, rfl, upd_same, fun k0 m0 t0 H2 fr hk0 hm0 ht0 hT => ⟨rfl, ?_⟩⟩
  have f1 : ∀ b, (upd (upd H1 dx (.own x)) x (.ins a.x_Table dx [])) b = none → H1 b = none := fun b e => by
   cases e2 : H1 b with
   | none => rfl
   | some o => rw [up1 b o e2] at e; cases e
  replace hk0 := f1 _ hk0
  replace hm0 := f1 _ hm0
  replace ht0 := f1 _ ht0
  have s2 : Same H1 H2 := fun b u e => fr b u (up1 b u e) (ne_of_none e nx)
  clear fr f1 up1
  have f2 : ∀ b, H2 b = none → H1 b = none := fun b e => by
   cases e2 : H1 b with
   | none => rfl
   | some o => rw [s2 b o e2] at e; cases e
  refine ⟨(by show 0 ≤ sizeLine; decide), fun Kp hKp => ?_⟩
  have u1 := same_upd (o := .lst []) hKp
  have hKp1 := f2 _ hKp
  refine ⟨(by show 0 ≤ sizeLine; decide), fun Hd hHd => ?_⟩
  have u2 := same_upd (o := .lst []) hHd
  have hHd1 : H1 Hd = none := by
   cases e2 : H1 Hd with
   | none => rfl
   | some o => rw [u1 _ _ (s2 _ o e2)] at hHd; cases hHd
  have eK : (upd (upd H2 Kp (.lst [])) Hd (.lst [])) Kp = some (.lst []) := u2 _ _ upd_same
  have eH : (upd (upd H2 Kp (.lst [])) Hd (.lst [])) Hd = some (.lst []) := upd_same
  have neK : Kp ≠ Hd := ne_of_none (upd_same (H := H2) (a := Kp) (o := .lst [])) hHd
  have s3 : Same H1 (upd (upd H2 Kp (.lst [])) Hd (.lst [])) := (s2.trans u1).trans u2
  replace hT := (hT.up u1).up u2
  clear u1 u2 f2 hKp hHd
  generalize upd (upd H2 Kp (.lst [])) Hd (.lst []) = H3 at *
  have hM : ∀ b, MK k0 m0 t0 [] Kp Hd b → H1 b = none := by
   rintro b ((z | z | z | ⟨y, hy, z⟩) | z | z)
   · rw [z]; exact hk0
   · rw [z]; exact hm0
   · rw [z]; exact ht0
   · cases hy
   · rw [z]; exact hKp1
   · rw [z]; exact hHd1
  have I3 : LI (fun l => LtOk l ∧ Det sd nl l ∧ l.number ≤ 1) P w a.x_Table (Frm (MK k0 m0 t0 [] Kp Hd) H3) H3 x k0 m0 t0 Kp Hd [] [] [] [] := ⟨Same.refl _, hT, (fun _ z => nomatch z), List.nodup_nil, eK, eH, (fun _ z => nomatch z), (fun _ z => nomatch z), neK⟩
  refine ⟨_, rfl, _, rfl, _, rfl, sa, _, rfl, (s1.trans s3).seq hS, fun S hS0 => ⟨S, rfl, ⟨_, SqL.of upd_same⟩, ?_⟩⟩
  have uS := same_upd (o := .lst (cutV (ns.map V.int) (some 2) (some 32))) hS0
  have hSF : Frm (MK k0 m0 t0 [] Kp Hd) (upd H3 S (.lst (cutV (ns.map V.int) (some 2) (some 32)))) S = some (.lst (cutV (ns.map V.int) (some 2) (some 32))) := Frm.laid (M := MK k0 m0 t0 [] Kp Hd) (fun b h => I3.mk_ h) hS0
  have IB := I3.up uS
  replace s3 := s3.trans uS
  have hcl : (cutV (ns.map V.int) (some 2) (some 32)).length ≤ 63 := by
   have h1 := cutV_length (ns.map V.int) (some 2) (some 32)
   rw [List.length_map] at h1
   omega
  have hcell : ∀ v ∈ cutV (ns.map V.int) (some 2) (some 32), ∃ c : Int, v = .int c := fun v hv => by
   obtain ⟨n, _, e⟩ := List.mem_map.mp (List.mem_of_mem_drop (List.mem_of_mem_take hv))
   exact ⟨n, e.symm⟩
  generalize upd H3 S (.lst (cutV (ns.map V.int) (some 2) (some 32))) = HB at *
  generalize cutV (ns.map V.int) (some 2) (some 32) = cs at *
  have s1F : Same H1 (Frm (MK k0 m0 t0 [] Kp Hd) HB) := fun b o e => Frm.iff.mpr ⟨(fun z => by rw [hM b z] at e; cases e), s3 b o e⟩
  replace IB : LI (fun l => LtOk l ∧ Det sd nl l ∧ l.number ≤ 1) P w a.x_Table (Frm (MK k0 m0 t0 [] Kp Hd) HB) HB x k0 m0 t0 Kp Hd [] [] [] [] := { IB with base := Same.refl _ }
  clear I3 hT eK eH hM s3 uS
  generalize Frm (MK k0 m0 t0 [] Kp Hd) HB = H0 at *
  replace hL := s1F _ _ hL
  have sH := s1.trans s1F
  have tl0 : TlOk HB [] [] := ⟨fun k => .inl ⟨rfl, fun x h => nomatch h.1⟩, fun _ h => nomatch h⟩
  refine for_seq (seq_list (K := K) (SqL.of hSF)) (fun i σ H' => ∃ ms bs ts hs y7 y8 y9 y10 y11, LI (fun l => LtOk l ∧ Det sd nl l ∧ l.number ≤ 1) P w a.x_Table H0 H' x k0 m0 t0 Kp Hd ms bs ts hs ∧ TlOk H' ms ts ∧ ms.length ≤ i ∧ hs.length ≤ 3 * i ∧ σ = [some (.ref sa), some (.ref L), some (.int sd), some (.str a0), some (.ref x), some (.ref Kp), some (.ref Hd), y7, y8, y9, y10, y11]) ⟨[], [], [], [], _, _, _, _, _, IB, tl0, Nat.le_refl _, Nat.le_refl _, rfl⟩ (fun i σ H' _ h => by obtain ⟨ms, bs, ts, hs, y7, y8, y9, y10, y11, I, _⟩ := h; exact I.base.trans Frm.same) ?_ ?_
  ·
   rintro i v σ H4 hv ⟨ms, bs, ts, hs, y7, y8, y9, y10, y11, I, tl, hm1, hh1, rfl⟩
   have hi : i < 63 := by have := (List.getElem?_eq_some_iff.mp hv).1; omega
   obtain ⟨c, rfl⟩ := hcell v (List.mem_of_getElem? hv)
   have S4 := I.base.trans Frm.same
   refine ⟨_, rfl, _, rfl, _, rfl, L, nl, c, sd, rfl, S4 _ _ hL, hN, fun p l H5 s5 hp hok hdt hnu => ?_⟩
   have hsz := ok_sz hok
   replace I := I.up s5
   replace tl := tl.up s5
   clear S4 s5
   obtain ⟨dx, hx⟩ := I.tab.ins
   have nw : (ms.map fun y => V.ref y.2) ++ [V.ref p] = (ms ++ [(l, p)]).map fun y => V.ref y.2 := by rw [List.map_append]; rfl
   refine ⟨fun σ H' => σ = [some (.ref sa), some (.ref L), some (.int sd), some (.str a0), some (.ref x), some (.ref Kp), some (.ref Hd), some (.int c), some (.ref p), y9, y10, y11] ∧ LtAt H' l p ∧ ((hasK (nks ms) l.nk = true ∧ LI (fun l => LtOk l ∧ Det sd nl l ∧ l.number ≤ 1) P w a.x_Table H0 H' x k0 m0 t0 Kp Hd ms bs ts hs ∧ TlOk H' ms ts) ∨ ∃ bs' ts', hasK (nks ms) l.nk = false ∧ H' Kp = some (.lst (ms.map fun y => V.ref y.2)) ∧ TabAt P w a.x_Table H' x k0 m0 t0 (ms ++ [(l, p)]) bs' ts' ∧ LI (fun l => LtOk l ∧ Det sd nl l ∧ l.number ≤ 1) P w a.x_Table H0 (upd H' Kp (.lst ((ms.map fun y => V.ref y.2) ++ [.ref p]))) x k0 m0 t0 Kp Hd (ms ++ [(l, p)]) bs' ts' hs ∧ TlOk H' (ms ++ [(l, p)]) ts'), ?_, ?_⟩
   ·
    refine ⟨_, rfl, x, _, dx, _, _, rfl, hx, rfl, ⟨rfl, rfl⟩, _, rfl, rfl, x, k0, m0, t0, p, ms, bs, ts, l, rfl, I.tab, tl, fun y hy => ok_g (I.lok y hy).1, hp, hok, hsz, ok_g hok, by omega, fun hh H6 s6 => ⟨rfl, hp.up s6, .inl ⟨hh, I.up s6, tl.up s6⟩⟩, fun hh bs' ts' H6 fr new T6 tl6 => ?_⟩
    obtain ⟨kp6, I6⟩ := I.took fr new T6 ⟨hok, hdt, hnu⟩ hh
    exact ⟨rfl, T6.ok (l, p) (List.mem_append_right _ (List.mem_singleton.mpr rfl)), .inr ⟨bs', ts', hh, kp6, T6, I6, tl6⟩⟩
   rintro _ H6 ⟨rfl, hp6, hc⟩
   refine ⟨fun σ H' => ∃ ms bs ts, LI (fun l => LtOk l ∧ Det sd nl l ∧ l.number ≤ 1) P w a.x_Table H0 H' x k0 m0 t0 Kp Hd ms bs ts hs ∧ TlOk H' ms ts ∧ ms.length ≤ i + 1 ∧ σ = [some (.ref sa), some (.ref L), some (.int sd), some (.str a0), some (.ref x), some (.ref Kp), some (.ref Hd), some (.int c), some (.ref p), y9, y10, y11], ?_, ?_⟩
   ·
    rcases hc with ⟨hh, I6, tl6⟩ | ⟨bs', ts', hh, kp6, T6, I6, tl6⟩
    ·
     refine ⟨_, rfl, _, rfl, p, Kp, l.nk, nks ms, rfl, rfl, hp6.nk, (by rw [nks_refs]; exact I6.kp), nks_ok I6.tab.ok, _, rfl, ?_⟩
     rw [hh]
     exact iteF ⟨ms, bs, ts, I6, tl6, by omega, rfl⟩
    ·
     refine ⟨_, rfl, _, rfl, p, Kp, l.nk, nks ms, rfl, rfl, hp6.nk, (by rw [nks_refs]; exact kp6), nks_ok (fun y hy => T6.ok y (List.mem_append_left _ hy)), _, rfl, ?_⟩
     rw [hh]
     exact iteT ⟨_, rfl, .inl ⟨rfl, _, SqL.of kp6⟩, _, rfl, Kp, _, _, rfl, rfl, kp6, (by rw [List.length_map, sizeLine_eq]; omega), _, bs', ts', I6, tl6.upT (fun b xs e => by rw [upd_ne (ne_of e kp6 (fun z => nomatch z))]; exact e), by rw [List.length_append]; show _ + 1 ≤ _; omega, rfl⟩
   rintro _ H7 ⟨ms, bs, ts, I, tl, hm1, rfl⟩
   clear hc hp6 hp dx hx nw hok hdt hnu hsz
   refine tOr_go (fun b => ?_) (fun hK => ⟨_, rfl, Kp, _, rfl, .inl (SqL.of I.kp), _, _, rfl, rfl, (by show (0 : Int) < 3; decide), rfl, _, rfl, ite2 (fun _ => hK true) (fun _ => ⟨_, rfl, _, _, rfl, rfl, (by show (0 : Int) < 2; decide), rfl, _, rfl, hK _⟩)⟩)
   refine ite2 (fun _ => ?_) (fun _ => ⟨ms, bs, ts, hs, _, _, _, _, _, I, tl, by omega, by omega, rfl⟩)
   refine ⟨_, rfl, _, _, rfl, rfl, ⟨by decide, by decide⟩, _, _, rfl, rfl, (by show (0 : Int) < 2; decide), _, rfl, _, _, rfl, rfl, ⟨by decide, by decide⟩, _, _, rfl, rfl, (by show (0 : Int) < 2; decide), _, _, rfl, rfl, (by show 3 ≤ sizeLine; decide), fun N hN0 => ⟨N, rfl, ⟨_, SqL.of upd_same⟩, ?_⟩⟩
   have uN := same_upd (o := .lst [.int (c / 2 % 2), .int (1 - c / 2 % 2), .int 2]) hN0
   have hNF : Frm (MK k0 m0 t0 bs Kp Hd) (upd H7 N (.lst [.int (c / 2 % 2), .int (1 - c / 2 % 2), .int 2])) N = some (.lst [.int (c / 2 % 2), .int (1 - c / 2 % 2), .int 2]) := Frm.laid (M := MK k0 m0 t0 bs Kp Hd) (fun b h => I.mk_ h) hN0
   have hb0 := I.base.trans (Frm.grow uN)
   have IN := (I.up uN).self
   have tlN := tl.up uN
   generalize upd H7 N (.lst [.int (c / 2 % 2), .int (1 - c / 2 % 2), .int 2]) = HN at *
   have hU : ∀ n : Int, Uniq (inK ms (a0, n)) := fun n => det_uniq (s := sd) (ns := nl) fun z hz => ⟨by obtain ⟨y, hy, rfl⟩ := List.mem_map.mp hz.1; exact (IN.lok y hy).2.1, hz.2⟩
   have hvs : ∀ v ∈ [V.int (c / 2 % 2), V.int (1 - c / 2 % 2), V.int 2], ∃ n : Int, v = .int n := by
    intro v hv
    simp only [List.mem_cons, List.not_mem_nil, or_false] at hv
    rcases hv with rfl | rfl | rfl <;> exact ⟨_, rfl⟩
   refine for_seq (seq_list (K := K) (SqL.of hNF)) (fun j σ H' => ∃ hs' y9 y10 y11, LI (fun l => LtOk l ∧ Det sd nl l ∧ l.number ≤ 1) P w a.x_Table (Frm (MK k0 m0 t0 bs Kp Hd) HN) H' x k0 m0 t0 Kp Hd ms bs ts hs' ∧ TlOk H' ms ts ∧ hs'.length ≤ 3 * i + j ∧ σ = [some (.ref sa), some (.ref L), some (.int sd), some (.str a0), some (.ref x), some (.ref Kp), some (.ref Hd), some (.int c), some (.ref p), y9, y10, y11]) ⟨hs, _, _, _, IN, tlN, hh1, rfl⟩ (fun _ _ _ _ h => by obtain ⟨_, _, _, _, J, _⟩ := h; exact J.base.trans Frm.same) ?_ ?_
   ·
    rintro j v σ H8 hv ⟨hs', z9, z10, z11, J, tj, hj, rfl⟩
    have hj3 : j < 3 := (List.getElem?_eq_some_iff.mp hv).1
    obtain ⟨n, rfl⟩ := hvs v (List.mem_of_getElem? hv)
    refine ⟨_, rfl, _, rfl, _, rfl, Kp, ms, a0, n, rfl, ⟨J.kp, J.tab.ok, by omega⟩, J.tab.sz, by omega, fun v H9 s9 hv9 => ?_⟩
    have J9 := J.up s9
    have t9 := tj.up s9
    obtain ⟨dx, hx⟩ := J9.tab.ins
    refine ⟨_, rfl, x, _, dx, _, _, rfl, hx, rfl, ⟨rfl, rfl⟩, _, rfl, _, rfl, rfl, x, k0, m0, t0, ms, bs, ts, a0, n, rfl, J9.tab, fun HA sA => ?_⟩
    have hal := told_alike t9 (hU n) hv9
    refine ⟨_, rfl, _, rfl, _, _, rfl, hal.up sA, fun HB sB => ⟨_, rfl, iteF ?_⟩⟩
    refine ⟨_, rfl, x, _, dx, _, _, rfl, (sA.trans sB) _ _ hx, rfl, ⟨rfl, rfl⟩, _, rfl, _, rfl, rfl, x, k0, m0, t0, ms, bs, ts, a0, n, rfl, (J9.up (sA.trans sB)).tab, fun HC sC => ?_⟩
    refine ⟨_, rfl, _, _, rfl, hal.up ((sA.trans sB).trans sC), fun HD sD => ⟨_, rfl, iteF ?_⟩⟩
    have sZ := ((sA.trans sB).trans sC).trans sD
    have JD := J9.up sZ
    refine ⟨_, rfl, .inl ⟨rfl, _, SqL.of JD.hd⟩, _, rfl, _, rfl, (by show 2 ≤ sizeLine; decide), fun pa hpa => ?_⟩
    generalize hfo : (valV ts (mkK (a0, n))).getD .non = fo at *
    have u4 := same_upd (o := .tup [fo, v]) hpa
    have JE := JD.up u4
    have hpF : Frm (MK k0 m0 t0 bs Kp Hd) (upd HD pa (.tup [fo, v])) pa = some (.tup [fo, v]) := Frm.laid (M := MK k0 m0 t0 bs Kp Hd) (fun b h => JD.mk_ h) hpa
    have tE := (t9.up sZ).up u4
    have halF : AlH (Frm (MK k0 m0 t0 bs Kp Hd) (upd HD pa (.tup [fo, v]))) 6 fo v := by
     rw [← hfo]
     rw [← hfo] at JE tE u4
     exact told_alike (tE.upT JE.tupF) (hU n) (hv9.imp id fun ⟨r, d, e1, e2, e3⟩ => ⟨r, d, e1, ((e2.up sZ).up u4).upT JE.tupF, e3⟩)
    generalize upd HD pa (.tup [fo, v]) = HE at *
    refine ⟨Hd, _, _, rfl, rfl, JE.hd, (by rw [List.length_map, sizeLine_eq]; omega), hs' ++ [pa], _, _, _, JE.keep ⟨_, _, hpF, halF⟩, tE.upT (fun b xs e => by rw [upd_ne (ne_of e JE.hd (fun z => nomatch z))]; exact e), by rw [List.length_append]; show _ + 1 ≤ _; omega, rfl⟩
   ·
    rintro σ H8 ⟨hs', z9, z10, z11, J, tj, hj, rfl⟩
    exact ⟨ms, bs, ts, hs', _, _, _, _, _, J.rebase hb0, tj, by omega, Nat.le_trans hj (by show 3 * i + 3 ≤ _; omega), rfl⟩
  rintro σ H4 ⟨ms, bs, ts, hs, y7, y8, y9, y10, y11, I, tl, hm1, hh1, rfl⟩
  obtain ⟨rs, hrs, hq⟩ := held_list fun h hh => (I.held h hh).up Frm.same
  have hHd := I.hd
  rw [hrs, List.map_map] at hHd
  have hrl : rs.length ≤ 1000 := by have e := congrArg List.length hrs; rw [List.length_map] at e; omega
  refine ⟨_, rfl, Hd, rfl, ⟨_, SqL.of hHd⟩, ?_⟩
  refine comp_two (seq_list (K := K) (SqL.of hHd)) (fun r hr => (hq r hr).1) (fun _ => .bl true) (by omega) (fun _ _ _ h => h) ?_ (fun D H5 s5 hD0 hD => ?_)
  ·
   intro r hr H' sm R hR
   exact ⟨_, rfl, _, rfl, _, _, rfl, (hq r hr).2.up sm, fun H'' s'' => hR H'' s''⟩
  rw [bls_mapA] at hD
  refine ⟨D, _, rfl, SqL.of hD, _, rfl, ?_⟩
  rw [bls_all]
  refine iteT ?_
  obtain ⟨dx, hx⟩ := (I.up s5).tab.ins
  refine ⟨_, rfl, x, _, dx, _, _, rfl, hx, rfl, ⟨rfl, rfl⟩, _, rfl, rfl, x, k0, m0, t0, ms, bs, ts, a0, 7, rfl, (I.up s5).tab, fun H6 s6 => ?_⟩
  have e7 : valV ts (mkK (a0, 7)) = none := by
   rcases tl.val (a0, 7) with ⟨e, _⟩ | ⟨r, d, _, _, z, hz, _⟩
   · exact e
   ·
    obtain ⟨y, hy, ey⟩ := List.mem_map.mp hz.1.1
    have h1 := (I.lok y hy).2.2
    have h2 : z.number = 7 := congrArg Prod.snd hz.1.2
    rw [ey] at h1
    omega
  rw [e7]
  exact ⟨rfl, k _⟩
end
end K63
namespace K63
open PySem L2 DW
theorem txt_mk {K : W.Frag} {h : Heap} {mg : Str → Option Value} (X : K.In h) (G : h.Ns mainGlobals mg)
  {x_Table : Addr}
  {fqb : Addr} {ocqb kVqb dcqb pmqb cdqb ctqb : Value} {odqb anqb : Option Addr} {slqb : Array (Option Value)}
  {fqs : Addr} {ocqs kVqs dcqs pmqs cdqs ctqs : Value} {odqs anqs : Option Addr} {slqs : Array (Option Value)}
  {fqm : Addr} {ocqm kVqm dcqm pmqm cdqm ctqm : Value} {odqm anqm : Option Addr} {slqm : Array (Option Value)}
  {fqh : Addr} {ocqh kVqh dcqh pmqh cdqh ctqh : Value} {odqh anqh : Option Addr} {slqh : Array (Option Value)}
  {fqd : Addr} {ocqd kVqd dcqd pmqd cdqd ctqd : Value} {odqd anqd : Option Addr} {slqd : Array (Option Value)}
  {fqe : Addr} {ocqe kVqe dcqe pmqe cdqe ctqe : Value} {odqe anqe : Option Addr} {slqe : Array (Option Value)}
  {fqn : Addr} {ocqn kVqn dcqn pmqn cdqn ctqn : Value} {odqn anqn : Option Addr} {slqn : Array (Option Value)}
  {fq2 : Addr} {ocq2 kVq2 dcq2 pmq2 cdq2 ctq2 : Value} {odq2 anq2 : Option Addr} {slq2 : Array (Option Value)}
  {fq4 : Addr} {ocq4 kVq4 dcq4 pmq4 cdq4 ctq4 : Value} {odq4 anq4 : Option Addr} {slq4 : Array (Option Value)}
  {fq6 : Addr} {ocq6 kVq6 dcq6 pmq6 cdq6 ctq6 : Value} {odq6 anq6 : Option Addr} {slq6 : Array (Option Value)}
  {fqf : Addr} {ocqf kVqf dcqf pmqf cdqf ctqf : Value} {odqf anqf : Option Addr} {slqf : Array (Option Value)}
  {fq8 : Addr} {ocq8 kVq8 dcq8 pmq8 cdq8 ctq8 : Value} {odq8 anq8 : Option Addr} {slq8 : Array (Option Value)}
  {fqu : Addr} {ocqu kVqu dcqu pmqu cdqu ctqu : Value} {odqu anqu : Option Addr} {slqu : Array (Option Value)}
  {fq0 : Addr} {ocq0 kVq0 dcq0 pmq0 cdq0 ctq0 : Value} {odq0 anq0 : Option Addr} {slq0 : Array (Option Value)}
  {fqt : Addr} {ocqt kVqt dcqt pmqt cdqt ctqt : Value} {odqt anqt : Option Addr} {slqt : Array (Option Value)}
  {fqv : Addr} {ocqv kVqv dcqv pmqv cdqv ctqv : Value} {odqv anqv : Option Addr} {slqv : Array (Option Value)}
  {fq7 : Addr} {ocq7 kVq7 dcq7 pmq7 cdq7 ctq7 : Value} {odq7 anq7 : Option Addr} {slq7 : Array (Option Value)}
  {fq5 : Addr} {ocq5 kVq5 dcq5 pmq5 cdq5 ctq5 : Value} {odq5 anq5 : Option Addr} {slq5 : Array (Option Value)}
  {fqo : Addr} {ocqo kVqo dcqo pmqo cdqo ctqo : Value} {odqo anqo : Option Addr} {slqo : Array (Option Value)}
  {fq1 : Addr} {ocq1 kVq1 dcq1 pmq1 cdq1 ctq1 : Value} {odq1 anq1 : Option Addr} {slq1 : Array (Option Value)}
  {fql : Addr} {ocql kVql dcql pmql cdql ctql : Value} {odql anql : Option Addr} {slql : Array (Option Value)}
  {fqx : Addr} {ocqx kVqx dcqx pmqx cdqx ctqx : Value} {odqx anqx : Option Addr} {slqx : Array (Option Value)}
  {fqg : Addr} {ocqg kVqg dcqg pmqg cdqg ctqg : Value} {odqg anqg : Option Addr} {slqg : Array (Option Value)}
  {fq9 : Addr} {ocq9 kVq9 dcq9 pmq9 cdq9 ctq9 : Value} {odq9 anq9 : Option Addr} {slq9 : Array (Option Value)}
  {fq3 : Addr} {ocq3 kVq3 dcq3 pmq3 cdq3 ctq3 : Value} {odq3 anq3 : Option Addr} {slq3 : Array (Option Value)}
  {fqk : Addr} {ocqk kVqk dcqk pmqk cdqk ctqk : Value} {odqk anqk : Option Addr} {slqk : Array (Option Value)}
  {fqi : Addr} {ocqi kVqi dcqi pmqi cdqi ctqi : Value} {odqi anqi : Option Addr} {slqi : Array (Option Value)}
  {fqr : Addr} {ocqr kVqr dcqr pmqr cdqr ctqr : Value} {odqr anqr : Option Addr} {slqr : Array (Option Value)}
  {fqc : Addr} {ocqc kVqc dcqc pmqc cdqc ctqc : Value} {odqc anqc : Option Addr} {slqc : Array (Option Value)}
  {fqw : Addr} {ocqw kVqw dcqw pmqw cdqw ctqw : Value} {odqw anqw : Option Addr} {slqw : Array (Option Value)}
  {fqq : Addr} {ocqq kVqq dcqq pmqq cdqq ctqq : Value} {odqq anqq : Option Addr} {slqq : Array (Option Value)}
  {fqj : Addr} {ocqj kVqj dcqj pmqj cdqj ctqj : Value} {odqj anqj : Option Addr} {slqj : Array (Option Value)}
  {fqa : Addr} {ocqa kVqa dcqa pmqa cdqa ctqa : Value} {odqa anqa : Option Addr} {slqa : Array (Option Value)}
  {fqp : Addr} {ocqp kVqp dcqp pmqp cdqp ctqp : Value} {odqp anqp : Option Addr} {slqp : Array (Option Value)}
  {fqy : Addr} {ocqy kVqy dcqy pmqy cdqy ctqy : Value} {odqy anqy : Option Addr} {slqy : Array (Option Value)}
  {t_FIGURES : Tok}
  {t_LETTERS : Tok}
  {t_MOST_HANDS : Tok}
  {t_NAME_SIGNS : Tok}
  (aC_Table : W.nsIn K mainGlobals "Table" = some (some (.ref x_Table)))
  (pg_Table : W.plainGet K x_Table Str.empty = true)
  (hd_Table : W.hasDictIn K x_Table = true)
  (po_Table : W.plainOver K x_Table = true)
  (sa_Table : W.findIn K (.ref x_Table) "__setattr__" = some (some (.builtin "object.__setattr__")))
  (mk_Table : W.makesIn K x_Table = true)
  (kc_Table : W.keepIn K (.ref x_Table) = true)
  (nf_kept_Table : W.findIn K (.ref x_Table) "kept" = some none)
  (nf_by_meeting_Table : W.findIn K (.ref x_Table) "by_meeting" = some none)
  (nf_tellings_Table : W.findIn K (.ref x_Table) "tellings" = some none)
  (aqb : W.nsIn K mainGlobals "is_made_of" = some (some (.ref fqb))) (lqb : K.lookup fqb = some ⟨ocqb, odqb, .func (W.fnOf "is_made_of" "is_made_of" (defArgs s_is_made_of) (defBody s_is_made_of) (defScope s_is_made_of) .none kVqb dcqb pmqb anqb cdqb ctqb), slqb⟩) (eqb : W.codeIn K cdqb "is_made_of" = true) (kqb : W.keepIn K (.ref fqb) = true)
  (aqs : W.nsIn K mainGlobals "is_span" = some (some (.ref fqs))) (lqs : K.lookup fqs = some ⟨ocqs, odqs, .func (W.fnOf "is_span" "is_span" (defArgs s_is_span) (defBody s_is_span) (defScope s_is_span) .none kVqs dcqs pmqs anqs cdqs ctqs), slqs⟩) (eqs : W.codeIn K cdqs "is_span" = true) (kqs : W.keepIn K (.ref fqs) = true)
  (aqm : W.nsIn K mainGlobals "is_number" = some (some (.ref fqm))) (lqm : K.lookup fqm = some ⟨ocqm, odqm, .func (W.fnOf "is_number" "is_number" (defArgs s_is_number) (defBody s_is_number) (defScope s_is_number) .none kVqm dcqm pmqm anqm cdqm ctqm), slqm⟩) (eqm : W.codeIn K cdqm "is_number" = true) (kqm : W.keepIn K (.ref fqm) = true)
  (aqh : W.nsIn K mainGlobals "is_rising" = some (some (.ref fqh))) (lqh : K.lookup fqh = some ⟨ocqh, odqh, .func (W.fnOf "is_rising" "is_rising" (defArgs s_is_rising) (defBody s_is_rising) (defScope s_is_rising) .none kVqh dcqh pmqh anqh cdqh ctqh), slqh⟩) (eqh : W.codeIn K cdqh "is_rising" = true) (kqh : W.keepIn K (.ref fqh) = true)
  (aqd : W.nsIn K mainGlobals "turn_first" = some (some (.ref fqd))) (lqd : K.lookup fqd = some ⟨ocqd, odqd, .func (W.fnOf "turn_first" "turn_first" (defArgs s_turn_first) (defBody s_turn_first) (defScope s_turn_first) .none kVqd dcqd pmqd anqd cdqd ctqd), slqd⟩) (eqd : W.codeIn K cdqd "turn_first" = true) (kqd : W.keepIn K (.ref fqd) = true)
  (aqe : W.nsIn K mainGlobals "answers_of" = some (some (.ref fqe))) (lqe : K.lookup fqe = some ⟨ocqe, odqe, .func (W.fnOf "answers_of" "answers_of" (defArgs s_answers_of) (defBody s_answers_of) (defScope s_answers_of) .none kVqe dcqe pmqe anqe cdqe ctqe), slqe⟩) (eqe : W.codeIn K cdqe "answers_of" = true) (kqe : W.keepIn K (.ref fqe) = true)
  (aqn : W.nsIn K mainGlobals "with_word" = some (some (.ref fqn))) (lqn : K.lookup fqn = some ⟨ocqn, odqn, .func (W.fnOf "with_word" "with_word" (defArgs s_with_word) (defBody s_with_word) (defScope s_with_word) .none kVqn dcqn pmqn anqn cdqn ctqn), slqn⟩) (eqn : W.codeIn K cdqn "with_word" = true) (kqn : W.keepIn K (.ref fqn) = true)
  (aq2 : W.findIn K (.ref x_Table) "meeting" = some (some (.ref fq2))) (lq2 : K.lookup fq2 = some ⟨ocq2, odq2, .func (W.fnOf "meeting" "Table.meeting" (defArgs s_Table_meeting) (defBody s_Table_meeting) (defScope s_Table_meeting) .none kVq2 dcq2 pmq2 anq2 cdq2 ctq2), slq2⟩) (eq2 : W.codeIn K cdq2 "Table.meeting" = true) (kq2 : W.keepIn K (.ref fq2) = true)
  (iq2 : W.isFn K (.ref fq2) = true)
  (aq4 : W.findIn K (.ref x_Table) "__init__" = some (some (.ref fq4))) (lq4 : K.lookup fq4 = some ⟨ocq4, odq4, .func (W.fnOf "__init__" "Table.__init__" (defArgs s_Table___init) (defBody s_Table___init) (defScope s_Table___init) .none kVq4 dcq4 pmq4 anq4 cdq4 ctq4), slq4⟩) (eq4 : W.codeIn K cdq4 "Table.__init__" = true) (kq4 : W.keepIn K (.ref fq4) = true)
  (iq4 : W.isFn K (.ref fq4) = true)
  (aq6 : W.nsIn K mainGlobals "_law_cell_at" = some (some (.ref fq6))) (lq6 : K.lookup fq6 = some ⟨ocq6, odq6, .func (W.fnOf "_law_cell_at" "_law_cell_at" (defArgs s_law_cell_at) (defBody s_law_cell_at) (defScope s_law_cell_at) .none kVq6 dcq6 pmq6 anq6 cdq6 ctq6), slq6⟩) (eq6 : W.codeIn K cdq6 "_law_cell_at" = true) (kq6 : W.keepIn K (.ref fq6) = true)
  (aqf : W.nsIn K mainGlobals "_law_mixed" = some (some (.ref fqf))) (lqf : K.lookup fqf = some ⟨ocqf, odqf, .func (W.fnOf "_law_mixed" "_law_mixed" (defArgs s_law_mixed) (defBody s_law_mixed) (defScope s_law_mixed) .none kVqf dcqf pmqf anqf cdqf ctqf), slqf⟩) (eqf : W.codeIn K cdqf "_law_mixed" = true) (kqf : W.keepIn K (.ref fqf) = true)
  (aq8 : W.nsIn K mainGlobals "_law_name_by" = some (some (.ref fq8))) (lq8 : K.lookup fq8 = some ⟨ocq8, odq8, .func (W.fnOf "_law_name_by" "_law_name_by" (defArgs s_law_name_by) (defBody s_law_name_by) (defScope s_law_name_by) .none kVq8 dcq8 pmq8 anq8 cdq8 ctq8), slq8⟩) (eq8 : W.codeIn K cdq8 "_law_name_by" = true) (kq8 : W.keepIn K (.ref fq8) = true)
  (aqu : W.nsIn K mainGlobals "_law_key" = some (some (.ref fqu))) (lqu : K.lookup fqu = some ⟨ocqu, odqu, .func (W.fnOf "_law_key" "_law_key" (defArgs s_law_key) (defBody s_law_key) (defScope s_law_key) .none kVqu dcqu pmqu anqu cdqu ctqu), slqu⟩) (equ : W.codeIn K cdqu "_law_key" = true) (kqu : W.keepIn K (.ref fqu) = true)
  (aq0 : W.nsIn K mainGlobals "_law_meeting_by" = some (some (.ref fq0))) (lq0 : K.lookup fq0 = some ⟨ocq0, odq0, .func (W.fnOf "_law_meeting_by" "_law_meeting_by" (defArgs s_law_meeting_by) (defBody s_law_meeting_by) (defScope s_law_meeting_by) .none kVq0 dcq0 pmq0 anq0 cdq0 ctq0), slq0⟩) (eq0 : W.codeIn K cdq0 "_law_meeting_by" = true) (kq0 : W.keepIn K (.ref fq0) = true)
  (aqt : W.nsIn K mainGlobals "is_name" = some (some (.ref fqt))) (lqt : K.lookup fqt = some ⟨ocqt, odqt, .func (W.fnOf "is_name" "is_name" (defArgs s_is_name) (defBody s_is_name) (defScope s_is_name) .none kVqt dcqt pmqt anqt cdqt ctqt), slqt⟩) (eqt : W.codeIn K cdqt "is_name" = true) (kqt : W.keepIn K (.ref fqt) = true)
  (aqv : W.nsIn K mainGlobals "is_from" = some (some (.ref fqv))) (lqv : K.lookup fqv = some ⟨ocqv, odqv, .func (W.fnOf "is_from" "is_from" (defArgs s_is_from) (defBody s_is_from) (defScope s_is_from) .none kVqv dcqv pmqv anqv cdqv ctqv), slqv⟩) (eqv : W.codeIn K cdqv "is_from" = true) (kqv : W.keepIn K (.ref fqv) = true)
  (aq7 : W.nsIn K mainGlobals "told_of_bid" = some (some (.ref fq7))) (lq7 : K.lookup fq7 = some ⟨ocq7, odq7, .func (W.fnOf "told_of_bid" "told_of_bid" (defArgs s_told_of_bid) (defBody s_told_of_bid) (defScope s_told_of_bid) .none kVq7 dcq7 pmq7 anq7 cdq7 ctq7), slq7⟩) (eq7 : W.codeIn K cdq7 "told_of_bid" = true) (kq7 : W.keepIn K (.ref fq7) = true)
  (aq5 : W.nsIn K mainGlobals "_law_names_by" = some (some (.ref fq5))) (lq5 : K.lookup fq5 = some ⟨ocq5, odq5, .func (W.fnOf "_law_names_by" "_law_names_by" (defArgs s_law_names_by) (defBody s_law_names_by) (defScope s_law_names_by) .none kVq5 dcq5 pmq5 anq5 cdq5 ctq5), slq5⟩) (eq5 : W.codeIn K cdq5 "_law_names_by" = true) (kq5 : W.keepIn K (.ref fq5) = true)
  (aqo : W.nsIn K mainGlobals "_law_some" = some (some (.ref fqo))) (lqo : K.lookup fqo = some ⟨ocqo, odqo, .func (W.fnOf "_law_some" "_law_some" (defArgs s_law_some) (defBody s_law_some) (defScope s_law_some) .none kVqo dcqo pmqo anqo cdqo ctqo), slqo⟩) (eqo : W.codeIn K cdqo "_law_some" = true) (kqo : W.keepIn K (.ref fqo) = true)
  (aq1 : W.nsIn K mainGlobals "_law_answer_of" = some (some (.ref fq1))) (lq1 : K.lookup fq1 = some ⟨ocq1, odq1, .func (W.fnOf "_law_answer_of" "_law_answer_of" (defArgs s_law_answer_of) (defBody s_law_answer_of) (defScope s_law_answer_of) .none kVq1 dcq1 pmq1 anq1 cdq1 ctq1), slq1⟩) (eq1 : W.codeIn K cdq1 "_law_answer_of" = true) (kq1 : W.keepIn K (.ref fq1) = true)
  (aql : W.nsIn K mainGlobals "is_called" = some (some (.ref fql))) (lql : K.lookup fql = some ⟨ocql, odql, .func (W.fnOf "is_called" "is_called" (defArgs s_is_called) (defBody s_is_called) (defScope s_is_called) .none kVql dcql pmql anql cdql ctql), slql⟩) (eql : W.codeIn K cdql "is_called" = true) (kql : W.keepIn K (.ref fql) = true)
  (aqx : W.nsIn K mainGlobals "is_off" = some (some (.ref fqx))) (lqx : K.lookup fqx = some ⟨ocqx, odqx, .func (W.fnOf "is_off" "is_off" (defArgs s_is_off) (defBody s_is_off) (defScope s_is_off) .none kVqx dcqx pmqx anqx cdqx ctqx), slqx⟩) (eqx : W.codeIn K cdqx "is_off" = true) (kqx : W.keepIn K (.ref fqx) = true)
  (aqg : W.nsIn K mainGlobals "latest_of" = some (some (.ref fqg))) (lqg : K.lookup fqg = some ⟨ocqg, odqg, .func (W.fnOf "latest_of" "latest_of" (defArgs s_latest_of) (defBody s_latest_of) (defScope s_latest_of) .none kVqg dcqg pmqg anqg cdqg ctqg), slqg⟩) (eqg : W.codeIn K cdqg "latest_of" = true) (kqg : W.keepIn K (.ref fqg) = true)
  (aq9 : W.nsIn K mainGlobals "_law_bid_of" = some (some (.ref fq9))) (lq9 : K.lookup fq9 = some ⟨ocq9, odq9, .func (W.fnOf "_law_bid_of" "_law_bid_of" (defArgs s_law_bid_of) (defBody s_law_bid_of) (defScope s_law_bid_of) .none kVq9 dcq9 pmq9 anq9 cdq9 ctq9), slq9⟩) (eq9 : W.codeIn K cdq9 "_law_bid_of" = true) (kq9 : W.keepIn K (.ref fq9) = true)
  (aq3 : W.nsIn K mainGlobals "_law_close_of" = some (some (.ref fq3))) (lq3 : K.lookup fq3 = some ⟨ocq3, odq3, .func (W.fnOf "_law_close_of" "_law_close_of" (defArgs s_law_close_of) (defBody s_law_close_of) (defScope s_law_close_of) .none kVq3 dcq3 pmq3 anq3 cdq3 ctq3), slq3⟩) (eq3 : W.codeIn K cdq3 "_law_close_of" = true) (kq3 : W.keepIn K (.ref fq3) = true)
  (aqk : W.nsIn K mainGlobals "are_hands" = some (some (.ref fqk))) (lqk : K.lookup fqk = some ⟨ocqk, odqk, .func (W.fnOf "are_hands" "are_hands" (defArgs s_are_hands) (defBody s_are_hands) (defScope s_are_hands) .none kVqk dcqk pmqk anqk cdqk ctqk), slqk⟩) (eqk : W.codeIn K cdqk "are_hands" = true) (kqk : W.keepIn K (.ref fqk) = true)
  (aqi : W.nsIn K mainGlobals "is_answer" = some (some (.ref fqi))) (lqi : K.lookup fqi = some ⟨ocqi, odqi, .func (W.fnOf "is_answer" "is_answer" (defArgs s_is_answer) (defBody s_is_answer) (defScope s_is_answer) .none kVqi dcqi pmqi anqi cdqi ctqi), slqi⟩) (eqi : W.codeIn K cdqi "is_answer" = true) (kqi : W.keepIn K (.ref fqi) = true)
  (aqr : W.nsIn K mainGlobals "told_of" = some (some (.ref fqr))) (lqr : K.lookup fqr = some ⟨ocqr, odqr, .func (W.fnOf "told_of" "told_of" (defArgs s_told_of) (defBody s_told_of) (defScope s_told_of) .none kVqr dcqr pmqr anqr cdqr ctqr), slqr⟩) (eqr : W.codeIn K cdqr "told_of" = true) (kqr : W.keepIn K (.ref fqr) = true)
  (aqc : W.nsIn K mainGlobals "_law_one_by" = some (some (.ref fqc))) (lqc : K.lookup fqc = some ⟨ocqc, odqc, .func (W.fnOf "_law_one_by" "_law_one_by" (defArgs s_law_one_by) (defBody s_law_one_by) (defScope s_law_one_by) .none kVqc dcqc pmqc anqc cdqc ctqc), slqc⟩) (eqc : W.codeIn K cdqc "_law_one_by" = true) (kqc : W.keepIn K (.ref fqc) = true)
  (aqw : W.nsIn K mainGlobals "is_bid" = some (some (.ref fqw))) (lqw : K.lookup fqw = some ⟨ocqw, odqw, .func (W.fnOf "is_bid" "is_bid" (defArgs s_is_bid) (defBody s_is_bid) (defScope s_is_bid) .none kVqw dcqw pmqw anqw cdqw ctqw), slqw⟩) (eqw : W.codeIn K cdqw "is_bid" = true) (kqw : W.keepIn K (.ref fqw) = true)
  (aqq : W.nsIn K mainGlobals "is_close" = some (some (.ref fqq))) (lqq : K.lookup fqq = some ⟨ocqq, odqq, .func (W.fnOf "is_close" "is_close" (defArgs s_is_close) (defBody s_is_close) (defScope s_is_close) .none kVqq dcqq pmqq anqq cdqq ctqq), slqq⟩) (eqq : W.codeIn K cdqq "is_close" = true) (kqq : W.keepIn K (.ref fqq) = true)
  (aqj : W.nsIn K mainGlobals "is_letter" = some (some (.ref fqj))) (lqj : K.lookup fqj = some ⟨ocqj, odqj, .func (W.fnOf "is_letter" "is_letter" (defArgs s_is_letter) (defBody s_is_letter) (defScope s_is_letter) .none kVqj dcqj pmqj anqj cdqj ctqj), slqj⟩) (eqj : W.codeIn K cdqj "is_letter" = true) (kqj : W.keepIn K (.ref fqj) = true)
  (aqa : W.findIn K (.ref x_Table) "take" = some (some (.ref fqa))) (lqa : K.lookup fqa = some ⟨ocqa, odqa, .func (W.fnOf "take" "Table.take" (defArgs s_Table_take) (defBody s_Table_take) (defScope s_Table_take) .none kVqa dcqa pmqa anqa cdqa ctqa), slqa⟩) (eqa : W.codeIn K cdqa "Table.take" = true) (kqa : W.keepIn K (.ref fqa) = true)
  (iqa : W.isFn K (.ref fqa) = true)
  (aqp : W.nsIn K mainGlobals "_law_like" = some (some (.ref fqp))) (lqp : K.lookup fqp = some ⟨ocqp, odqp, .func (W.fnOf "_law_like" "_law_like" (defArgs s_law_like) (defBody s_law_like) (defScope s_law_like) .none kVqp dcqp pmqp anqp cdqp ctqp), slqp⟩) (eqp : W.codeIn K cdqp "_law_like" = true) (kqp : W.keepIn K (.ref fqp) = true)
  (aqy : W.nsIn K mainGlobals "law" = some (some (.ref fqy))) (lqy : K.lookup fqy = some ⟨ocqy, odqy, .func (W.fnOf "law" "law" (defArgs s_law) (defBody s_law) (defScope s_law) .none kVqy dcqy pmqy anqy cdqy ctqy), slqy⟩) (eqy : W.codeIn K cdqy "law" = true) (kqy : W.keepIn K (.ref fqy) = true)
  (g_FIGURES : W.nsIn K mainGlobals "FIGURES" = some (some (.str "0123456789" t_FIGURES)))
  (g_LETTERS : W.nsIn K mainGlobals "LETTERS" = some (some (.str "abcdefghijklmnopqrstuvwxyz" t_LETTERS)))
  (g_MOST_HANDS : W.nsIn K mainGlobals "MOST_HANDS" = some (some (.int 20 t_MOST_HANDS)))
  (g_NAME_SIGNS : W.nsIn K mainGlobals "NAME_SIGNS" = some (some (.int 8 t_NAME_SIGNS)))
  (n_all : W.nsIn K mainGlobals "all" = some none)
  (n_bool : W.nsIn K mainGlobals "bool" = some none)
  (n_int : W.nsIn K mainGlobals "int" = some none)
  (n_isinstance : W.nsIn K mainGlobals "isinstance" = some none)
  (n_len : W.nsIn K mainGlobals "len" = some none)
  (n_list : W.nsIn K mainGlobals "list" = some none)
  (n_max : W.nsIn K mainGlobals "max" = some none)
  (n_range : W.nsIn K mainGlobals "range" = some none)
  (n_sorted : W.nsIn K mainGlobals "sorted" = some none)
  (n_str : W.nsIn K mainGlobals "str" = some none)
  (n_tuple : W.nsIn K mainGlobals "tuple" = some none) :
  ∃ a : Adr, Txt K mg a ∧ a.f_law = fqy ∧ ∀ (s : Shared) (v : Value), BindsTo s a.d_law ⟨[v], []⟩ [("_law_script", v)] := by
 have Fqb := fun_mk (st := s_is_made_of) lqb eqb kqb
 have bqb := Fqb.binds (ps := ["text", "signs"]) fun _ _ _ _ _ _ us hl => by obtain ⟨_, _, rfl⟩ := L2.ex2 hl; exact rfl
 have Fqs := fun_mk (st := s_is_span) lqs eqs kqs
 have bqs := Fqs.binds (ps := ["begin", "end"]) fun _ _ _ _ _ _ us hl => by obtain ⟨_, _, rfl⟩ := L2.ex2 hl; exact rfl
 have Fqm := fun_mk (st := s_is_number) lqm eqm kqm
 have bqm := Fqm.binds (ps := ["value"]) fun _ _ _ _ _ _ us hl => by obtain ⟨_, rfl⟩ := L2.ex1 hl; exact rfl
 have Fqh := fun_mk (st := s_is_rising) lqh eqh kqh
 have bqh := Fqh.binds (ps := ["hands"]) fun _ _ _ _ _ _ us hl => by obtain ⟨_, rfl⟩ := L2.ex1 hl; exact rfl
 have Fqd := fun_mk (st := s_turn_first) lqd eqd kqd
 have bqd := Fqd.binds (ps := ["letter"]) fun _ _ _ _ _ _ us hl => by obtain ⟨_, rfl⟩ := L2.ex1 hl; exact rfl
 have Fqe := fun_mk (st := s_answers_of) lqe eqe kqe
 have bqe := Fqe.binds (ps := ["letters", "turn"]) fun _ _ _ _ _ _ us hl => by obtain ⟨_, _, rfl⟩ := L2.ex2 hl; exact rfl
 have Fqn := fun_mk (st := s_with_word) lqn eqn kqn
 have bqn := Fqn.binds (ps := ["asked", "answers", "word"]) fun _ _ _ _ _ _ us hl => by obtain ⟨_, _, _, rfl⟩ := L2.ex3 hl; exact rfl
 have Fq2 := fun_mk (st := s_Table_meeting) lq2 eq2 kq2
 have bq2 := Fq2.binds (ps := ["self", "asker", "number"]) fun _ _ _ _ _ _ us hl => by obtain ⟨_, _, _, rfl⟩ := L2.ex3 hl; exact rfl
 have Fq4 := fun_mk (st := s_Table___init) lq4 eq4 kq4
 have bq4 := Fq4.binds (ps := ["self"]) fun _ _ _ _ _ _ us hl => by obtain ⟨_, rfl⟩ := L2.ex1 hl; exact rfl
 have Fq6 := fun_mk (st := s_law_cell_at) lq6 eq6 kq6
 have bq6 := Fq6.binds (ps := ["_law_script", "_law_k"]) fun _ _ _ _ _ _ us hl => by obtain ⟨_, _, rfl⟩ := L2.ex2 hl; exact rfl
 have Fqf := fun_mk (st := s_law_mixed) lqf eqf kqf
 have bqf := Fqf.binds (ps := ["_law_cell", "_law_k", "_law_many"]) fun _ _ _ _ _ _ us hl => by obtain ⟨_, _, _, rfl⟩ := L2.ex3 hl; exact rfl
 have Fq8 := fun_mk (st := s_law_name_by) lq8 eq8 kq8
 have bq8 := Fq8.binds (ps := ["_law_k", "_law_cell"]) fun _ _ _ _ _ _ us hl => by obtain ⟨_, _, rfl⟩ := L2.ex2 hl; exact rfl
 have Fqu := fun_mk (st := s_law_key) lqu equ kqu
 have bqu := Fqu.binds (ps := ["_law_seed", "_law_names", "_law_asker", "_law_number", "_law_turn"]) fun _ _ _ _ _ _ us hl => by obtain ⟨_, _, _, _, _, rfl⟩ := L2.ex5 hl; exact rfl
 have Fq0 := fun_mk (st := s_law_meeting_by) lq0 eq0 kq0
 have bq0 := Fq0.binds (ps := ["_law_letters", "_law_asker", "_law_number"]) fun _ _ _ _ _ _ us hl => by obtain ⟨_, _, _, rfl⟩ := L2.ex3 hl; exact rfl
 have Fqt := fun_mk (st := s_is_name) lqt eqt kqt
 have bqt := Fqt.binds (ps := ["text"]) fun _ _ _ _ _ _ us hl => by obtain ⟨_, rfl⟩ := L2.ex1 hl; exact rfl
 have Fqv := fun_mk (st := s_is_from) lqv eqv kqv
 have bqv := Fqv.binds (ps := ["value", "least"]) fun _ _ _ _ _ _ us hl => by obtain ⟨_, _, rfl⟩ := L2.ex2 hl; exact rfl
 have Fq7 := fun_mk (st := s_told_of_bid) lq7 eq7 kq7
 have bq7 := Fq7.binds (ps := ["letters", "bid"]) fun _ _ _ _ _ _ us hl => by obtain ⟨_, _, rfl⟩ := L2.ex2 hl; exact rfl
 have Fq5 := fun_mk (st := s_law_names_by) lq5 eq5 kq5
 have bq5 := Fq5.binds (ps := ["_law_cell"]) fun _ _ _ _ _ _ us hl => by obtain ⟨_, rfl⟩ := L2.ex1 hl; exact rfl
 have Fqo := fun_mk (st := s_law_some) lqo eqo kqo
 have bqo := Fqo.binds (ps := ["_law_names", "_law_asker", "_law_seed", "_law_k", "_law_least"]) fun _ _ _ _ _ _ us hl => by obtain ⟨_, _, _, _, _, rfl⟩ := L2.ex5 hl; exact rfl
 have Fq1 := fun_mk (st := s_law_answer_of) lq1 eq1 kq1
 have bq1 := Fq1.binds (ps := ["_law_seed", "_law_names", "_law_asker", "_law_number", "_law_turn", "_law_cell"]) fun _ _ _ _ _ _ us hl => by obtain ⟨_, _, _, _, _, _, rfl⟩ := L2.ex6 hl; exact rfl
 have Fql := fun_mk (st := s_is_called) lql eql kql
 have bql := Fql.binds (ps := ["value"]) fun _ _ _ _ _ _ us hl => by obtain ⟨_, rfl⟩ := L2.ex1 hl; exact rfl
 have Fqx := fun_mk (st := s_is_off) lqx eqx kqx
 have bqx := Fqx.binds (ps := ["letter"]) fun _ _ _ _ _ _ us hl => by obtain ⟨_, rfl⟩ := L2.ex1 hl; exact rfl
 have Fqg := fun_mk (st := s_latest_of) lqg eqg kqg
 have bqg := Fqg.binds (ps := ["letters"]) fun _ _ _ _ _ _ us hl => by obtain ⟨_, rfl⟩ := L2.ex1 hl; exact rfl
 have Fq9 := fun_mk (st := s_law_bid_of) lq9 eq9 kq9
 have bq9 := Fq9.binds (ps := ["_law_seed", "_law_names", "_law_asker", "_law_number", "_law_turn"]) fun _ _ _ _ _ _ us hl => by obtain ⟨_, _, _, _, _, rfl⟩ := L2.ex5 hl; exact rfl
 have Fq3 := fun_mk (st := s_law_close_of) lq3 eq3 kq3
 have bq3 := Fq3.binds (ps := ["_law_seed", "_law_names", "_law_asker", "_law_number", "_law_turn"]) fun _ _ _ _ _ _ us hl => by obtain ⟨_, _, _, _, _, rfl⟩ := L2.ex5 hl; exact rfl
 have Fqk := fun_mk (st := s_are_hands) lqk eqk kqk
 have bqk := Fqk.binds (ps := ["value", "asker", "least"]) fun _ _ _ _ _ _ us hl => by obtain ⟨_, _, _, rfl⟩ := L2.ex3 hl; exact rfl
 have Fqi := fun_mk (st := s_is_answer) lqi eqi kqi
 have bqi := Fqi.binds (ps := ["letter"]) fun _ _ _ _ _ _ us hl => by obtain ⟨_, rfl⟩ := L2.ex1 hl; exact rfl
 have Fqr := fun_mk (st := s_told_of) lqr eqr kqr
 have bqr := Fqr.binds (ps := ["letters"]) fun _ _ _ _ _ _ us hl => by obtain ⟨_, rfl⟩ := L2.ex1 hl; exact rfl
 have Fqc := fun_mk (st := s_law_one_by) lqc eqc kqc
 have bqc := Fqc.binds (ps := ["_law_cell", "_law_seed", "_law_names"]) fun _ _ _ _ _ _ us hl => by obtain ⟨_, _, _, rfl⟩ := L2.ex3 hl; exact rfl
 have Fqw := fun_mk (st := s_is_bid) lqw eqw kqw
 have bqw := Fqw.binds (ps := ["letter"]) fun _ _ _ _ _ _ us hl => by obtain ⟨_, rfl⟩ := L2.ex1 hl; exact rfl
 have Fqq := fun_mk (st := s_is_close) lqq eqq kqq
 have bqq := Fqq.binds (ps := ["letter"]) fun _ _ _ _ _ _ us hl => by obtain ⟨_, rfl⟩ := L2.ex1 hl; exact rfl
 have Fqj := fun_mk (st := s_is_letter) lqj eqj kqj
 have bqj := Fqj.binds (ps := ["letter"]) fun _ _ _ _ _ _ us hl => by obtain ⟨_, rfl⟩ := L2.ex1 hl; exact rfl
 have Fqa := fun_mk (st := s_Table_take) lqa eqa kqa
 have bqa := Fqa.binds (ps := ["self", "letter"]) fun _ _ _ _ _ _ us hl => by obtain ⟨_, _, rfl⟩ := L2.ex2 hl; exact rfl
 have Fqp := fun_mk (st := s_law_like) lqp eqp kqp
 have bqp := Fqp.binds (ps := ["_law_found", "_law_due"]) fun _ _ _ _ _ _ us hl => by obtain ⟨_, _, rfl⟩ := L2.ex2 hl; exact rfl
 have Fqy := fun_mk (st := s_law) lqy eqy kqy
 have bqy := Fqy.binds (ps := ["_law_script"]) fun _ _ _ _ _ _ us hl => by obtain ⟨_, rfl⟩ := L2.ex1 hl; exact rfl
 exact ⟨{ f_is_made_of := fqb, d_is_made_of := _, f_is_span := fqs, d_is_span := _, f_is_number := fqm, d_is_number := _, f_is_rising := fqh, d_is_rising := _, f_turn_first := fqd, d_turn_first := _, f_answers_of := fqe, d_answers_of := _, f_with_word := fqn, d_with_word := _, f_Table_meeting := fq2, d_Table_meeting := _, f_Table___init := fq4, d_Table___init := _, f_law_cell_at := fq6, d_law_cell_at := _, f_law_mixed := fqf, d_law_mixed := _, f_law_name_by := fq8, d_law_name_by := _, f_law_key := fqu, d_law_key := _, f_law_meeting_by := fq0, d_law_meeting_by := _, f_is_name := fqt, d_is_name := _, f_is_from := fqv, d_is_from := _, f_told_of_bid := fq7, d_told_of_bid := _, f_law_names_by := fq5, d_law_names_by := _, f_law_some := fqo, d_law_some := _, f_law_answer_of := fq1, d_law_answer_of := _, f_is_called := fql, d_is_called := _, f_is_off := fqx, d_is_off := _, f_latest_of := fqg, d_latest_of := _, f_law_bid_of := fq9, d_law_bid_of := _, f_law_close_of := fq3, d_law_close_of := _, f_are_hands := fqk, d_are_hands := _, f_is_answer := fqi, d_is_answer := _, f_told_of := fqr, d_told_of := _, f_law_one_by := fqc, d_law_one_by := _, f_is_bid := fqw, d_is_bid := _, f_is_close := fqq, d_is_close := _, f_is_letter := fqj, d_is_letter := _, f_Table_take := fqa, d_Table_take := _, f_law_like := fqp, d_law_like := _, f_law := fqy, d_law := _, x_Table := x_Table }, ⟨Fqb, W.mg_of X G aqb, bqb, Fqs, W.mg_of X G aqs, bqs, Fqm, W.mg_of X G aqm, bqm, Fqh, W.mg_of X G aqh, bqh, Fqd, W.mg_of X G aqd, bqd, Fqe, W.mg_of X G aqe, bqe, Fqn, W.mg_of X G aqn, bqn, Fq2, bq2, Fq4, bq4, Fq6, W.mg_of X G aq6, bq6, Fqf, W.mg_of X G aqf, bqf, Fq8, W.mg_of X G aq8, bq8, Fqu, W.mg_of X G aqu, bqu, Fq0, W.mg_of X G aq0, bq0, Fqt, W.mg_of X G aqt, bqt, Fqv, W.mg_of X G aqv, bqv, Fq7, W.mg_of X G aq7, bq7, Fq5, W.mg_of X G aq5, bq5, Fqo, W.mg_of X G aqo, bqo, Fq1, W.mg_of X G aq1, bq1, Fql, W.mg_of X G aql, bql, Fqx, W.mg_of X G aqx, bqx, Fqg, W.mg_of X G aqg, bqg, Fq9, W.mg_of X G aq9, bq9, Fq3, W.mg_of X G aq3, bq3, Fqk, W.mg_of X G aqk, bqk, Fqi, W.mg_of X G aqi, bqi, Fqr, W.mg_of X G aqr, bqr, Fqc, W.mg_of X G aqc, bqc, Fqw, W.mg_of X G aqw, bqw, Fqq, W.mg_of X G aqq, bqq, Fqj, W.mg_of X G aqj, bqj, Fqa, bqa, Fqp, W.mg_of X G aqp, bqp, Fqy, W.mg_of X G aqy, bqy, ⟨_, W.mg_of X G g_FIGURES⟩, ⟨_, W.mg_of X G g_LETTERS⟩, ⟨_, W.mg_of X G g_MOST_HANDS⟩, ⟨_, W.mg_of X G g_NAME_SIGNS⟩, W.mg_of X G aC_Table, ⟨pg_Table, hd_Table, po_Table, sa_Table⟩, ⟨mk_Table, aq4, iq4, kc_Table⟩, nf_kept_Table, nf_by_meeting_Table, nf_tellings_Table, ⟨aq2, iq2, kq2⟩, ⟨aqa, iqa, kqa⟩, W.mg_none_of X G n_all, W.mg_none_of X G n_bool, W.mg_none_of X G n_int, W.mg_none_of X G n_isinstance, W.mg_none_of X G n_len, W.mg_none_of X G n_list, W.mg_none_of X G n_max, W.mg_none_of X G n_range, W.mg_none_of X G n_sorted, W.mg_none_of X G n_str, W.mg_none_of X G n_tuple⟩, rfl, fun s v => .of_eq rfl⟩
end K63
namespace K63
open PySem L2
theorem walk {l : W.OpenLaw} {q : Program} {loose : List Str} {XP : (Str → Option Value) → Heap → Prop} {YP : World → Heap → Prop} {d : DefRec} {K : Params → W.Frag} (hn : l.most = some 63) (hdf : d.params.defaults = [])
  (hY : ∀ (w : World) (h : Heap), YP w h → (K w.params).In h)
  (F : ∀ (w : World) (mg : Str → Option Value) (fa : Addr) (h : Heap), (K w.params).In h → h.Ns mainGlobals mg → mg d.name = some (.ref fa) →
   ∃ fd : FuncData, (∀ (s : Shared) (u : Value), BindsTo s fd ⟨[u], []⟩ [("_law_script", u)]) ∧ ∀ base : Heap, (K w.params).In base → base.Ns mainGlobals mg → FnOk l.prog w (K w.params) mg base CX0 true 32 fa fd ["_law_script"] (sp_law (K w.params))) :
  W.WalkO q loose XP YP l.row.toRowW d [] (fun f vs => PySem.call f vs) :=
 L2.walk_of (cm := true) (n := 63) (k := 32) (x := "_law_script") (CX := fun _ => CX0) (sp := fun w => sp_law (K w.params)) hn (by decide) hdf ⟨fun _ => rfl, by decide, by decide⟩ hY F (fun _ _ a ns hl _ hS => ⟨a, ns, rfl, hS, hl, fun _ => rfl⟩) fun _ _ _ _ _ z => z
theorem all_ok {l : W.OpenLaw} {w : World} {K : W.Frag} {mg : Str → Option Value} {fa f : Addr} (hfa : mg "law" = some (.ref fa))
  (h : ∃ a : Adr, Txt K mg a ∧ a.f_law = f ∧ ∀ (s : Shared) (v : Value), BindsTo s a.d_law ⟨[v], []⟩ [("_law_script", v)]) :
  ∃ fd : FuncData, (∀ (s : Shared) (u : Value), BindsTo s fd ⟨[u], []⟩ [("_law_script", u)]) ∧ ∀ base : Heap, K.In base → base.Ns mainGlobals mg → FnOk l.prog w K mg base CX0 true 32 fa fd ["_law_script"] (sp_law K) := by
 obtain ⟨a, T, _, hb⟩ := h
 have e := T.m_law
 rw [hfa] at e
 cases e
 exact ⟨a.d_law, hb, fun base _ _ => ok_law T⟩
end K63
open PySem PySem.W PyProof.Rows
set_option maxRecDepth 100000 in
set_option maxHeartbeats 0 in
theorem PySem.Challenge.cw_hourhouse_k63_a_meeting_told_holds : PySem.Challenge.rw_hourhouse_k63_a_meeting_told.Holds := by
 w_on; o_law; k_head; (case hw => w_witness2)
 k_fill
 refine K63.walk (l := PySem.Challenge.rw_hourhouse_k63_a_meeting_told) rfl rfl (fun w h Y => W.kIn_of Y) ?F
 case F =>
  intro w mg fa h KX G hmg
  refine' K63.all_ok hmg (K63.txt_mk KX G ?aC_Table ?pg_Table ?hd_Table ?po_Table ?sa_Table ?mk_Table ?kc_Table ?nf_kept_Table ?nf_by_meeting_Table ?nf_tellings_Table ?aqb ?lqb ?eqb ?kqb ?aqs ?lqs ?eqs ?kqs ?aqm ?lqm ?eqm ?kqm ?aqh ?lqh ?eqh ?kqh ?aqd ?lqd ?eqd ?kqd ?aqe ?lqe ?eqe ?kqe ?aqn ?lqn ?eqn ?kqn ?aq2 ?lq2 ?eq2 ?kq2 ?iq2 ?aq4 ?lq4 ?eq4 ?kq4 ?iq4 ?aq6 ?lq6 ?eq6 ?kq6 ?aqf ?lqf ?eqf ?kqf ?aq8 ?lq8 ?eq8 ?kq8 ?aqu ?lqu ?equ ?kqu ?aq0 ?lq0 ?eq0 ?kq0 ?aqt ?lqt ?eqt ?kqt ?aqv ?lqv ?eqv ?kqv ?aq7 ?lq7 ?eq7 ?kq7 ?aq5 ?lq5 ?eq5 ?kq5 ?aqo ?lqo ?eqo ?kqo ?aq1 ?lq1 ?eq1 ?kq1 ?aql ?lql ?eql ?kql ?aqx ?lqx ?eqx ?kqx ?aqg ?lqg ?eqg ?kqg ?aq9 ?lq9 ?eq9 ?kq9 ?aq3 ?lq3 ?eq3 ?kq3 ?aqk ?lqk ?eqk ?kqk ?aqi ?lqi ?eqi ?kqi ?aqr ?lqr ?eqr ?kqr ?aqc ?lqc ?eqc ?kqc ?aqw ?lqw ?eqw ?kqw ?aqq ?lqq ?eqq ?kqq ?aqj ?lqj ?eqj ?kqj ?aqa ?lqa ?eqa ?kqa ?iqa ?aqp ?lqp ?eqp ?kqp ?aqy ?lqy ?eqy ?kqy ?g_FIGURES ?g_LETTERS ?g_MOST_HANDS ?g_NAME_SIGNS ?n_all ?n_bool ?n_int ?n_isinstance ?n_len ?n_list ?n_max ?n_range ?n_sorted ?n_str ?n_tuple)
  (case aC_Table => k_is)
  (case pg_Table => k_is)
  (case hd_Table => k_is)
  (case po_Table => k_is)
  (case sa_Table => k_is)
  (case mk_Table => k_is)
  (case kc_Table => k_is)
  (case nf_kept_Table => k_is)
  (case nf_by_meeting_Table => k_is)
  (case nf_tellings_Table => k_is)
  (case aqb => k_is)
  (case lqb => k_is)
  (case eqb => k_is)
  (case kqb => k_is)
  (case aqs => k_is)
  (case lqs => k_is)
  (case eqs => k_is)
  (case kqs => k_is)
  (case aqm => k_is)
  (case lqm => k_is)
  (case eqm => k_is)
  (case kqm => k_is)
  (case aqh => k_is)
  (case lqh => k_is)
  (case eqh => k_is)
  (case kqh => k_is)
  (case aqd => k_is)
  (case lqd => k_is)
  (case eqd => k_is)
  (case kqd => k_is)
  (case aqe => k_is)
  (case lqe => k_is)
  (case eqe => k_is)
  (case kqe => k_is)
  (case aqn => k_is)
  (case lqn => k_is)
  (case eqn => k_is)
  (case kqn => k_is)
  (case aq2 => k_is)
  (case lq2 => k_is)
  (case eq2 => k_is)
  (case kq2 => k_is)
  (case iq2 => k_is)
  (case aq4 => k_is)
  (case lq4 => k_is)
  (case eq4 => k_is)
  (case kq4 => k_is)
  (case iq4 => k_is)
  (case aq6 => k_is)
  (case lq6 => k_is)
  (case eq6 => k_is)
  (case kq6 => k_is)
  (case aqf => k_is)
  (case lqf => k_is)
  (case eqf => k_is)
  (case kqf => k_is)
  (case aq8 => k_is)
  (case lq8 => k_is)
  (case eq8 => k_is)
  (case kq8 => k_is)
  (case aqu => k_is)
  (case lqu => k_is)
  (case equ => k_is)
  (case kqu => k_is)
  (case aq0 => k_is)
  (case lq0 => k_is)
  (case eq0 => k_is)
  (case kq0 => k_is)
  (case aqt => k_is)
  (case lqt => k_is)
  (case eqt => k_is)
  (case kqt => k_is)
  (case aqv => k_is)
  (case lqv => k_is)
  (case eqv => k_is)
  (case kqv => k_is)
  (case aq7 => k_is)
  (case lq7 => k_is)
  (case eq7 => k_is)
  (case kq7 => k_is)
  (case aq5 => k_is)
  (case lq5 => k_is)
  (case eq5 => k_is)
  (case kq5 => k_is)
  (case aqo => k_is)
  (case lqo => k_is)
  (case eqo => k_is)
  (case kqo => k_is)
  (case aq1 => k_is)
  (case lq1 => k_is)
  (case eq1 => k_is)
  (case kq1 => k_is)
  (case aql => k_is)
  (case lql => k_is)
  (case eql => k_is)
  (case kql => k_is)
  (case aqx => k_is)
  (case lqx => k_is)
  (case eqx => k_is)
  (case kqx => k_is)
  (case aqg => k_is)
  (case lqg => k_is)
  (case eqg => k_is)
  (case kqg => k_is)
  (case aq9 => k_is)
  (case lq9 => k_is)
  (case eq9 => k_is)
  (case kq9 => k_is)
  (case aq3 => k_is)
  (case lq3 => k_is)
  (case eq3 => k_is)
  (case kq3 => k_is)
  (case aqk => k_is)
  (case lqk => k_is)
  (case eqk => k_is)
  (case kqk => k_is)
  (case aqi => k_is)
  (case lqi => k_is)
  (case eqi => k_is)
  (case kqi => k_is)
  (case aqr => k_is)
  (case lqr => k_is)
  (case eqr => k_is)
  (case kqr => k_is)
  (case aqc => k_is)
  (case lqc => k_is)
  (case eqc => k_is)
  (case kqc => k_is)
  (case aqw => k_is)
  (case lqw => k_is)
  (case eqw => k_is)
  (case kqw => k_is)
  (case aqq => k_is)
  (case lqq => k_is)
  (case eqq => k_is)
  (case kqq => k_is)
  (case aqj => k_is)
  (case lqj => k_is)
  (case eqj => k_is)
  (case kqj => k_is)
  (case aqa => k_is)
  (case lqa => k_is)
  (case eqa => k_is)
  (case kqa => k_is)
  (case iqa => k_is)
  (case aqp => k_is)
  (case lqp => k_is)
  (case eqp => k_is)
  (case kqp => k_is)
  (case aqy => k_is)
  (case lqy => k_is)
  (case eqy => k_is)
  (case kqy => k_is)
  (case g_FIGURES => k_is)
  (case g_LETTERS => k_is)
  (case g_MOST_HANDS => k_is)
  (case g_NAME_SIGNS => k_is)
  (case n_all => k_is)
  (case n_bool => k_is)
  (case n_int => k_is)
  (case n_isinstance => k_is)
  (case n_len => k_is)
  (case n_list => k_is)
  (case n_max => k_is)
  (case n_range => k_is)
  (case n_sorted => k_is)
  (case n_str => k_is)
  (case n_tuple => k_is)
