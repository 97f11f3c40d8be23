import PyProof.Rows.All
import Wide.All
import OpenK.AllK
import Wide.FinOn
import Lean
import PyProof.EqAt
import PyProof.EqKinds
import PyProof.TupleCall
import PySem.Challenge.RW_hourhouse_k14_joined_falls
set_option Elab.async false
set_option linter.all false
set_option maxRecDepth 100000
/-! These names are taken so that the head makes no twins of its heaps, trees and objects: the compiled file would be too big. Nothing refers to them, and they prove nothing. -/
namespace PySem.W.Fast
def tw15413621709626999898 := ()
def tw2220784281458007391 := ()
def tw5839967860297108635 := ()
def tw11276522741126331985 := ()
def tw2463199933104211602 := ()
def tw3656938154706717234 := ()
def tw393337680361152817 := ()
def tw697970783212574817 := ()
def tw4753491014387717402 := ()
def tw8129602725487670656 := ()
def tw9599269951832470429 := ()
def tw11729471980905977792 := ()
def tw8056167384613289900 := ()
def tw408221393409295117 := ()
def tw10558522334518829724 := ()
def tw12859327077298604811 := ()
def tw9801680300202836498 := ()
def tw6118273690299967820 := ()
def tw11961795714603855498 := ()
def tw11647435216236693461 := ()
def tw2769323249067185967 := ()
def tw5975400508026414315 := ()
def tw4491744994913687494 := ()
def tw9190600920394595521 := ()
def tw12859514829176396399 := ()
def tw8592553250886225084 := ()
def tw15438258861186741056 := ()
def tw11775436837499172247 := ()
def tw8641593554056198707 := ()
def tw5749178064832643598 := ()
def tw11304228908013238868 := ()
def tw9100705918250484923 := ()
def tw6544327201781777259 := ()
def tw5993723445551282508 := ()
def tw2449086569399528149 := ()
def tw18115125804635145647 := ()
def tw5833073191529933723 := ()
def tw11051976036548102779 := ()
def tw2126504375928788813 := ()
def tw16961468210550111762 := ()
def tw2140141767814049573 := ()
def tw7395704168819230103 := ()
def tw2040761311655418385 := ()
def tw9836699257820021714 := ()
def tw15359469296160607686 := ()
def tw9094942897502791655 := ()
def tw5214180827175061109 := ()
def tw1464664289218087902 := ()
def tw13875593049825165735 := ()
def tw6289888927470816263 := ()
def tw14127176864835748033 := ()
def tw2266127651749309724 := ()
def tw17738927256235382357 := ()
def tw17916353238478165372 := ()
def tw9220443928100891989 := ()
def tw5996208367975593883 := ()
def tw2914901038641644988 := ()
def tw16518987537286825542 := ()
def tw8499303069961562308 := ()
def tw1587330236485934642 := ()
def tw3529094805744478667 := ()
def tw3450603333031693919 := ()
def tw5810231306547359354 := ()
def tw2208982317841338786 := ()
def tw2262005650804771596 := ()
def tw12097850486822088621 := ()
def tw7015647015644509076 := ()
def tw16819223898620197052 := ()
def tw4468224756781456638 := ()
def tw2993666655409563277 := ()
def tw16824456123347386329 := ()
def tw2162017597292830249 := ()
def tw2893801845182627347 := ()
def tw8749846377484058077 := ()
def tw597320808202570071 := ()
def tw1795741422810237673 := ()
def tw16066319468536523158 := ()
def tw16037308775395244063 := ()
def tw15387412137183168465 := ()
def tw16945923113957027494 := ()
def tw9809030549845333125 := ()
def tw9410544929902198829 := ()
def tw4357141175571317 := ()
def tw7671368270173046670 := ()
def tw1929157903270957744 := ()
def tw8873940506109721095 := ()
def tw1652969637254685611 := ()
def tw16175703842550586405 := ()
def tw7222928493526787211 := ()
def tw3867909606386107114 := ()
def tw4620481552138246057 := ()
def tw8655560456502977958 := ()
def tw18002207309829127479 := ()
def tw12356967064278432649 := ()
def tw5475114388880974754 := ()
def tw15179780617384760618 := ()
def tw8681712730721363100 := ()
def tw848616089517237290 := ()
def tw17941343724267758731 := ()
def tw1192490157150453706 := ()
def tw159199087378975323 := ()
def tw13571198153017075949 := ()
def tw5699517667289656477 := ()
def tw15178941906218188476 := ()
def tw29802360143061617 := ()
def tw12961085715121538822 := ()
def tw13762960969603435336 := ()
def tw12996747923926198676 := ()
def tw16898834640961443427 := ()
def tw2531917338475095294 := ()
def tw5712200692591580563 := ()
def tw3533163098700690972 := ()
def tw17896452349451616200 := ()
def tw15278709924675909480 := ()
def tw2420985808673259665 := ()
def tw17562760488788721621 := ()
def tw5970935109280927304 := ()
def tw11804143963155392203 := ()
def tw2999460216365151250 := ()
def tw8837254108060272753 := ()
def tw17247466109805479652 := ()
def tw2473916738037986232 := ()
def tw18298254141929246274 := ()
def tw2710847145910989271 := ()
def tw6156199165458265968 := ()
def tw11219338396079485001 := ()
def tw6302616885667080774 := ()
def tw11040569531061807777 := ()
def tw9102457186053772916 := ()
def tw12235266643342136207 := ()
def tw11069567598793488523 := ()
def tw16622420313304174019 := ()
def tw1539736951830589168 := ()
def tw9121578390442441658 := ()
def tw6684414374053223208 := ()
def tw2451260907840672381 := ()
def tw13440701215477339377 := ()
def tw5370084870575718382 := ()
def tw12373051640221655964 := ()
def tw4541069825218299565 := ()
def tw11279990120309323452 := ()
def tw9762299645320695900 := ()
def tw10703320665159032406 := ()
def tw3793384547719734905 := ()
def tw5363143964583044668 := ()
def tw17496546176096311336 := ()
def tw2723742974010951235 := ()
def tw2096080498547659324 := ()
def tw3102857496738606626 := ()
def tw6157876206725706909 := ()
def tw3225905301908116019 := ()
def tw6195744113741683668 := ()
def tw13824199061871072724 := ()
def tw4190069430246198477 := ()
def tw12440108489215700781 := ()
def tw8038890779020240930 := ()
def tw6606769071856761610 := ()
def tw6150162335169835942 := ()
def tw16401488174447655503 := ()
def tw13783368372782799274 := ()
def tw15833205146210839304 := ()
def tw10490885368232503102 := ()
def tw10532990713206933819 := ()
def tw7370996482367485361 := ()
def tw14342730225485686427 := ()
def tw9189446210155434726 := ()
def tw18082574012423140843 := ()
def tw11379290130049867725 := ()
def tw14862704140515169225 := ()
def tw16873149618565607907 := ()
def tw2565483420422134386 := ()
def tw17698570837022132249 := ()
def tw18093633494264973756 := ()
def tw6782686400444196291 := ()
def tw1115312227717014722 := ()
def tw160507273933215937 := ()
def tw16519689554747176068 := ()
def tw10633454232904065511 := ()
def tw14262746203792301932 := ()
def tw3588523320296113762 := ()
end PySem.W.Fast
abbrev Am4 := @PySem.wpAny_bind
abbrev Am5 := @PySem.Heap.get?_push_of_some
abbrev Am6 := @decide_eq_true
abbrev Am7 := @PySem.wpAny_pure
abbrev Am8 := @of_decide_eq_true
abbrev Am9 := @List.length_map
abbrev Ana := @PySem.Heap.lt_size
abbrev Anb := @Nat.le_trans
abbrev Anc := @PySem.Heap.get?_push_size
abbrev Ane := @decide_eq_false
abbrev Anf := @List.mem_cons
abbrev Ang := @List.getElem?_eq_some_iff
abbrev Anh := @Nat.le_refl
abbrev Ani := @Bool.and_eq_true
abbrev Anj := @List.length_append
abbrev Ank := @PySem.BindsTo.of_defaults
abbrev Anl := @List.size_toArray
abbrev Anm := @Nat.ne_of_lt
abbrev Ann := @List.mem_cons_of_mem
abbrev Ano := @List.mem_cons_self
abbrev Anp := @PySem.Heap.SameBut.update
abbrev Anq := @PySem.Heap.get?_update_self
abbrev Anr := @Bool.false_ne_true
abbrev Ant := @List.mem_append_right
abbrev Anu := @List.getElem?_map
abbrev Anv := @Nat.lt_of_lt_of_le
abbrev Anw := @Int.emod_lt_of_pos
abbrev Anx := @List.mem_map
abbrev Anz := @Int.emod_nonneg
abbrev An0 := @Array.getElem?_eq_getElem
abbrev An1 := @Bool.true_and
abbrev An2 := @PySem.W.mg_of
abbrev An3 := @List.mem_singleton
abbrev An4 := @Array.length_toList
abbrev An5 := @List.length_range
abbrev An6 := @List.getElem?_eq_getElem
abbrev An7 := @Option.some.inj
abbrev An8 := @PySem.wpAny_newObj_type
abbrev An9 := @List.map_cons
abbrev Aoa := @List.mem_of_getElem?
abbrev Aob := @List.getElem?_of_mem
abbrev Aoc := @List.append_nil
abbrev Aod := @PySem.Heap.size_push
abbrev Aoe := @Int.toNat_natCast
abbrev Aof := @PySem.PassesOwn.never
abbrev Aog := @List.mem_append
abbrev Aoh := @PySem.wpAny_call_entry
abbrev Aoi := @List.length_cons
abbrev Aoj := @List.mem_filter
abbrev Aok := @PySem.mem_of_lookup
abbrev Aol := @PySem.wpAny_field
abbrev Aom := @PySem.codeAny_builtin
abbrev Aon := @Nat.zero_le
abbrev Aoo := @Array.getElem?_toList
abbrev Aop := @decide_eq_decide
abbrev Aoq := @Nat.lt_succ_self
abbrev Aor := @Nat.lt_irrefl
abbrev Aos := @Nat.ne_of_gt
abbrev Aot := @PySem.wpAny_setField
abbrev Aou := @PySem.wpAny_holding
abbrev Aov := @PySem.wpAny_truthy_bool
abbrev Aow := @PySem.W.mg_none_of
abbrev Aox := @Nat.lt_of_le_of_lt
abbrev Aoy := @List.length_take
abbrev Aoz := @List.getElem_mem
abbrev Ao0 := @PySem.Around.under_plainId
abbrev Ao1 := @Nat.lt_succ_of_lt
abbrev Ao2 := @List.map_map
abbrev Ao3 := @PySem.wpAny_mono
abbrev Ao4 := @List.not_mem_nil
abbrev Ao5 := @List.lookup_cons
abbrev Ao6 := @Int.mul_le_mul_of_nonneg_left
abbrev Ao7 := @PySem.codeAny_mono
abbrev Ao8 := @PySem.wpAny_Call_Name_kw
abbrev Ao9 := @List.mem_range
abbrev Apa := @PyProof.Rows.callWith_type1
abbrev Apb := @Nat.le_of_ble_eq_true
abbrev Apc := @List.length_filter_le
abbrev Apd := @List.mem_append_left
abbrev Ape := @decide_eq_true_eq
abbrev Apf := @PyProof.Rows.slot_tuple_getitem
abbrev Apg := @List.map_append
abbrev Aph := @List.forIn_cons
abbrev Api := @Int.not_lt
abbrev Apj := @Nat.le_of_lt
abbrev Apk := @beq_eq_false_iff_ne
abbrev Apl := @Int.dvd_of_emod_eq_zero
abbrev Apm := @PySem.wpAny_ite_split
abbrev Apn := @PySem.F.slot_zip_next
abbrev Apo := @List.take_length
abbrev Apq := @Bool.false_and
abbrev Apr := @decide_eq_true_iff
abbrev Aps := @List.pairwise_cons
abbrev Apt := @List.filter_append
abbrev Apu := @Nat.not_lt_zero
abbrev Apv := @PySem.wpAny_load
abbrev Apw := @congrArg
abbrev Apx := @PySem.Code.quiet_builtin
abbrev Apy := @PySem.wpAny_passesOwn
abbrev Apz := @List.pairwise_iff_getElem
abbrev Ap0 := @Bool.and_false
abbrev Ap1 := @List.mem_nil_iff
abbrev Ap2 := @PySem.wpAny_setState_of
abbrev Ap3 := @PySem.wpAny_attempt
abbrev Ap4 := @PySem.F.slot_tuple_iterator_next
abbrev Ap5 := @PySem.codeAny_call_builtin
abbrev Ap6 := @List.of_mem_zip
abbrev Ap7 := @List.find?_cons
abbrev Ap8 := @Int.eq_ofNat_of_zero_le
abbrev Ap9 := @PySem.wpAny_askSetting
abbrev Aqa := @PySem.wpAny_setEntries_of
abbrev Aqb := @Option.map_eq_some_iff
abbrev Aqc := @Array.getElem?_eq_none
abbrev Aqd := @or_false
abbrev Aqe := @PySem.wpAny_updateSeq
abbrev Aqf := @PySem.plainId_quiet
abbrev Aqg := @PySem.codeAny_of_tree
abbrev Aqh := @PySem.W.kia_one
abbrev Aqi := @Int.emod_add_mul_ediv
abbrev Aqj := @List.all_eq_true
abbrev Aqk := @PySem.wpAny_rule
abbrev Aql := @List.any_cons
abbrev Aqm := @PySem.weight_type_call_type
abbrev Aqn := @PySem.builtinLookup_eq_fast
abbrev Aqo := @Nat.le_succ
abbrev Aqp := @List.nodup_cons
abbrev Aqq := @List.filter_eq_self
abbrev Aqr := @Iff.rfl
abbrev Aqs := @List.getElem?_append_right
abbrev Aqt := @Nat.lt_or_ge
abbrev Aqu := @List.set_set
abbrev Aqv := @List.map_nil
abbrev Aqw := @List.getElem?_drop
abbrev Aqx := @List.mem_of_find?_eq_some
abbrev Aqy := @List.getElem?_append_left
abbrev Aqz := @PySem.wpAny_call
abbrev Aq0 := @PySem.F.plain_extend_loop
abbrev Aq1 := @PySem.F.args_tuple_add_2
abbrev Aq2 := @Option.isSome_iff_exists
abbrev Aq3 := @Nat.not_lt
abbrev Aq4 := @List.pairwise_map
abbrev Aq5 := @PySem.F.entry_tuple_add
abbrev Aq6 := @Ne.symm
abbrev Aq7 := @Int.emod_eq_zero_of_dvd
abbrev Aq8 := @PySem.wpAny_typeOf
abbrev Aq9 := @PySem.wpAny_pyIter_tuple
abbrev Ara := @PySem.Around.under_plain
abbrev Arb := @Nat.le_add_right
abbrev Arc := @PySem.F.slot_tuple_add
abbrev Ard := @PySem.fits_of_scanBound
abbrev Are := @PySem.F.entry_type_call
abbrev Arf := @PySem.F.args_zip_next_1
abbrev Arh := @Option.map_some
abbrev Ari := @List.take_append_drop
abbrev Arj := @List.getElem?_eq_none
abbrev Ark := @Bool.true_or
abbrev Arl := @Bool.or_eq_true
abbrev Arm := @Bool.eq_iff_iff
abbrev Arn := @Bool.decide_and
abbrev Aro := @PySem.sizeLine_eq
abbrev Arp := @PySem.wpAny_isInstance
abbrev Arq := @PySem.F.entry_zip_next
abbrev Ars := @PySem.Heap.get?_update_other
abbrev Art := @List.filterMap_cons
abbrev Aru := @List.countP_eq_zero
abbrev Arv := @Int.le_refl
abbrev Arw := @PySem.wpAny_specialOf
abbrev Arx := @PySem.wpAny_execs_nil
abbrev Ary := @PySem.typeLookup_type
abbrev Arz := @List.getElem?_take
abbrev Ar0 := @PySem.wpAny_newFunctionEnv
abbrev Ar1 := @Option.some.injEq
abbrev Ar2 := @List.take_add_one
abbrev Ar3 := @Bool.not_eq_true'
abbrev Ar4 := @PySem.wpAny_runValue
abbrev Ar5 := @PySem.wpAny_fieldsOf
abbrev Ar6 := @PyProof.Rows.F.plain_set_update_loop
abbrev Ar7 := @Int.mul_comm
abbrev Ar8 := @Int.lt_or_le
abbrev Ar9 := @Int.le_of_lt
abbrev Asa := @forall_eq_or_imp
abbrev Asb := @Nat.min_le_right
abbrev Asc := @List.length_drop
def dkk {p : Prop} (h : p := by decide +kernel) : p := h
def dkd {p : Prop} (h : p := by decide) : p := h
def dkm {p : Prop} (h : p := by omega) : p := h
def dkl {p : Prop} (h : p := by lia) : p := h
def dks {p : Prop} (h : p := by simp) : p := h
namespace L2
open PySem PySem.Spec PyProof.Rows
abbrev Key := Sum Int Str
def y6 : Key -> Value -> Bool
 | .inl k, v => Value.isInt k v
 | .inr x, v => Value.isStrOf x v
def Al0 (w : World) : Key -> Int
 | .inl k => hashInt k
 | .inr x => hashStr w x
theorem E4 : ∀ {k : Key} {v : Value}, y6 k v = true -> (∃ i t, k = Sum.inl i /\ v = Value.int i t) ∨ (∃ x t, k = Sum.inr x /\ v = Value.str x t)
 |
  .inl i, v, h => by
  obtain ⟨t, e⟩ := Value.isInt_shape (k := i) (v := v) h
  exact .inl ⟨i, t, rfl, e⟩
 |
  .inr x, v, h => by
  obtain ⟨t, e⟩ := Value.isStrOf_shape (x := x) (v := v) h
  exact .inr ⟨x, t, rfl, e⟩
def Acb (i : Int) (t : Tok) : y6 (.inl i) (.int i t) = true := by simp [y6, Value.isInt]
def Abs (x : Str) (t : Tok) : y6 (.inr x) (.str x t) = true := by simp [y6, Value.isStrOf]
def Aiy (a b : Int) : decide ((Sum.inl a : Key) = Sum.inl b) = (a == b) := by
 by_cases e : a = b
 · subst e; simp
 ·
  have h : ¬ (Sum.inl a : Key) = Sum.inl b := λ q => e (Sum.inl.inj q)
  rw [Ane h]
  exact (Apk.mpr e).symm
def Aiv (a b : Str) : decide ((Sum.inr a : Key) = Sum.inr b) = decide (a = b) := by
 by_cases e : a = b
 · subst e; simp
 ·
  have h : ¬ (Sum.inr a : Key) = Sum.inr b := λ q => e (Sum.inr.inj q)
  rw [Ane h, Ane e]
def Ah8 (a : Int) (b : Str) : decide ((Sum.inl a : Key) = Sum.inr b) = false := Ane (λ q => nomatch q)
def Aid (a : Str) (b : Int) : decide ((Sum.inr a : Key) = Sum.inl b) = false := Ane (λ q => nomatch q)
def Gj (prog : Program) (w : World) : PySem.KeyKind prog w Key where
 is := y6
 hash := Al0 w
 inj := λ v a b ha hb => by
  rcases E4 ha with ⟨i, t, rfl, rfl⟩ | ⟨x, t, rfl, rfl⟩
  ·
   rcases E4 hb with ⟨j, u, rfl, e⟩ | ⟨y, u, rfl, e⟩
   · injection e with e1 _; rw [e1]
   · exact nomatch e
  ·
   rcases E4 hb with ⟨j, u, rfl, e⟩ | ⟨y, u, rfl, e⟩
   · exact nomatch e
   · injection e with e1 _; rw [e1]
 byValue := λ k v h => by
  rcases E4 h with ⟨i, t, rfl, rfl⟩ | ⟨x, t, rfl, rfl⟩ <;> rfl
 pyHash := λ hv h => by
  rcases E4 hv with ⟨i, t, rfl, rfl⟩ | ⟨x, t, rfl, rfl⟩
  · exact wpAny_pyHash_int h
  · exact wpAny_pyHash_str h
 eqBool := λ hu hv h => by
  rcases E4 hu with ⟨i, t, rfl, rfl⟩ | ⟨x, t, rfl, rfl⟩
  ·
   rcases E4 hv with ⟨j, u, rfl, rfl⟩ | ⟨y, u, rfl, rfl⟩
   · rw [Aiy] at h; exact wpAny_eqBool_int h
   · rw [Ah8] at h; exact SeqAt.EqAt.int_str i t y u _ _ _ _ h
  ·
   rcases E4 hv with ⟨j, u, rfl, rfl⟩ | ⟨y, u, rfl, rfl⟩
   · rw [Aid] at h; exact SeqAt.EqAt.str_int x t j u _ _ _ _ h
   · rw [Aiv] at h; exact wpAny_eqBool_str h
 «strs» := λ k x t v h => by
  rcases E4 h with ⟨i, u, rfl, e⟩ | ⟨y, u, rfl, e⟩
  · exact nomatch e
  ·
   injection e with e1 _
   subst e1
   cases v <;> rfl
def ux (prog : Program) (w : World) (i : Int) (t : Tok) : (Gj prog w).is (.inl i) (.int i t) = true := Acb i t
def u5 (prog : Program) (w : World) (x : Str) (t : Tok) : (Gj prog w).is (.inr x) (.str x t) = true := Abs x t
inductive V where
 | non | bl (b : Bool) | int (i : Int) | str (x : Str) | byt (b : Array UInt8) | flt (b : UInt64) | ref (a : Addr) | ty (n : String)
 deriving DecidableEq
def RelV : V -> Value -> Prop
 | .non, u => u = Value.none
 | .bl b, u => u = Value.bool b
 | .int i, u => ∃ t, u = Value.int i t
 | .str x, u => ∃ t, u = Value.str x t
 | .byt b, u => ∃ t, u = Value.bytes b t
 | .flt b, u => ∃ t, u = Value.float b t
 | .ref a, u => u = Value.ref a
 | .ty n, u => u = Value.type n
abbrev Vals : List V -> List Value -> Prop := Paired RelV
theorem Vals.length (r : Vals xs us) : xs.length = us.length := Paired.length r
theorem Vals.get : ∀ {xs : List V} {us : List Value} {i : Nat} {x : V}, Vals xs us -> xs[i]? = some x -> ∃ u, us[i]? = some u /\ RelV x u
 | _, _, _, _, .nil, e => by simp at e
 | _, _, 0, _, .cons r _, e => by simp at e; subst e; exact ⟨_, rfl, r⟩
 |
  _, _, i + 1, x, .cons _ t, e => by
  obtain ⟨u, h1, h2⟩ := Vals.get (i := i) (x := x) t (by simpa using e)
  exact ⟨u, by simpa using h1, h2⟩
theorem Vals.append : ∀ {xs ys : List V} {us ws : List Value}, Vals xs us -> Vals ys ws -> Vals (xs ++ ys) (us ++ ws)
 | _, _, _, _, .nil, s => s
 | _, _, _, _, .cons r t, s => .cons r (Vals.append t s)
theorem Vals.take : ∀ {xs : List V} {us : List Value} (n : Nat), Vals xs us -> Vals (xs.take n) (us.take n)
 | _, _, 0, _ => .nil
 | _, _, _ + 1, .nil => .nil
 | _, _, n + 1, .cons r t => .cons r (Vals.take n t)
theorem Vals.drop : ∀ {xs : List V} {us : List Value} (n : Nat), Vals xs us -> Vals (xs.drop n) (us.drop n)
 | _, _, 0, r => r
 | _, _, _ + 1, .nil => .nil
 | _, _, n + 1, .cons _ t => Vals.drop n t
def RelO : Option V -> Option Value -> Prop
 | some v, some u => RelV v u
 | none, none => True
 | _, _ => False
def KV {κ : Type} : List (κ × V) -> List (κ × Value) -> Prop := Paired λ (p : κ × V) (q : κ × Value) => p.1 = q.1 /\ RelV p.2 q.2
def kV : Key -> V
 | .inl i => .int i
 | .inr x => .str x
inductive HO where
 | lst (xs : List V)
 | tup (xs : List V)
 | dK (kvs : List (Key × V)) | dT (kvs : List (List Key × V))
 | set (S : Int -> Bool) (n : Nat)
 | ins (C dx : Addr) (fs : List (Str × V))
 | own (x : Addr)
 | xd (fs : List (Str × V))
 | met (f x : Addr)
 | rng (lo hi : Int)
 | frz (o : Obj) (u : HO)
 | tbl (ps : Array Value)
 | ext (φ : Heap -> Prop)
abbrev Hp := Addr -> Option HO
def upd (H : Hp) (a : Addr) (o : HO) : Hp := λ b => if b = a then some o else H b
def Ae : upd H a o a = some o := by unfold upd; rw [if_pos rfl]
def An (h : b ≠ a) : upd H a o b = H b := by unfold upd; rw [if_neg h]
def Ajv {H : Hp} {a b : Addr} {o u : HO} (h : H a = some o) (h' : H b = some u) (d : o ≠ u) : a ≠ b := by
 intro e; subst e; rw [h] at h'; exact d (An7 h')
def Aq {H : Hp} {a b : Addr} {o : HO} (h : H a = some o) (h' : H b = none) : a ≠ b := by
 intro e; subst e; rw [h] at h'; cases h'
section
variable (P : Program) (w : World)
def ObjOk (H : Hp) (h : Heap) (a : Addr) : HO -> Prop
 | .lst xs => xs.length <= sizeLine /\ ∃ (its : List Value) (n : Nat), Vals xs its /\ h.get? a = some { cls := .type "list", data := .seq its.toArray n }
 | .tup xs => xs.length <= sizeLine /\ ∃ its : List Value, Vals xs its /\ IsTup h a its.toArray
 | .dK kvs => kvs.length <= sizeLine /\ (a == sysModules) = false /\ ∃ vs, KV kvs vs /\ h.DictOf (Gj P w) a vs
 | .dT kvs => kvs.length <= sizeLine /\ (a == sysModules) = false /\ ∃ xs : List (List Key × Addr × Value),
  Paired (λ (p : List Key × V) (q : List Key × Addr × Value) => p.1 = q.1 /\ H q.2.1 = some (.tup (p.1.map kV)) /\ RelV p.2 q.2.2) kvs xs /\
  ∃ o es ep, h.get? a = some o /\ o.ExactDict /\ o.data = .dict es ep /\ es.toList = xs.map (entryOfKey (tupleKind (Gj P w))) /\ (xs.map (·.1)).Nodup
 | .set S n => h.SetOf (intKind P w) a S n
 | .ins C dx fs => H dx = some (.own a) /\ fs.length <= 1000 /\ dx ≠ a /\ h.get? a = some (W.instObj C dx) /\
  ∃ mA, h.Ns1 dx mA /\ (∀ f, RelO (fs.lookup f) (mA f)) /\ PySem.Within mA (fs.map (·.1))
 | .own _ => ∃ o, h.get? a = some o
 | .xd fs => ∃ mA, h.Ns1 a mA /\ ∀ f, RelO (fs.lookup f) (mA f)
 | .rng lo hi => ∃ t u v, h.get? a = some { cls := .type "range", data := .fields #[.int lo t, .int hi u, .int 1 v] }
 | .frz o u => h.get? a = some o /\ ObjOk H h a u
 | .tbl ps => h.get? a = some { cls := .none, data := .fields ps }
 | .met f x => h.get? a = some (W.methodObj (.ref f) (.ref x))
 | .ext φ => φ h /\ (∃ o, h.get? a = some o) /\ ∀ h1 h2 : Heap, φ h1 -> (∀ o, h1.get? a = some o -> h2.get? a = some o) -> φ h2
def HOk (H : Hp) (h : Heap) : Prop := ∀ a o, H a = some o -> ObjOk P w H h a o
end
variable {w : World} {H : Hp} {H' : Hp}
theorem ObjOk.lt (x : ObjOk P w H h a o) : a < h.objs.size := by
 cases o with
 | lst xs => obtain ⟨_, _, _, _, e⟩ := x; exact Ana e
 | tup xs => obtain ⟨_, _, _, p⟩ := x; exact p.lt
 | dK kvs => obtain ⟨_, _, _, _, o, _, _, e, _⟩ := x; exact Ana e
 | dT kvs => obtain ⟨_, _, _, _, o, _, _, e, _⟩ := x; exact Ana e
 | set S n => obtain ⟨o, _, _, _, e, _⟩ := x; exact Ana e
 | ins C dx fs => obtain ⟨_, _, _, e, _⟩ := x; exact Ana e
 | own y => obtain ⟨_, e⟩ := x; exact Ana e
 | xd fs => obtain ⟨_, ⟨_, _, _, e, _⟩, _⟩ := x; exact Ana e
 | rng lo hi => obtain ⟨_, _, _, e⟩ := x; exact Ana e
 | frz ob u => obtain ⟨e, _⟩ := x; exact Ana e
 | tbl ps => exact Ana (show h.get? a = some _ from x)
 | met f y => exact Ana (show h.get? a = some _ from x)
 | ext φ => obtain ⟨_, ⟨_, e⟩, _⟩ := x; exact Ana e
theorem Paired.mapP : ∀ {l₁ : List α} {l₂ : List β}, Paired F l₁ l₂ -> (∀ a b, F a b -> G a b) -> Paired G l₁ l₂
 | _, _, .nil, _ => .nil
 | _, _, .cons r t, f => .cons (f _ _ r) (Paired.mapP t f)
theorem ObjOk.stay (x : ObjOk P w H h a o) (k : ∀ b u, (b = a ∨ H b = some (.own a)) -> h.get? b = some u -> h'.get? b = some u)
  (ho : ∀ b, H b = some (.own a) -> H' b = some (.own a)) (ht : ∀ b xs, H b = some (.tup xs) -> H' b = some (.tup xs)) : ObjOk P w H' h' a o := by
 induction o with
 | lst xs => obtain ⟨z, its, n, r, e⟩ := x; exact ⟨z, its, n, r, k _ _ (.inl rfl) e⟩
 | tup xs => obtain ⟨z, its, r, ob, e, c⟩ := x; exact ⟨z, its, r, ob, k _ _ (.inl rfl) e, c⟩
 | dK kvs => obtain ⟨z, y, vs, r, ob, es, ep, e, c⟩ := x; exact ⟨z, y, vs, r, ob, es, ep, k _ _ (.inl rfl) e, c⟩
 |
  dT kvs =>
  obtain ⟨z, y, xs, r, ob, es, ep, e, c⟩ := x
  exact ⟨z, y, xs, Paired.mapP r λ p q z => ⟨z.1, ht _ _ z.2.1, z.2.2⟩, ob, es, ep, k _ _ (.inl rfl) e, c⟩
 | set S n => obtain ⟨ob, es, ep, t, e, c⟩ := x; exact ⟨ob, es, ep, t, k _ _ (.inl rfl) e, c⟩
 |
  ins C dx fs =>
  obtain ⟨d, z, ne, e, mA, ⟨od, es, ep, e2, c⟩, r⟩ := x
  exact ⟨ho _ d, z, ne, k _ _ (.inl rfl) e, mA, ⟨od, es, ep, k _ _ (.inr d) e2, c⟩, r⟩
 | own y => obtain ⟨ob, e⟩ := x; exact ⟨ob, k _ _ (.inl rfl) e⟩
 | xd fs => obtain ⟨mA, ⟨od, es, ep, e, c⟩, r⟩ := x; exact ⟨mA, ⟨od, es, ep, k _ _ (.inl rfl) e, c⟩, r⟩
 | rng lo hi => obtain ⟨t, u, v, e⟩ := x; exact ⟨t, u, v, k _ _ (.inl rfl) e⟩
 | frz ob u ih => obtain ⟨e, q⟩ := x; exact ⟨k _ _ (.inl rfl) e, ih q⟩
 |
  tbl ps =>
  have e : h.get? a = some { cls := .none, data := .fields ps } := x
  show h'.get? a = some { cls := .none, data := .fields ps }
  exact k a _ (.inl rfl) e
 |
  met f y =>
  have e : h.get? a = some (W.methodObj (.ref f) (.ref y)) := x
  show h'.get? a = some (W.methodObj (.ref f) (.ref y))
  exact k a _ (.inl rfl) e
 | ext φ => obtain ⟨p, ⟨o, e⟩, st⟩ := x; exact ⟨st _ _ p λ o q => k _ _ (.inl rfl) q, ⟨o, k _ _ (.inl rfl) e⟩, st⟩
theorem HOk.lt (x : HOk P w H h) (e : H a = some o) : a < h.objs.size := (x a o e).lt
theorem HOk.fresh (x : HOk P w H h) (e : h.objs.size <= a) : H a = none := by
 cases q : H a with
 | none => rfl
 | some u => exact absurd (Anv (x.lt q) e) (Aor _)
def HOk.kept (x : HOk P w H h) (k : ∀ b u, h.get? b = some u -> h'.get? b = some u) : HOk P w H h' := λ a o e =>
 (x a o e).stay (λ b u _ q => k b u q) (λ _ q => q) λ _ _ q => q
def HOk.laid {P : Program} {h h' : Heap} {a : Addr} {o : HO} (x : HOk P w H h) (k : ∀ b u, h.get? b = some u -> h'.get? b = some u) (hp : h.objs.size <= a) (new : ObjOk P w (upd H a o) h' a o) : HOk P w (upd H a o) h' := λ b u e => by
 have hn := x.fresh hp
 by_cases hb : b = a
 · subst hb; rw [Ae] at e; cases e; exact new
 ·
  rw [An hb] at e
  exact (x b u e).stay (λ c v _ q => k c v q) (λ c q => by rw [An (Aq q hn)]; exact q) λ c xs q => by rw [An (Aq q hn)]; exact q
def Rd (H : Hp) (a : Addr) (u : HO) : Prop := H a = some u ∨ ∃ o, H a = some (.frz o u)
def Rd.ok (r : Rd H a u) (x : HOk P w H h) : ObjOk P w H h a u := by
 rcases r with r | ⟨o, r⟩
 · exact x a u r
 ·
  obtain ⟨_, q⟩ := x a _ r
  exact q
def Mut : Option HO -> Prop
 | some (.lst _) => True
 | some (.dK _) => True
 | some (.dT _) => True
 | some (.set _ _) => True
 | some (.ins _ _ _) => True
 | some (.ext _) => True
 | _ => False
def HOk.write (ok : HOk P w H h) (mu : Mut (H x)) (he : e = x ∨ H e = some (.own x)) (k : ∀ b u, b ≠ e -> h.get? b = some u -> h'.get? b = some u) (heo : ∃ u, h'.get? e = some u)
  (new : ObjOk P w (upd H x o') h' x o') : HOk P w (upd H x o') h' := λ b u q => by
 have nown : ∀ c y, H c = some (.own y) -> c ≠ x := λ c y r z => by subst z; rw [r] at mu; exact mu
 have ntup : ∀ c xs, H c = some (.tup xs) -> c ≠ x := λ c xs r z => by subst z; rw [r] at mu; exact mu
 by_cases hb : b = x
 · subst hb; rw [Ae] at q; cases q; exact new
 ·
  rw [An hb] at q
  by_cases hbe : b = e
  ·
   have q' : H b = some (.own x) := by
    rcases he with z | z
    · exact absurd (hbe.trans z) hb
    · rw [hbe]; exact z
   rw [q] at q'; cases q'
   obtain ⟨v, hv⟩ := heo
   exact ⟨v, by rw [hbe]; exact hv⟩
  ·
   refine (ok b u q).stay (λ c v hc r => k c v ?_ r) (λ c r => by rw [An (nown c b r)]; exact r) λ c xs r => by rw [An (ntup c xs r)]; exact r
   rcases hc with rfl | hc
   · exact hbe
   ·
    rintro rfl
    rcases he with z | z
    · exact nown c b hc z
    · rw [hc] at z; cases z; exact hb rfl
structure Un (fs ex : List Addr) (H H' : Hp) (h h' : Heap) : Prop where
 keep : ∀ b o, h.get? b = some o -> H b = none -> b ∉ fs -> b ∉ ex -> h'.get? b = some o
 slot : ∀ b o, h.get? b = some o -> H b = none -> b ∈ fs -> b ∉ ex -> ∃ sl, h'.get? b = some { o with slots := sl }
 free : ∀ b o, h.get? b = some o -> H b = none -> b ∉ ex -> H' b = none
 there : ∀ b o, h.get? b = some o -> b ∉ ex -> ∃ o', h'.get? b = some o'
 tups : ∀ b xs, H b = some (.tup xs) -> H' b = some (.tup xs)
 frzs : ∀ b o u, H b = some (.frz o u) -> H' b = some (.frz o u)
 tbls : ∀ b ps, H b = some (.tbl ps) -> ∃ more, H' b = some (.tbl (ps ++ more))
def Un.any (u : Un fs ex H H1 h h1) (q : h.get? b = some ob) (n : H b = none) (hx : b ∉ ex) : ∃ sl, h1.get? b = some { ob with slots := sl } := by
 by_cases hb : b ∈ fs
 · exact u.slot b ob q n hb hx
 · exact ⟨ob.slots, u.keep b ob q n hb hx⟩
def Un.kept (k : ∀ b u, h.get? b = some u -> h'.get? b = some u) : Un fs ex H H h h' :=
 ⟨λ b ob q _ _ _ => k b ob q, λ b ob q _ _ _ => ⟨ob.slots, k b ob q⟩, λ _ _ _ n _ => n, λ b ob q _ => ⟨ob, k b ob q⟩, λ _ _ q => q, λ _ _ _ q => q, λ _ ps q => ⟨#[], by rw [q]; simp⟩⟩
def Un.refl : Un fs ex H H h h := Un.kept λ _ _ q => q
def Un.laid {fs ex : List Addr} {h h' : Heap} {a : Addr} {o : HO} (k : ∀ b u, h.get? b = some u -> h'.get? b = some u) (hp : h.objs.size <= a) (hn : H a = none) : Un fs ex H (upd H a o) h h' where
 keep := λ b u q _ _ _ => k b u q
 slot := λ b u q _ _ _ => ⟨u.slots, k b u q⟩
 free := λ b u q n _ => by rw [An (Anm (Anv (Ana q) hp))]; exact n
 there := λ b u q _ => ⟨u, k b u q⟩
 tups := λ b xs q => by rw [An (Aq q hn)]; exact q
 frzs := λ b u xs q => by rw [An (Aq q hn)]; exact q
 tbls := λ b ps q => ⟨#[], by rw [An (Aq q hn), q]; simp⟩
def Un.write (mu : Mut (H x)) (he : e = x ∨ H e = some (.own x)) (k : ∀ b u, b ≠ e -> h.get? b = some u -> h'.get? b = some u) (heo : ∃ u, h'.get? e = some u) : Un fs ex H (upd H x o) h h' := by
 have hx : ∀ b, H b = none -> b ≠ x := λ b n z => by subst z; rw [n] at mu; exact mu
 have hb : ∀ b, H b = none -> b ≠ e := λ b n z => by
  subst z
  rcases he with r | r
  · exact hx b n r
  · rw [n] at r; cases r
 have hm : ∀ b u, H b = some u -> ¬ Mut (some u) -> b ≠ x := λ b u q nm z => by subst z; rw [q] at mu; exact nm mu
 refine ⟨λ b u q n _ _ => k b u (hb b n) q, λ b u q n _ _ => ⟨u.slots, k b u (hb b n) q⟩, λ b u q n _ => by rw [An (hx b n)]; exact n, λ b u q _ => ?_,
  λ b xs q => by rw [An (hm b _ q λ z => z)]; exact q, λ b u xs q => by rw [An (hm b _ q λ z => z)]; exact q, λ b ps q => ⟨#[], by rw [An (hm b _ q λ z => z), q]; simp⟩⟩
 by_cases hbe : b = e
 · subst hbe; exact heo
 · exact ⟨u, k b u hbe q⟩
def trk (h : Heap) (H : Hp) : List Addr := (List.range h.objs.size).filter λ a => (H a).isSome
def ub (h : Heap) (H : Hp) : Heap := W.hideAll h (trk h H)
def sf (h : Heap) (H : Hp) : (ub h H).objs.size = h.objs.size := W.hideAll_size _ _
def vy (e : h.get? b = some o) (n : H b = none) : (ub h H).get? b = some o :=
 W.hideAll_get _ e λ hm => by
  have q : (H b).isSome = true := (Aoj.mp hm).2
  rw [n] at q; simp at q
theorem Aby (e : (ub h H).get? b = some o) : h.get? b = some o /\ H b = none := by
 have e' : h.get? b = some o := W.of_hideAll (trk h H) e
 refine ⟨e', ?_⟩
 cases q : H b with
 | none => rfl
 |
  some x =>
  have hm : b ∈ trk h H := Aoj.mpr ⟨List.mem_range.mpr (Ana e'), by simp [q]⟩
  have z : (ub h H).get? b = none := W.hideAll_none (trk h H) hm
  rw [z] at e; cases e
def Af5 (g h : Heap) (L : Addr) : List (Addr × Obj) := (List.range h.objs.size).filterMap λ a => if a = L ∨ (g.get? a).isSome = true then none else (h.get? a).map λ o => (a, o)
def rest (g h : Heap) (L d : Addr) : List (Addr × Obj) := (Af5 g h L).filter λ p => decide (p.1 ≠ d)
structure Mod (K : W.Frag) (mg : Str -> Option Value) (base : Heap) : Prop where
 kin : K.In base
 glob : base.Ns mainGlobals mg
 blt : ∃ mb, base.Ns builtinsNs mb /\ ∀ x : Str, x ≠ "__name__" -> mb x = bootBuiltins x
 nolimit : base.NoLimit
structure Cx where
 prog : Program
 w : World
 K : W.Frag
 mg : Str -> Option Value
 base : Heap
 A : Around
 N : List Str
 s₀ : Shared
 H₀ : Hp
 env : Env
 outer : List Env
 stack : List Env
 ex : List Addr
 fn : Str -> Bool
 calm : Bool
 pn : List (Addr × Obj)
 xe : Value -> Shared -> Prop
def frs (l : List Env) : List Addr := l.filterMap (·.frame)
abbrev Cx.fs (X : Cx) : List Addr := frs X.outer
def Vis (sc : Scope) (x : Str) : Prop := sc.names.lookup x = some .local ∨ sc.names.lookup x = some .cell ∨ sc.names.lookup x = some .free
def Loc (sc : Scope) (x : Str) : Prop := sc.names.lookup x = some .local ∨ sc.names.lookup x = some .cell
def Look (env : Env) (h : Heap) (m : Str -> Option Value) (x : Str) (u : Value) : Prop :=
 (env.kindOf x = some .local /\ m x = some u) ∨ ((env.kindOf x = some .cell ∨ env.kindOf x = some .free) /\ ∃ c, env.cells.lookup x = some c /\ h.IsCell c (some u))
structure Cx.Ok (X : Cx) : Prop where
 mod : Mod X.K X.mg X.base
 kind : X.env.scope.kind = .function
 glob : X.env.globals = mainGlobals
 blt : X.env.builtins = builtinsNs
 above : X.s₀.heap.objs.size <= X.env.locals
 inj : ∀ x y c, X.env.cells.lookup x = some c -> X.env.cells.lookup y = some c -> x = y
 has : ∀ x, (X.env.kindOf x = some .cell ∨ X.env.kindOf x = some .free) -> ∃ c, X.env.cells.lookup x = some c
 cab : ∀ x c, X.fn x = true -> X.env.cells.lookup x = some c -> X.s₀.heap.objs.size <= c
 hd : X.calm = true -> X.A.handled = none
 frames : X.A.frames = some X.stack
 stk : X.stack = X.outer ∨ (X.stack = X.env :: X.outer /\ X.env.frame = some X.env.locals)
 exf : ∀ b ∈ X.ex, b ≠ X.env.locals /\ ∀ x c, X.env.cells.lookup x = some c -> c ≠ b
 bs : ∀ b o, X.base.get? b = some o -> X.s₀.heap.get? b = some o /\ X.H₀ b = none
 bsz : X.base.objs.size <= X.s₀.heap.objs.size
 noex : ∀ b o, X.base.get? b = some o -> b ∉ X.ex
 exfs : ∀ b ∈ X.ex, b ∉ X.fs
 funs : X.s₀.heap.FunFrames X.base X.outer
 frf : ∀ b ∈ X.fs, X.H₀ b = none
structure Inv (X : Cx) (pins : List (Addr × Obj)) (σ : List (Option V)) (H : Hp) (s : Shared) : Prop where
 ok : X.Ok
 os : s.os = X.s₀.os
 bare : AllBare s.gens
 base : Un X.fs X.ex X.H₀ H X.s₀.heap s.heap
 loc : ∃ m, s.heap.Ns X.env.locals m /\ ∀ (i : Nat) (x : Str) (v : V), X.N[i]? = some x -> σ[i]? = some (some v) -> Vis X.env.scope x -> ∃ u, RelV v u /\ Look X.env s.heap m x u
 cell : ∀ x c, X.env.cells.lookup x = some c -> ∃ v, s.heap.IsCell c v
 free : H X.env.locals = none
 freeC : ∀ x c, X.env.cells.lookup x = some c -> H c = none
 pin : ∀ p ∈ X.pn ++ pins, s.heap.get? p.1 = some p.2 /\ H p.1 = none /\ p.1 ≠ X.env.locals /\ p.1 ∉ X.fs /\ ∀ v, p.2.data ≠ .cell v
 hok : HOk X.prog X.w H s.heap
 len : σ.length = X.N.length
variable {X : Cx} {pins : List (Addr × Obj)} {s : Shared}
def Cx.Ok.nofr (ok : X.Ok) (e : X.base.get? b = some o) : b ∉ X.fs := λ hb => by
 have := (ok.funs.mem hb).1
 rw [e] at this; cases this
theorem Inv.bs (I : Inv X pins σ H s) : ∀ b o, X.base.get? b = some o -> s.heap.get? b = some o /\ H b = none := λ b o e =>
 ⟨I.base.keep b o (I.ok.bs b o e).1 (I.ok.bs b o e).2 (I.ok.nofr e) (I.ok.noex b o e), I.base.free b o (I.ok.bs b o e).1 (I.ok.bs b o e).2 (I.ok.noex b o e)⟩
def Inv.bk (I : Inv X pins σ H s) : ∀ b o, X.base.get? b = some o -> s.heap.get? b = some o := λ b o e => (I.bs b o e).1
theorem Inv.mod (I : Inv X pins σ H s) : Mod X.K X.mg X.base := I.ok.mod
def Inv.kIn (I : Inv X pins σ H s) : X.K.In s.heap := I.ok.mod.kin.keeps I.bk
theorem Inv.lt (I : Inv X pins σ H s) : X.env.locals < s.heap.objs.size := let ⟨_, hn, _⟩ := I.loc; hn.lt
def Inv.sz (I : Inv X pins σ H s) : X.s₀.heap.objs.size <= s.heap.objs.size := Anb I.ok.above (Apj I.lt)
def Inv.nofs (I : Inv X pins σ H s) (h : s.heap.objs.size <= a) : a ∉ X.fs := λ hb => by
 obtain ⟨_, o, ho, _⟩ := I.ok.funs.mem hb
 exact absurd (Anv (Ana ho) (Anb I.sz h)) (Aor _)
def Inv.cne (I : Inv X pins σ H s) : ∀ x c, X.env.cells.lookup x = some c -> c ≠ X.env.locals := λ x c e z => by
 obtain ⟨v, o, ho, hd⟩ := I.cell x c e
 obtain ⟨m, ⟨o', es, ep, ho', hd', _⟩, _⟩ := I.loc
 rw [z, ho'] at ho; cases ho; rw [hd'] at hd; cases hd
theorem Inv.funs (I : Inv X pins σ H s) : s.heap.FunFrames X.base X.outer := by
 have all : ∀ (l : List Env), (∀ b ∈ frs l, b ∈ X.fs) -> X.s₀.heap.FunFrames X.base l -> s.heap.FunFrames X.base l := by
  intro l
  induction l with
  | nil => intro _ _; trivial
  |
   cons env r ih =>
   intro hs hl
   obtain ⟨hk, ⟨L, o, hf, hn, ho, hd⟩, hr⟩ := hl
   have hL : L ∈ X.fs := hs L (by unfold frs; rw [Art, hf]; exact Ano)
   obtain ⟨sl, e⟩ := I.base.slot L o ho (I.ok.frf L hL) hL λ z => I.ok.exfs L z hL
   exact ⟨hk, ⟨L, _, hf, hn, e, hd⟩, ih (λ b hb => hs b (by unfold frs; rw [Art, hf]; exact Ann _ hb)) hr⟩
 exact all X.outer (λ _ hb => hb) I.ok.funs
theorem Inv.stack (I : Inv X pins σ H s) : s.heap.FunFrames X.base X.stack := by
 rcases I.ok.stk with e | ⟨e, hf⟩
 · rw [e]; exact I.funs
 ·
  rw [e]
  obtain ⟨m, hn, _⟩ := I.loc
  refine .cons (by rw [I.ok.kind]; decide) hf hn ?_ I.funs
  exact Heap.get?_none_of_le (Anb I.ok.bsz I.ok.above)
def Inv.stkSub (I : Inv X pins σ H s) : ∀ b ∈ frs X.stack, b ∈ X.env.locals :: X.fs := λ b hb => by
 rcases I.ok.stk with e | ⟨e, hf⟩
 · rw [e] at hb; exact Ann _ hb
 ·
  rw [e] at hb
  unfold frs at hb
  rw [Art, hf] at hb
  exact hb
def Inv.stkFree (I : Inv X pins σ H s) : ∀ b ∈ frs X.stack, H b = none := λ b hb => by
 rcases Anf.mp (I.stkSub b hb) with e | hb
 · rw [e]; exact I.free
 ·
  obtain ⟨_, o, ho, _⟩ := I.ok.funs.mem hb
  exact I.base.free b o ho (I.ok.frf b hb) λ z => I.ok.exfs b z hb
def Inv.step {σ : List (Option V)} {h' : Heap} {g' : Array GenState} {t' : Nat} {d' : Drawn} {ch : List Addr} (I : Inv X pins σ H s)
  (hch : ∀ b ∈ ch, (b ∈ X.ex ∨ X.s₀.heap.objs.size <= b) /\ b ≠ X.env.locals /\ (∀ x c, X.env.cells.lookup x = some c -> c ≠ b) /\ ∀ p ∈ X.pn ++ pins, p.1 ≠ b)
  (keep : ∀ b o, b ≠ X.env.locals -> b ∉ X.fs -> b ∉ ch -> s.heap.get? b = some o -> H b = none -> h'.get? b = some o)
  (slot : ∀ b o, b ≠ X.env.locals -> b ∈ X.fs -> b ∉ ch -> s.heap.get? b = some o -> H b = none -> ∃ sl, h'.get? b = some { o with slots := sl }) (free : ∀ b o, b ∉ ch -> s.heap.get? b = some o -> H b = none -> H' b = none)
  (there : ∀ b o, b ∉ ch -> s.heap.get? b = some o -> ∃ o', h'.get? b = some o')
  (tups : ∀ b xs, H b = some (.tup xs) -> H' b = some (.tup xs)) (frzs : ∀ b o u, H b = some (.frz o u) -> H' b = some (.frz o u)) (tbls : ∀ b ps, H b = some (.tbl ps) -> ∃ more, H' b = some (.tbl (ps ++ more)))
  (ns : ∀ m, s.heap.Ns X.env.locals m -> h'.Ns X.env.locals m) (hok : HOk X.prog X.w H' h') (hg : AllBare g') :
  Inv X pins σ H' { s with heap := h', gens := g', drawn := d', toks := t' } := by
 have neL : ∀ b o, X.s₀.heap.get? b = some o -> b ≠ X.env.locals := λ b o e => Anm (Anv (Ana e) I.ok.above)
 have neC : ∀ b o, X.s₀.heap.get? b = some o -> b ∉ X.ex -> b ∉ ch := λ b o e hx hb => by
  rcases (hch b hb).1 with z | z
  · exact hx z
  · exact absurd (Anv (Ana e) z) (Aor _)
 have cellK : ∀ x c, X.env.cells.lookup x = some c -> ∀ v, s.heap.IsCell c v -> h'.IsCell c v := λ x c e v ⟨o, ho, hd⟩ => by
  have nch : c ∉ ch := λ z => (hch c z).2.2.1 x c e rfl
  by_cases hc : c ∈ X.fs
  ·
   obtain ⟨sl, q⟩ := slot c o (I.cne x c e) hc nch ho (I.freeC x c e)
   exact ⟨_, q, hd⟩
  · exact ⟨o, keep c o (I.cne x c e) hc nch ho (I.freeC x c e), hd⟩
 refine ⟨I.ok, I.os, hg, ⟨λ b o e n hb hx => ?_, λ b o e n hb hx => ?_, λ b o e n hx => ?_, λ b o e hx => ?_, λ b xs e => tups b xs (I.base.tups b xs e), λ b o xs e => frzs b o xs (I.base.frzs b o xs e), λ b ps e => ?_⟩, ?_, λ x c e => ?_, ?_, λ x c e => ?_, λ p hp => ?_, hok, I.len⟩
 · exact keep b o (neL b o e) hb (neC b o e hx) (I.base.keep b o e n hb hx) (I.base.free b o e n hx)
 ·
  obtain ⟨sl, e1⟩ := I.base.slot b o e n hb hx
  obtain ⟨sl', e2⟩ := slot b _ (neL b o e) hb (neC b o e hx) e1 (I.base.free b o e n hx)
  exact ⟨sl', e2⟩
 ·
  obtain ⟨o', e1⟩ := I.base.there b o e hx
  exact free b o' (neC b o e hx) e1 (I.base.free b o e n hx)
 ·
  obtain ⟨o', e1⟩ := I.base.there b o e hx
  exact there b o' (neC b o e hx) e1
 ·
  obtain ⟨m1, e1⟩ := I.base.tbls b ps e
  obtain ⟨m2, e2⟩ := tbls b _ e1
  exact ⟨m1 ++ m2, by rw [e2, Array.append_assoc]⟩
 ·
  obtain ⟨m, hn, hl⟩ := I.loc
  refine ⟨m, ns m hn, λ i x v e1 e2 e3 => ?_⟩
  obtain ⟨u, r, l⟩ := hl i x v e1 e2 e3
  refine ⟨u, r, ?_⟩
  rcases l with l | ⟨k, c, e, z⟩
  · exact .inl l
  · exact .inr ⟨k, c, e, cellK x c e _ z⟩
 ·
  obtain ⟨v, z⟩ := I.cell x c e
  exact ⟨v, cellK x c e v z⟩
 ·
  obtain ⟨m, ⟨o, _, _, ho, _⟩, _⟩ := I.loc
  exact free _ o (λ z => (hch _ z).2.1 rfl) ho I.free
 ·
  obtain ⟨v, o, ho, hd⟩ := I.cell x c e
  exact free c o (λ z => (hch c z).2.2.1 x c e rfl) ho (I.freeC x c e)
 ·
  obtain ⟨e, n, ne, nf, d⟩ := I.pin p hp
  have nch : p.1 ∉ ch := λ z => (hch p.1 z).2.2.2 p hp rfl
  exact ⟨keep p.1 p.2 ne nf nch e n, free p.1 p.2 nch e n, ne, nf, d⟩
def Inv.un {σ : List (Option V)} {h' : Heap} {t' : Nat} (I : Inv X pins σ H s) (u : Un X.fs [] H H' s.heap h') (hok : HOk X.prog X.w H' h') : Inv X pins σ H' { s with heap := h', toks := t' } := by
 obtain ⟨m, ⟨o, es, ep, ho, r⟩, _⟩ := id I.loc
 obtain ⟨sl, hL⟩ := u.any ho I.free dks
 exact I.step (g' := s.gens) (d' := s.drawn) (ch := []) (λ _ z => nomatch z) (λ b o _ hb _ e n => u.keep b o e n hb dks) (λ b o _ hb _ e n => u.slot b o e n hb dks) (λ b o _ e n => u.free b o e n dks) (λ b o _ e => u.there b o e dks) u.tups u.frzs u.tbls (λ m' hm => by
  obtain ⟨o', es', ep', ho', r'⟩ := hm
  rw [ho] at ho'; cases ho'
  exact ⟨_, es', ep', hL, r'⟩) hok I.bare
def Inv.call {σ : List (Option V)} {h' : Heap} {g' : Array GenState} {t' : Nat} {d' : Drawn} {ch : List Addr} (I : Inv X pins σ H s) (u : Un (frs X.stack) ch H H' s.heap h') (hok : HOk X.prog X.w H' h') (hg : AllBare g')
  (hch : ∀ b ∈ ch, (b ∈ X.ex ∨ X.s₀.heap.objs.size <= b) /\ b ≠ X.env.locals /\ (∀ x c, X.env.cells.lookup x = some c -> c ≠ b) /\ ∀ p ∈ X.pn ++ pins, p.1 ≠ b) :
  Inv X pins σ H' { s with heap := h', gens := g', drawn := d', toks := t' } := by
 obtain ⟨m, ⟨o, es, ep, ho, r⟩, _⟩ := id I.loc
 obtain ⟨sl, hL⟩ := u.any ho I.free λ z => (hch _ z).2.1 rfl
 exact I.step (ch := ch) hch (λ b o hL hb hc e n => u.keep b o e n (λ z => (Anf.mp (I.stkSub b z)).elim hL hb) hc) (λ b o _ _ hc e n => u.any e n hc) (λ b o hc e n => u.free b o e n hc) (λ b o hc e => u.there b o e hc) u.tups u.frzs u.tbls (λ m' hm => by
  obtain ⟨o', es', ep', ho', r'⟩ := hm
  rw [ho] at ho'; cases ho'
  exact ⟨_, es', ep', hL, r'⟩) hok hg
def Inv.turned {σ : List (Option V)} {h' : Heap} {t' : Nat} {it : Addr} (I : Inv X pins σ H s) (k : ∀ b o, b ≠ it -> s.heap.get? b = some o -> h'.get? b = some o) (hn : H it = none) (hL : it ≠ X.env.locals)
  (h1 : it ∈ X.ex ∨ X.s₀.heap.objs.size <= it) (h2 : ∀ x c, X.env.cells.lookup x = some c -> c ≠ it) (h3 : ∀ p ∈ X.pn ++ pins, p.1 ≠ it) : Inv X pins σ H { s with heap := h', toks := t' } := by
 have nit : ∀ b u, H b = some u -> b ≠ it := λ b u e z => by rw [z, hn] at e; cases e
 refine I.step (g' := s.gens) (d' := s.drawn) (ch := [it]) (λ b hb => ?_) (λ b o _ _ hc e _ => k b o (λ z => hc (by simp [z])) e) (λ b o _ _ hc e _ => ⟨o.slots, k b o (λ z => hc (by simp [z])) e⟩) (λ _ _ _ _ n => n)
  (λ b o hc e => ⟨o, k b o (λ z => hc (by simp [z])) e⟩) (λ _ _ e => e) (λ _ _ _ e => e) (λ b ps e => ⟨#[], by rw [e]; simp⟩) (λ m hm => ?_) (λ b u e => ?_) I.bare
 ·
  have e : b = it := by simpa using hb
  subst e
  exact ⟨h1, hL, h2, h3⟩
 ·
  obtain ⟨o, es, ep, ho, r⟩ := hm
  exact ⟨o, es, ep, k _ o (Aq6 hL) ho, r⟩
 ·
  refine (I.hok b u e).stay (λ c v hc q => k c v ?_ q) (λ _ q => q) λ _ _ q => q
  rcases hc with z | z
  · rw [z]; exact nit b u e
  · exact nit c _ z
def Inv.tok (I : Inv X pins σ H s) (t : Nat) : Inv X pins σ H { s with toks := t } := I.un (h' := s.heap) (t' := t) Un.refl I.hok
theorem Inv.kept (I : Inv X pins σ H s) (k : ∀ b u, s.heap.get? b = some u -> h'.get? b = some u) : Inv X pins σ H { s with heap := h', toks := t' } := I.un (Un.kept k) (I.hok.kept k)
theorem Inv.laid (I : Inv X pins σ H s) (k : ∀ b u, s.heap.get? b = some u -> h'.get? b = some u) (hp : s.heap.objs.size <= a) (new : ObjOk X.prog X.w (upd H a o) h' a o) :
 Inv X pins σ (upd H a o) { s with heap := h', toks := t' } := I.un (Un.laid k hp (I.hok.fresh hp)) (I.hok.laid k hp new)
theorem Inv.write (I : Inv X pins σ H s) (mu : Mut (H x)) (he : e = x ∨ H e = some (.own x)) (k : ∀ b u, b ≠ e -> s.heap.get? b = some u -> h'.get? b = some u) (heo : ∃ u, h'.get? e = some u)
 (new : ObjOk X.prog X.w (upd H x o) h' x o) : Inv X pins σ (upd H x o) { s with heap := h', toks := t' } := I.un (Un.write mu he k heo) (I.hok.write mu he k heo new)
def Inv.pins_of (I : Inv X pins σ H s) (h : ∀ p ∈ pins', s.heap.get? p.1 = some p.2 /\ H p.1 = none /\ p.1 ≠ X.env.locals /\ p.1 ∉ X.fs /\ ∀ v, p.2.data ≠ .cell v) : Inv X pins' σ H s :=
 ⟨I.ok, I.os, I.bare, I.base, I.loc, I.cell, I.free, I.freeC, λ p hp => (Aog.mp hp).elim (λ z => I.pin p (Apd _ z)) (h p), I.hok, I.len⟩
def v5 {N : List Str} (hN : N.Nodup) {i j : Nat} {x : Str} (a : N[i]? = some x) (b : N[j]? = some x) : i = j := by
 obtain ⟨h1, e1⟩ := Ang.mp a
 obtain ⟨h2, e2⟩ := Ang.mp b
 exact (List.getElem_inj hN).mp (e1.trans e2.symm)
def tm (I : Inv X pins σ H s) (hN : X.N.Nodup) (hi : X.N[i]? = some x) (hx : Loc X.env.scope x) (r : RelV v u)
  (h : ∀ s', Inv X pins (σ.set i (some v)) H s' -> (∃ a, Heap.SameBut a s.heap s'.heap /\ (a = X.env.locals ∨ X.env.cells.lookup x = some a)) -> Q () s') (hf : X.fn x = true ∨ X.env.scope.names.lookup x = some .local := by first | exact .inl rfl | exact .inr rfl | assumption) : wpAny M A (storeName X.env x u) Q E s := by
 obtain ⟨m, hn, hl⟩ := id I.loc
 have hcls : (X.env.scope.kind == .class || (X.env.scope.kind == .module && X.env.locals != X.env.globals)) = false := by rw [I.ok.kind]; rfl
 have hiσ : i < σ.length := by rw [I.len]; exact (Ang.mp hi).1
 have cne := I.cne
 have tracked : ∀ {a : Addr} {h' : Heap}, (∃ o, s.heap.get? a = some o /\ H a = none) -> Heap.SameBut a s.heap h' -> HOk X.prog X.w H h' := λ {a h'} ha hs b ob e => by
  obtain ⟨_, _, hfree⟩ := ha
  refine (I.hok b ob e).stay (λ c w' hc q => (hs.2 c ?_).trans q) (λ _ q => q) λ _ _ q => q
  rintro rfl
  rcases hc with rfl | hc
  · rw [hfree] at e; cases e
  · rw [hfree] at hc; cases hc
 rcases hx with hk | hk
 ·
  refine wpAny_storeName_local hk hn (λ h' hn' hs => ?_) hcls
  obtain ⟨oL, _, _, hoL, _⟩ := id hn
  refine h _ ⟨I.ok, I.os, I.bare, ⟨λ b o e n hb hx => ?_, λ b o e n hb hx => ?_, I.base.free, λ b o e hx => ?_, I.base.tups, I.base.frzs, I.base.tbls⟩, ⟨_, hn', λ j y v' e1 e2 e3 => ?_⟩, λ y c e => ?_, I.free, I.freeC, λ p hp => ?_, tracked ⟨oL, hoL, I.free⟩ hs, by simpa using I.len⟩ ⟨_, hs, .inl rfl⟩
  · exact (hs.2 b (Anm (Anv (Ana e) I.ok.above))).trans (I.base.keep b o e n hb hx)
  ·
   obtain ⟨sl, e1⟩ := I.base.slot b o e n hb hx
   exact ⟨sl, (hs.2 b (Anm (Anv (Ana e) I.ok.above))).trans e1⟩
  ·
   obtain ⟨o', e1⟩ := I.base.there b o e hx
   exact ⟨o', (hs.2 b (Anm (Anv (Ana e) I.ok.above))).trans e1⟩
  ·
   by_cases hj : j = i
   ·
    subst hj
    rw [hi] at e1; cases e1
    rw [List.getElem?_set_self hiσ] at e2
    cases e2
    exact ⟨u, r, .inl ⟨hk, dks⟩⟩
   ·
    rw [List.getElem?_set_ne (Aq6 hj)] at e2
    obtain ⟨u', r', q⟩ := hl j y v' e1 e2 e3
    refine ⟨u', r', ?_⟩
    rcases q with ⟨k, e⟩ | ⟨k, c, e, z⟩
    ·
     refine .inl ⟨k, ?_⟩
     have : y ≠ x := λ e => hj (v5 hN e1 (e ▸ hi))
     simp [this, e]
    · exact .inr ⟨k, c, e, z.sameBut hs (cne y c e)⟩
  ·
   obtain ⟨w', z⟩ := I.cell y c e
   exact ⟨w', z.sameBut hs (cne y c e)⟩
  ·
   obtain ⟨e, n, ne, nf, d⟩ := I.pin p hp
   exact ⟨(hs.2 p.1 ne).trans e, n, ne, nf, d⟩
 ·
  have hfn : X.fn x = true := by
   rcases hf with z | z
   · exact z
   · rw [z] at hk; cases hk
  obtain ⟨c, hc⟩ := I.ok.has x (.inl hk)
  obtain ⟨w', z⟩ := I.cell x c hc
  refine wpAny_storeName_cell I.ok.kind hk hc z (λ h' hc' hs => ?_)
  obtain ⟨oc, hoc, hocd⟩ := id z
  refine h { s with heap := h' } ⟨I.ok, I.os, I.bare, ⟨λ b o e n hb hx => ?_, λ b o e n hb hx => ?_, I.base.free, λ b o e hx => ?_, I.base.tups, I.base.frzs, I.base.tbls⟩, ⟨m, hn.sameBut hs (Aq6 (cne x c hc)), λ j y v' e1 e2 e3 => ?_⟩, λ y c' e => ?_, I.free, I.freeC, λ p hp => ?_, tracked ⟨oc, hoc, I.freeC x c hc⟩ hs, by simpa using I.len⟩ ⟨c, hs, .inr hc⟩
  · exact (hs.2 b (Anm (Anv (Ana e) (I.ok.cab x c hfn hc)))).trans (I.base.keep b o e n hb hx)
  ·
   obtain ⟨sl, e1⟩ := I.base.slot b o e n hb hx
   exact ⟨sl, (hs.2 b (Anm (Anv (Ana e) (I.ok.cab x c hfn hc)))).trans e1⟩
  ·
   obtain ⟨o', e1⟩ := I.base.there b o e hx
   exact ⟨o', (hs.2 b (Anm (Anv (Ana e) (I.ok.cab x c hfn hc)))).trans e1⟩
  ·
   by_cases hj : j = i
   ·
    subst hj
    rw [hi] at e1; cases e1
    rw [List.getElem?_set_self hiσ] at e2
    cases e2
    exact ⟨u, r, .inr ⟨.inl hk, c, hc, hc'⟩⟩
   ·
    rw [List.getElem?_set_ne (Aq6 hj)] at e2
    obtain ⟨u', r', q⟩ := hl j y v' e1 e2 e3
    refine ⟨u', r', ?_⟩
    rcases q with q | ⟨k, c', e, z'⟩
    · exact .inl q
    ·
     refine .inr ⟨k, c', e, z'.sameBut hs ?_⟩
     rintro rfl
     exact hj (v5 hN e1 (I.ok.inj _ _ _ e hc ▸ hi))
  ·
   by_cases hcc : c' = c
   · subst hcc; exact ⟨_, hc'⟩
   ·
    obtain ⟨w2, z2⟩ := I.cell y c' e
    exact ⟨w2, z2.sameBut hs hcc⟩
  ·
   obtain ⟨e, n, ne, nf, d⟩ := I.pin p hp
   refine ⟨(hs.2 p.1 ?_).trans e, n, ne, nf, d⟩
   intro q
   rw [q, hoc] at e
   have q' : oc = p.2 := An7 e
   exact d w' (by rw [← q']; exact hocd)
def ma (I : Inv X pins σ H s) (hN : X.N.Nodup) (hi : X.N[i]? = some x) (hx : Loc X.env.scope x) (r : RelV v u)
  (h : ∀ s', Inv X pins (σ.set i (some v)) H s' -> Q () s') (hf : X.fn x = true ∨ X.env.scope.names.lookup x = some .local := by first | exact .inl rfl | exact .inr rfl | assumption) : wpAny M A (storeName X.env x u) Q E s :=
 tm I hN hi hx r (λ s' I' _ => h s' I') hf
def Inv.call' (I : Inv X pins σ H s) (ho : s'.os = s.os) (u : Un (frs X.stack) ch H H' s.heap s'.heap) (hok : HOk X.prog X.w H' s'.heap) (hg : AllBare s'.gens)
  (hch : ∀ b ∈ ch, (b ∈ X.ex ∨ X.s₀.heap.objs.size <= b) /\ b ≠ X.env.locals /\ (∀ x c, X.env.cells.lookup x = some c -> c ≠ b) /\ ∀ p ∈ X.pn ++ pins, p.1 ≠ b) : Inv X pins σ H' s' := by
 obtain ⟨h', g', d', t', o'⟩ := s'
 have e : o' = s.os := ho
 subst e
 exact I.call (g' := g') (t' := t') (d' := d') u hok hg hch
abbrev XK := Value -> Option Addr -> Hp -> Prop
abbrev St := List (Option V)
abbrev VK := V -> Hp -> Prop
abbrev TE := St -> Hp -> VK -> Prop
abbrev TT := St -> Hp -> (Bool -> Hp -> Prop) -> Prop
abbrev TA := St -> Hp -> (List V -> Hp -> Prop) -> Prop
structure Ends where
 nx : St -> Hp -> Prop
 rt : St -> VK
 bk : St -> Hp -> Prop := λ _ _ => False
 ct : St -> Hp -> Prop := λ _ _ => False
abbrev TS := Ends -> St -> Hp -> Prop
def EP (X : Cx) (pins : List (Addr × Obj)) (σ : St) (Q : VK) (u : Value) (s' : Shared) : Prop := ∃ v H', Inv X pins σ H' s' /\ RelV v u /\ Q v H'
def TP (X : Cx) (pins : List (Addr × Obj)) (σ : St) (Q : Bool -> Hp -> Prop) (b : Bool) (s' : Shared) : Prop := ∃ H', Inv X pins σ H' s' /\ Q b H'
def AP (X : Cx) (pins : List (Addr × Obj)) (σ : St) (Q : List V -> Hp -> Prop) (us : List Value) (s' : Shared) : Prop := ∃ vs H', Inv X pins σ H' s' /\ Vals vs us /\ Q vs H'
def SP (X : Cx) (pins : List (Addr × Obj)) (D : Ends) (f : Flow) (s' : Shared) : Prop :=
 match f with
 | .next => ∃ σ' H', Inv X pins σ' H' s' /\ D.nx σ' H'
 | .brk => ∃ σ' H', Inv X pins σ' H' s' /\ D.bk σ' H'
 | .cont => ∃ σ' H', Inv X pins σ' H' s' /\ D.ct σ' H'
 | .ret u => ∃ v σ' H', Inv X pins σ' H' s' /\ RelV v u /\ D.rt σ' v H'
def PE (X : Cx) (e : Expr) (t : TE) : Prop :=
 ∀ (pins : List (Addr × Obj)) (s : Shared) (σ : St) (H : Hp) (Q : VK), Inv X pins σ H s -> t σ H Q -> wpAny (model X.prog X.w) X.A (eval e X.env) (EP X pins σ Q) X.xe s
def PT (X : Cx) (e : Expr) (t : TT) : Prop :=
 ∀ (pins : List (Addr × Obj)) (s : Shared) (σ : St) (H : Hp) (Q : Bool -> Hp -> Prop), Inv X pins σ H s -> t σ H Q -> wpAny (model X.prog X.w) X.A (isTrue e X.env (eval e X.env)) (TP X pins σ Q) X.xe s
def PW (X : Cx) (e : Expr) (t : TT) : Prop :=
 ∀ (whole : Sem Value) (pins : List (Addr × Obj)) (s : Shared) (σ : St) (H : Hp) (Q : Bool -> Hp -> Prop), Inv X pins σ H s -> t σ H Q -> wpAny (model X.prog X.w) X.A (isTrue e X.env whole) (TP X pins σ Q) X.xe s
def PW.pt (h : PW X e t) : PT X e t := h _
abbrev _root_.Asg := @PW.pt
def PA (X : Cx) (es : List Expr) (t : TA) : Prop :=
 ∀ (pos : Pos) (pins : List (Addr × Obj)) (s : Shared) (σ : St) (H : Hp) (Q : List V -> Hp -> Prop), Inv X pins σ H s -> t σ H Q -> wpAny (model X.prog X.w) X.A (spliced (backTo pos (starEach es X.env))) (AP X pins σ Q) X.xe s
def PS (X : Cx) (st : Stmt) (t : TS) : Prop :=
 ∀ (pins : List (Addr × Obj)) (s : Shared) (σ : St) (H : Hp) (D : Ends), Inv X pins σ H s -> t D σ H -> wpAny (model X.prog X.w) X.A (exec st X.env) (SP X pins D) X.xe s
def PSs (X : Cx) (st : List Stmt) (t : TS) : Prop :=
 ∀ (pins : List (Addr × Obj)) (s : Shared) (σ : St) (H : Hp) (D : Ends), Inv X pins σ H s -> t D σ H -> wpAny (model X.prog X.w) X.A (execs st X.env) (SP X pins D) X.xe s
def thn (h : wpAny M A t Q E s) (hQ : ∀ a s, Q a s -> Q' a s) : wpAny M A t Q' E s := Ao3 h hQ λ _ _ x => x
def Alv (i : Nat) : TE := λ σ H Q => ∃ v, σ[i]? = some (some v) /\ Q v H
def tC (v : V) : TE := λ _ H Q => Q v H
def Aih (hN : X.N[i]? = some x) (hv : Vis X.env.scope x) (hd : (x == ("__debug__" : Str)) = false := by decide) (hcd : (x == ("__classdict__" : Str)) = false := by decide) : PE X (.Name x pos) (Alv i) := by
 intro pins s σ H Q I h
 obtain ⟨v, e, h⟩ := h
 obtain ⟨m, hn, hl⟩ := I.loc
 obtain ⟨u, r, l⟩ := hl i x v hN e hv
 have fin : EP X pins σ Q u s := ⟨v, H, I, r, h⟩
 rcases l with ⟨hk, hm⟩ | ⟨hk, c, hc, hcell⟩
 · exact wpAny_Name (wpAny_loadName_local I.ok.kind hk hn hm fin) hd
 ·
  rcases hk with hk | hk
  · exact wpAny_Name (wpAny_loadName_cell I.ok.kind hk hc hcell fin) hd
  · exact wpAny_Name (wpAny_loadName_free I.ok.kind hk hc hcell fin hcd) hd
def Ab {i j pos} : PE X (.Constant (.int i) j pos) (tC (.int i)) := λ _ _ _ H _ I h => wpAny_Constant_int ⟨.int i, H, I.tok _, ⟨_, rfl⟩, h⟩
def Sv {b j pos} : PE X (.Constant (.bool b) j pos) (tC (.bl b)) := λ _ _ _ H _ I h => Constant_bool ⟨.bl b, H, I, rfl, h⟩
def Gq {j pos} : PE X (.Constant .none j pos) (tC .non) := λ _ _ _ H _ I h => Constant_none ⟨.non, H, I, rfl, h⟩
def Bh {x j pos} : PE X (.Constant (.str x) j pos) (tC (.str x)) := λ _ _ _ H _ I h => Calls.Constant_str ⟨.str x, H, I.tok _, ⟨_, rfl⟩, h⟩
def Gl (X : Cx) (x : Str) : Prop := X.env.kindOf x = some .globalImplicit
def de (I : Inv X pins σ H s) (hg : Gl X x) (hm : X.mg x = some u) (h : Q u s)
  (hd : (x == ("__debug__" : Str)) = false := by decide) : wpAny (model X.prog X.w) X.A (eval (.Name x pos) X.env) Q E s :=
 Calls.Name_function_global I.ok.kind hg (Calls.loadGlobal_global (by rw [I.ok.glob]; exact I.mod.glob.keeps I.bk) hm h) hd
def di (I : Inv X pins σ H s) (hg : Gl X x) (hm : X.mg x = none) (hv : bootBuiltins x = some u) (h : Q u s)
  (hn : x ≠ "__name__" := by decide) (hd : (x == ("__debug__" : Str)) = false := by decide) : wpAny (model X.prog X.w) X.A (eval (.Name x pos) X.env) Q E s := by
 obtain ⟨mb, h1, h2⟩ := I.mod.blt
 exact Calls.Name_function_global I.ok.kind hg (Calls.loadGlobal_builtin (by rw [I.ok.glob]; exact I.mod.glob.keeps I.bk) hm (by rw [I.ok.blt]; exact h1.keeps I.bk) ((h2 x hn).trans hv) h) hd
def zx (hg : Gl X x) (hm : X.mg x = some u) (r : RelV v u) (hd : (x == ("__debug__" : Str)) = false := by decide) : PE X (.Name x pos) (tC v) :=
 λ _ _ _ H _ I h => de I hg hm ⟨v, H, I, r, h⟩ hd
def Th (hg : Gl X x) (hm : X.mg x = none) (hv : bootBuiltins x = some u) (r : RelV v u) (hn : x ≠ "__name__" := by decide) (hd : (x == ("__debug__" : Str)) = false := by decide) : PE X (.Name x pos) (tC v) :=
 λ _ _ _ H _ I h => di I hg hm hv ⟨v, H, I, r, h⟩ hn hd
def PC (X : Cx) (op : CmpOp) (a b : Expr) (t : TE) : Prop :=
 ∀ (pins : List (Addr × Obj)) (s : Shared) (σ : St) (H : Hp) (Q : VK), Inv X pins σ H s -> t σ H Q ->
  wpAny (model X.prog X.w) X.A (eval a X.env) (λ v s₁ => wpAny (model X.prog X.w) X.A (eval b X.env) (λ u s₂ => wpAny (model X.prog X.w) X.A (compareOp op v u) (EP X pins σ Q) X.xe s₂) X.xe s₁) X.xe s
def xj (b : Expr) (h : op ≠ .In) (h2 : op ≠ .NotIn) : behindInMarks op b = false := by
 have e1 : (op == CmpOp.In) = false := by cases op <;> first | rfl | exact absurd rfl h
 have e2 : (op == CmpOp.NotIn) = false := by cases op <;> first | rfl | exact absurd rfl h2
 cases b <;> simp [behindInMarks, e1, e2]
def tB (t : TE) : TT := λ σ H Q => t σ H λ x H1 => ∃ c, x = .bl c /\ Q c H1
def Ahz (h : PC X op a b t) (h1 : behindInMarks op b = false := by first | exact xj _ dkd dkd | rfl) : PE X (.Compare a [op] [b] pos) t := λ pins s σ H Q I hw => wpAny_Compare1 (h pins s σ H Q I hw) h1
def Ahc (h : PC X op a b t) (h1 : behindInMarks op b = false := by first | exact xj _ dkd dkd | rfl) : PT X (.Compare a [op] [b] pos) (tB t) := by
 intro pins s σ H Q I hw
 refine wpAny_isTrue_Compare1 (thn (h pins s σ H _ I hw) λ v s1 h1 => thn h1 λ u s2 h2 => thn h2 λ c s3 ⟨x, H1, I1, r1, q1⟩ => ?_) h1
 obtain ⟨d, rfl, q⟩ := q1
 cases r1
 exact Aov ⟨H1, I1, q⟩
def Aij (h : PE X e t) (he : ∀ whole, isTrue e X.env whole = (do let v ← whole; standAt e.pos; holding [v] (truthy v)) := by intro _; rfl) : PT X e (tB t) := by
 intro pins s σ H Q I hw
 refine isTrue_plain (thn (h pins s σ H _ I hw) λ v s1 ⟨x, H1, I1, r1, q1⟩ => ?_) (he _)
 obtain ⟨d, rfl, q⟩ := q1
 cases r1
 exact Aov ⟨H1, I1, q⟩
def Amd (t u : TT) : TT := λ σ H Q => t σ H λ c H1 => if c = true then u σ H1 Q else Q false H1
def tOr (t u : TT) : TT := λ σ H Q => t σ H λ c H1 => if c = true then Q true H1 else u σ H1 Q
def Amn (t : TT) : TT := λ σ H Q => t σ H λ c H1 => Q (!c) H1
theorem Hx (ha : PT X a tA) : PW X (.BoolOp .And [a] pos) tA := by
 intro wh pins s σ H Q I h
 refine isTrue_and (thn (ha pins s σ H Q I h) λ c s1 e => ?_)
 cases c with
 | true => exact isTrue_and_nil e
 | false => exact e
theorem Zk (ha : PT X a tA) : PW X (.BoolOp .Or [a] pos) tA := by
 intro wh pins s σ H Q I h
 refine isTrue_or (thn (ha pins s σ H Q I h) λ c s1 e => ?_)
 cases c with
 | false => exact isTrue_or_nil e
 | true => exact e
theorem Ag6 {a : Expr} {pos : Pos} {tA tB' : TT} {rest : List Expr} (ha : PT X a tA) (hb : PW X (.BoolOp .And (b :: rest) pos) tB') : PW X (.BoolOp .And (a :: b :: rest) pos) (Amd tA tB') := by
 intro wh pins s σ H Q I h
 refine isTrue_and (thn (ha pins s σ H _ I h) λ c s1 ⟨H1, I1, q1⟩ => ?_)
 cases c with
 | true => exact hb wh pins s1 σ H1 Q I1 q1
 | false => exact ⟨H1, I1, q1⟩
theorem Akh {a : Expr} {pos : Pos} {tA tB' : TT} {rest : List Expr} (ha : PT X a tA) (hb : PW X (.BoolOp .Or (b :: rest) pos) tB') : PW X (.BoolOp .Or (a :: b :: rest) pos) (tOr tA tB') := by
 intro wh pins s σ H Q I h
 refine isTrue_or (thn (ha pins s σ H _ I h) λ c s1 ⟨H1, I1, q1⟩ => ?_)
 cases c with
 | true => exact ⟨H1, I1, q1⟩
 | false => exact hb wh pins s1 σ H1 Q I1 q1
def Uz (ha : PT X a tA) : PT X (.UnaryOp .Not a pos) (Amn tA) := by
 intro pins s σ H Q I h
 exact isTrue_not (ha pins s σ H (λ c H1 => Q (!c) H1) I h)
def Akk (ta tb : TE) : TE := λ σ H Q => ta σ H λ x H1 => ∃ c, x = .bl c /\ if c = true then tb σ H1 Q else Q (.bl false) H1
def Amp (ta tb : TE) : TE := λ σ H Q => ta σ H λ x H1 => ∃ c, x = .bl c /\ if c = true then Q (.bl true) H1 else tb σ H1 Q
def Ako (ta : TE) : TE := λ σ H Q => ta σ H λ x H1 => ∃ c, x = .bl c /\ Q (.bl (!c)) H1
def Dk {op} (h : PE X a t) : PE X (.BoolOp op [a] pos) t := λ pins s σ H Q I hw => BoolOp_one (h pins s σ H Q I hw)
theorem Ahh {a : Expr} {ta tb : TE} {pos : Pos} {rest : List Expr} (ha : PE X a ta) (hb : PE X (.BoolOp .And (b :: rest) pos) tb) : PE X (.BoolOp .And (a :: b :: rest) pos) (Akk ta tb) := by
 intro pins s σ H Q I h
 refine BoolOp_and (thn (ha pins s σ H _ I h) λ v s1 ⟨x, H1, I1, r1, q1⟩ => ?_)
 obtain ⟨c, rfl, q1⟩ := q1
 cases r1
 refine Aov ?_
 cases c with
 | true => exact hb pins s1 σ H1 Q I1 q1
 | false => exact ⟨.bl false, H1, I1, rfl, q1⟩
theorem Akp {a : Expr} {ta tb : TE} {pos : Pos} {rest : List Expr} (ha : PE X a ta) (hb : PE X (.BoolOp .Or (b :: rest) pos) tb) : PE X (.BoolOp .Or (a :: b :: rest) pos) (Amp ta tb) := by
 intro pins s σ H Q I h
 refine BoolOp_or (thn (ha pins s σ H _ I h) λ v s1 ⟨x, H1, I1, r1, q1⟩ => ?_)
 obtain ⟨c, rfl, q1⟩ := q1
 cases r1
 refine Aov ?_
 cases c with
 | false => exact hb pins s1 σ H1 Q I1 q1
 | true => exact ⟨.bl true, H1, I1, rfl, q1⟩
def Aii (ha : PE X a ta) : PE X (.UnaryOp .Not a pos) (Ako ta) := by
 intro pins s σ H Q I h
 refine UnaryOp_ (thn (ha pins s σ H _ I h) λ v s1 ⟨x, H1, I1, r1, q1⟩ => ?_)
 obtain ⟨c, rfl, q1⟩ := q1
 cases r1
 exact not_of (Aov ⟨.bl (!c), H1, I1, rfl, q1⟩)
def tIf (t : TT) (ta tb : TE) : TE := λ σ H Q => t σ H λ c H1 => if c = true then ta σ H1 Q else tb σ H1 Q
theorem Adb (hc : PT X c tA) (ha : PE X a ta) (hb : PE X b tb) : PE X (.IfExp c a b pos) (tIf tA ta tb) := by
 intro pins s σ H Q I h
 refine wpAny_IfExp (thn (hc pins s σ H _ I h) λ d s1 ⟨H1, I1, q1⟩ => ?_)
 cases d with
 | true => exact ha pins s1 σ H1 Q I1 q1
 | false => exact hb pins s1 σ H1 Q I1 q1
def SqL (K : W.Frag) (H : Hp) (a : Addr) (xs : List V) : Prop :=
 Rd H a (.lst xs) ∨
  ∃ (o : Obj) (its : Array Value) (n : Nat), K.lookup a = some o /\ o.cls = .type "list" /\ o.dict = none /\ o.data = .seq its n /\ its.size <= sizeLine /\ Vals xs its.toList
def SqT (K : W.Frag) (H : Hp) (a : Addr) (xs : List V) : Prop :=
 Rd H a (.tup xs) ∨
  ∃ (o : Obj) (its : Array Value) (n : Nat), K.lookup a = some o /\ o.cls = .type "tuple" /\ o.data = .seq its n /\ its.size <= sizeLine /\ Vals xs its.toList
def Am2 : Value -> Option V
 | .none => some .non
 | .bool b => some (.bl b)
 | .int i _ => some (.int i)
 | .str x _ => some (.str x)
 | .bytes b _ => some (.byt b)
 | .float b _ => some (.flt b)
 | .ref a => some (.ref a)
 | .type n => some (.ty n)
 | _ => none
theorem RelV.abs (r : RelV x u) : Am2 u = some x := by
 cases x with
 | non => cases r; rfl
 | bl _ => cases r; rfl
 | int _ => obtain ⟨t, rfl⟩ := r; rfl
 | str _ => obtain ⟨t, rfl⟩ := r; rfl
 | byt _ => obtain ⟨t, rfl⟩ := r; rfl
 | flt _ => obtain ⟨t, rfl⟩ := r; rfl
 | ref _ => cases r; rfl
 | ty _ => cases r; rfl
def RelV.inj (r : RelV x u) (q : RelV y u) : x = y := An7 (r.abs.symm.trans q.abs)
theorem Vals.inj : ∀ {xs ys : List V} {us : List Value}, Vals xs us -> Vals ys us -> xs = ys
 | _, _, _, .nil, .nil => rfl
 | _, _, _, .cons r t, .cons r' t' => by rw [r.inj r', Vals.inj t t']
variable {σ : St}
def SqL.of {a : Addr} {xs : List V} {K : W.Frag} (h : H a = some (.lst xs)) : SqL K H a xs := .inl (.inl h)
abbrev _root_.Asf := @SqL.of
def SqT.of {a : Addr} {xs : List V} {K : W.Frag} (h : H a = some (.tup xs)) : SqT K H a xs := .inl (.inl h)
abbrev _root_.Asd := @SqT.of
def Inv.list (I : Inv X pins σ H s) (h : SqL X.K H a xs) : ∃ its : List Value, Vals xs its /\ PlainL s.heap a its.toArray /\ xs.length <= sizeLine := by
 rcases h with h | ⟨o, its, n, hk, hc, hd, hs, hz, r⟩
 ·
  obtain ⟨z, its, n, r, e⟩ := h.ok I.hok
  exact ⟨its, r, ⟨_, n, e, rfl, rfl, rfl⟩, z⟩
 ·
  refine ⟨its.toList, r, ⟨o, n, I.kIn a o hk, hc, hd, by simpa using hs⟩, ?_⟩
  have e := r.length
  simp only [An4] at e
  omega
def Inv.tuple (I : Inv X pins σ H s) (h : SqT X.K H a xs) : ∃ its : List Value, Vals xs its /\ IsTup s.heap a its.toArray /\ xs.length <= sizeLine := by
 rcases h with h | ⟨o, its, n, hk, hc, hs, hz, r⟩
 ·
  obtain ⟨z, its, r, p⟩ := h.ok I.hok
  exact ⟨its, r, p, z⟩
 ·
  refine ⟨its.toList, r, ⟨o, I.kIn a o hk, hc, n, by simpa using hs⟩, ?_⟩
  have e := r.length
  simp only [An4] at e
  omega
def Inv.list_inj (I : Inv X pins σ H s) (h : SqL X.K H a xs) (h' : SqL X.K H a ys) : xs = ys := by
 obtain ⟨its, r, ⟨o, n, e, _, _, d⟩, _⟩ := I.list h
 obtain ⟨its', r', ⟨o', n', e', _, _, d'⟩, _⟩ := I.list h'
 rw [e] at e'; cases e'
 rw [d] at d'
 injection d' with d1 _
 have : its = its' := by simpa using Apw Array.toList d1
 subst this
 exact r.inj r'
def Inv.tuple_inj (I : Inv X pins σ H s) (h : SqT X.K H a xs) (h' : SqT X.K H a ys) : xs = ys := by
 obtain ⟨its, r, ⟨o, e, _, n, d⟩, _⟩ := I.tuple h
 obtain ⟨its', r', ⟨o', e', _, n', d'⟩, _⟩ := I.tuple h'
 rw [e] at e'; cases e'
 rw [d] at d'
 injection d' with d1 _
 have : its = its' := by simpa using Apw Array.toList d1
 subst this
 exact r.inj r'
abbrev Cx.wish (X : Cx) (E : Value -> Shared -> Prop) : Cx := { X with xe := E }
abbrev Cx.nox (X : Cx) : Cx := X.wish λ _ _ => False
theorem Cx.Ok.wish (ok : X.Ok) (E : Value -> Shared -> Prop) : (X.wish E).Ok :=
 ⟨ok.mod, ok.kind, ok.glob, ok.blt, ok.above, ok.inj, ok.has, ok.cab, ok.hd, ok.frames, ok.stk, ok.exf, ok.bs, ok.bsz, ok.noex, ok.exfs, ok.funs, ok.frf⟩
def Cx.Ok.unwish (ok : (X.wish E).Ok) : X.Ok :=
 ⟨ok.mod, ok.kind, ok.glob, ok.blt, ok.above, ok.inj, ok.has, ok.cab, ok.hd, ok.frames, ok.stk, ok.exf, ok.bs, ok.bsz, ok.noex, ok.exfs, ok.funs, ok.frf⟩
variable {E : Value -> Shared -> Prop}
theorem Inv.wish (I : Inv X pins σ H s) (E : Value -> Shared -> Prop) : Inv (X.wish E) pins σ H s := ⟨I.ok.wish E, I.os, I.bare, I.base, I.loc, I.cell, I.free, I.freeC, I.pin, I.hok, I.len⟩
theorem Inv.unwish (I : Inv (X.wish E) pins σ H s) : Inv X pins σ H s := ⟨I.ok.unwish, I.os, I.bare, I.base, I.loc, I.cell, I.free, I.freeC, I.pin, I.hok, I.len⟩
theorem SP.unwish (h : SP (X.wish E) pins D f s') : SP X pins D f s' := by
 cases f with
 | next => obtain ⟨σ', H', I, q⟩ := h; exact ⟨σ', H', I.unwish, q⟩
 | brk => obtain ⟨σ', H', I, q⟩ := h; exact ⟨σ', H', I.unwish, q⟩
 | cont => obtain ⟨σ', H', I, q⟩ := h; exact ⟨σ', H', I.unwish, q⟩
 | ret u => obtain ⟨v, σ', H', I, r, q⟩ := h; exact ⟨v, σ', H', I.unwish, r, q⟩
theorem PSs.nox {st : List Stmt} {t : TS} (h : PSs X.nox st t) : PSs X st t := λ pins s σ H D I hw =>
 Ao3 (h pins s σ H D (I.wish _) hw) (λ _ _ q => q.unwish) λ _ _ z => False.elim z
def Aj5 : TS := λ D σ H => D.nx σ H
def Amw (t u : TS) : TS := λ D σ H => t { D with nx := u D } σ H
def Ao : PSs X [] Aj5 := λ _ _ σ H _ I h => Arx ⟨σ, H, I, h⟩
theorem Ac {st : Stmt} {rest : List Stmt} {t u : TS} (h1 : PS X st t) (h2 : PSs X rest u) : PSs X (st :: rest) (Amw t u) := by
 intro pins s σ H D I h
 refine wpAny_execs_cons (thn (h1 pins s σ H { D with nx := u D } I h) λ f s1 q => ?_)
 cases f with
 |
  next =>
  obtain ⟨σ', H', I', q⟩ := q
  exact h2 pins s1 σ' H' D I' q
 | ret v => exact q
 | brk => exact q
 | cont => exact q
theorem Af {st : Stmt} {t : TS} (h1 : PS X st t) : PSs X [st] t := by
 intro pins s σ H D I h
 refine wpAny_execs_cons (thn (h1 pins s σ H D I h) λ f s1 q => ?_)
 cases f with
 | next => exact Arx q
 | ret v => exact q
 | brk => exact q
 | cont => exact q
def Inv.quiet (I : Inv X pins σ H s) : interactive X.env = false := by simp [interactive, I.ok.kind]
def Aku (te : TE) : TS := λ D σ H => te σ H λ _ H1 => D.nx σ H1
def Dd (he : PE X e te) (hs : swapsWith e none pos.line X.env = pure false := by rfl) : PS X (.Expr e pos) (Aku te) := by
 intro pins s σ H D I h
 exact wpAny_Expr_any (thn (he pins s σ H _ I h) λ v s1 ⟨x, H1, I1, r1, q1⟩ => ⟨σ, H1, I1, q1⟩) I.quiet hs
def Amm (te : TE) : TS := λ D σ H => te σ H (D.rt σ)
def Aj (he : PE X e te) : PS X (.Return (some e) pos) (Amm te) := by
 intro pins s σ H D I h
 exact wpAny_Return_some (thn (he pins s σ H _ I h) λ v s1 ⟨x, H1, I1, r1, q1⟩ => ⟨x, σ, H1, I1, r1, q1⟩)
def Alz (c : TT) (t u : TS) : TS := λ D σ H => c σ H λ b H1 => if b = true then t D σ H1 else u D σ H1
theorem Ak3 (hc : PT X c tc) (ha : PSs X a t) (hb : PSs X b u) : PS X (.If c a b pos) (Alz tc t u) := by
 intro pins s σ H D I h
 refine wpAny_If (thn (hc pins s σ H _ I h) λ d s1 ⟨H1, I1, q1⟩ => ?_)
 cases d with
 | true => exact ha pins s1 σ H1 D I1 q1
 | false => exact hb pins s1 σ H1 D I1 q1
def Ai7 : TS := λ _ _ _ => False
def Jc {st : Stmt} : PS X st Ai7 := λ _ _ _ _ _ _ h => h.elim
abbrev TG := V -> St -> Hp -> (St -> Hp -> Prop) -> Prop
abbrev TGs := List V -> St -> Hp -> (St -> Hp -> Prop) -> Prop
def PG (X : Cx) (target : Expr) (t : TG) : Prop :=
 ∀ (pins : List (Addr × Obj)) (s : Shared) (σ : St) (H : Hp) (v : V) (u : Value) (Q : St -> Hp -> Prop), Inv X pins σ H s -> RelV v u -> t v σ H Q ->
  wpAny (model X.prog X.w) X.A (assign target X.env u) (λ _ s' => ∃ σ' H', Inv X pins σ' H' s' /\ Q σ' H') X.xe s
def PGs (X : Cx) (ts : List Expr) (t : TGs) : Prop :=
 ∀ (pins : List (Addr × Obj)) (s : Shared) (σ : St) (H : Hp) (vs : List V) (us : List Value) (Q : St -> Hp -> Prop), Inv X pins σ H s -> Vals vs us -> t vs σ H Q ->
  wpAny (model X.prog X.w) X.A (assignInOrder ((assignEach ts X.env).map (·.2)) us) (λ _ s' => ∃ σ' H', Inv X pins σ' H' s' /\ Q σ' H') X.xe s
abbrev TIp := V -> V -> Hp -> VK -> Prop
def PIp (X : Cx) (op : Operator) (t : TIp) : Prop :=
 ∀ (pins : List (Addr × Obj)) (s : Shared) (σ : St) (H : Hp) (x y : V) (v u : Value) (Q : VK), Inv X pins σ H s -> RelV x v -> RelV y u -> t x y H Q ->
  wpAny (model X.prog X.w) X.A (inplaceOp op v u) (EP X pins σ Q) X.xe s
def df (i : Nat) : TG := λ v σ H Q => Q (σ.set i (some v)) H
def Hi (hN : X.N.Nodup) (hi : X.N[i]? = some x) (hx : Loc X.env.scope x) (hf : X.fn x = true ∨ X.env.scope.names.lookup x = some .local := by first | exact .inl rfl | exact .inr rfl | assumption) : PG X (.Name x pos) (df i) := by
 intro pins s σ H v u Q I r h
 exact wpAny_assign_Name (ma I hN hi hx r (λ s' I' => ⟨_, H, I', h⟩) hf)
def Alb : TGs := λ vs σ H Q => vs = [] /\ Q σ H
def Ae4 (t : TG) (u : TGs) : TGs := λ vs σ H Q => ∃ v r, vs = v :: r /\ t v σ H λ σ' H' => u r σ' H' Q
def fk : PGs X [] Alb := by
 intro pins s σ H vs us Q I r h
 obtain ⟨e, h⟩ := h
 subst e
 cases r
 exact assignInOrder_nil ⟨σ, H, I, h⟩
theorem F9 (h1 : PG X e t) (h2 : PGs X es u)
  (hs : (assignEach (e :: es) X.env).map (·.2) = assign e X.env :: (assignEach es X.env).map (·.2) := by rfl) : PGs X (e :: es) (Ae4 t u) := by
 intro pins s σ H vs us Q I r h
 obtain ⟨v, vr, e1, h⟩ := h
 subst e1
 cases r with
 |
  cons r rr =>
  rw [hs]
  refine assignInOrder_cons (thn (h1 pins s σ H _ _ _ I r h) λ _ s1 ⟨σ1, H1, I1, q1⟩ => ?_)
  exact h2 pins s1 σ1 H1 _ _ Q I1 rr q1
def Aj0 (K : W.Frag) (n : Nat) (t : TGs) : TG := λ v σ H Q => ∃ a xs, v = .ref a /\ SqT K H a xs /\ xs.length = n /\ t xs σ H Q
def wj (hc : X.calm = true) (h : PGs X es t)
  (hn : (assignEach es X.env).length = n := by rfl) (hst : (assignEach es X.env).findIdx? (·.1) = none := by rfl) : PG X (.Tuple es k pos) (Aj0 X.K n t) := by
 intro pins s σ H v u Q I r hw
 obtain ⟨a, xs, e1, hq, hl, hw⟩ := hw
 subst e1
 cases r
 obtain ⟨its, rv, ht, hz⟩ := I.tuple hq
 refine assign_Tuple_tuple (I.ok.hd hc) ht (by simp [hn, ← hl, rv.length]) hst λ h' hx => ?_
 have I1 : Inv X pins σ H { s with heap := h' } := I.kept (t' := s.toks) λ b o e => hx b o (Anm (Ana e)) e
 exact h pins _ σ H xs _ Q I1 (by simpa using rv) hw
def Ajl (te : TE) (g : TG) : TS := λ D σ H => te σ H λ x H1 => g x σ H1 D.nx
def Aay (he : PE X e te) (hg : PG X tg g) (hs : swapsWithSole [tg] e pos.line X.env = pure false := by rfl) (hw : swappedStores [tg] e X.env = pure none := by rfl)
  (h1 : (assignEach [tg] X.env).map (·.2) = [assign tg X.env] := by rfl) : PS X (.Assign [tg] e pos) (Ajl te g) := by
 intro pins s σ H D I h
 refine wpAny_Assign_stores (thn (he pins s σ H _ I h) λ v s1 ⟨x, H1, I1, r1, q1⟩ => ?_) hs hw
 rw [h1]
 exact thn (hg pins s1 σ H1 x v _ I1 r1 q1) λ _ s2 q => q
def Ai3 (hN : X.N.Nodup) (hi : X.N[i]? = some x) (hx : Loc X.env.scope x) (he : PE X e te) (hs : swapsWith e (some (.Name x pos')) pos.line X.env = pure false := by rfl) (hf : X.fn x = true ∨ X.env.scope.names.lookup x = some .local := by first | exact .inl rfl | exact .inr rfl | assumption) :
  PS X (.Assign [.Name x pos'] e pos) (Ajl te (df i)) := by
 intro pins s σ H D I h
 refine wpAny_Assign_Name (thn (he pins s σ H _ I h) λ v s1 ⟨y, H1, I1, r1, q1⟩ => ?_) hs
 exact ma I1 hN hi hx r1 (λ s2 I2 => ⟨_, H1, I2, q1⟩) hf
def Alu (i : Nat) (te : TE) (ti : TIp) : TS := λ D σ H => ∃ x, σ[i]? = some (some x) /\ te σ H λ y H1 => ti x y H1 λ z H2 => D.nx (σ.set i (some z)) H2
def wg (hN : X.N.Nodup) (hi : X.N[i]? = some x) (hx : Loc X.env.scope x) (he : PE X e te) (ho : PIp X op ti) (hf : X.fn x = true ∨ X.env.scope.names.lookup x = some .local := by first | exact .inl rfl | exact .inr rfl | assumption) :
  PS X (.AugAssign (.Name x pos') op e pos) (Alu i te ti) := by
 intro pins s σ H D I h
 obtain ⟨v, e1, h⟩ := h
 obtain ⟨m, hn, hl⟩ := I.loc
 have vis : Vis X.env.scope x := by rcases hx with k | k; exact .inl k; exact .inr (.inl k)
 obtain ⟨u, r, l⟩ := hl i x v hi e1 vis
 refine wpAny_AugAssign_Name ?_
 have go : wpAny (model X.prog X.w) X.A (eval e X.env) (λ w s₂ => wpAny (model X.prog X.w) X.A (inplaceOp op u w) (λ r s₃ => wpAny (model X.prog X.w) X.A (storeName X.env x r) (λ _ => SP X pins D .next) X.xe s₃) X.xe s₂) X.xe s := by
  refine thn (he pins s σ H _ I h) λ w s1 ⟨y, H1, I1, r1, q1⟩ => ?_
  refine thn (ho pins s1 σ H1 v y u w _ I1 r r1 q1) λ z s2 ⟨zv, H2, I2, r2, q2⟩ => ?_
  exact ma I2 hN hi hx r2 (λ s3 I3 => ⟨_, H2, I3, q2⟩) hf
 rcases l with ⟨hk, hm⟩ | ⟨hk, c, hc, hcell⟩
 · exact wpAny_loadName_local I.ok.kind hk hn hm go
 ·
  rcases hk with hk | hk
  · exact wpAny_loadName_cell I.ok.kind hk hc hcell go
  ·
   rcases hx with k | k
   ·
    have : X.env.scope.names.lookup x = some .free := hk
    rw [k] at this; cases this
   ·
    have : X.env.scope.names.lookup x = some .free := hk
    rw [k] at this; cases this
def ipI (f : Int -> Int -> Int) : TIp := λ x y H Q => ∃ i j, x = .int i /\ y = .int j /\ Q (.int (f i j)) H
def wt : PIp X .Add (ipI λ i j => i + j) := by
 intro pins s σ H x y v u Q I r1 r2 h
 obtain ⟨i, j, e1, e2, q⟩ := h
 subst e1; subst e2
 obtain ⟨t, rfl⟩ := r1
 obtain ⟨t', rfl⟩ := r2
 exact iadd_int ⟨.int _, H, I.tok _, ⟨_, rfl⟩, q⟩
def Ag4 (c : TT) (tb : TS) : TS := λ D σ H => ∃ W : Nat -> St -> Hp -> Prop, (∃ m, W m σ H) /\ ∀ m σ H, W m σ H ->
 c σ H λ b H1 => if b = true then ∃ N : St -> Hp -> Prop, (∀ σ' H', N σ' H' -> ∃ m', m' < m /\ W m' σ' H') /\ tb { D with nx := N, ct := N, bk := D.nx } σ H1 else D.nx σ H1
theorem Adm (hp : PassesOwn (model X.prog X.w) X.A X.env X.xe) (hc : PT X c tc) (hb : PSs X body tb) : PS X (.While c body [] pos) (Ag4 tc tb) := by
 intro pins s σ H D I h
 obtain ⟨W, ⟨m0, w0⟩, turn⟩ := h
 refine wpAny_While (codeAny_whileLoop (λ n s' => ∃ σ' H', Inv X pins σ' H' s' /\ W n σ' H') ?_ m0 ⟨σ, H, I, w0⟩)
 rintro n s1 ⟨σ1, H1, I1, w1⟩
 refine Apy hp (thn (hc pins s1 σ1 H1 _ I1 (turn n σ1 H1 w1)) λ b s2 ⟨H2, I2, q2⟩ => ?_)
 cases b with
 |
  true =>
  obtain ⟨N, hN, q2⟩ := q2
  rw [if_pos rfl]
  refine Apy hp (thn (hb pins s2 σ1 H2 _ I2 q2) λ f s3 q3 => ?_)
  cases f with
  |
   next =>
   obtain ⟨σ3, H3, I3, n3⟩ := q3
   obtain ⟨m', hm, w3⟩ := hN σ3 H3 n3
   exact ⟨m', hm, σ3, H3, I3, w3⟩
  |
   cont =>
   obtain ⟨σ3, H3, I3, n3⟩ := q3
   obtain ⟨m', hm, w3⟩ := hN σ3 H3 n3
   exact ⟨m', hm, σ3, H3, I3, w3⟩
  | brk => exact q3
  | ret v => exact q3
 |
  false =>
  rw [if_neg Anr]
  exact Arx ⟨σ1, H2, I2, q2⟩
structure It where
 go : Nat -> Hp -> Prop
 yld : Nat -> Hp -> V -> Hp -> Prop
 stop : Nat -> Hp -> Prop
def zk (X : Cx) (pins : List (Addr × Obj)) (H : Hp) (b : Addr) : Prop :=
 H b = none /\ b ≠ X.env.locals /\ b ∉ X.fs /\ (b ∈ X.ex ∨ X.s₀.heap.objs.size <= b) /\ (∀ x c, X.env.cells.lookup x = some c -> c ≠ b) /\ ∀ p ∈ X.pn ++ pins, p.1 ≠ b
def Inv.fpOk (I : Inv X pins σ H s) (hb : s.heap.objs.size <= b) (hn : H' b = none) : zk X pins H' b := by
 refine ⟨hn, Aos (Anv I.lt hb), I.nofs hb, .inr (Anb I.sz hb), λ x c e z => ?_, λ p hp z => ?_⟩
 ·
  obtain ⟨v, q⟩ := I.cell x c e
  exact absurd (Anv q.lt (by rw [z]; exact hb)) (Aor _)
 · exact absurd (Anv (Ana (I.pin p hp).1) (by rw [z]; exact hb)) (Aor _)
structure Turn (P : Program) (w : World) (K : W.Frag) (tg : Expr) (J : It) (fp : List Addr) (it : Addr) (tn : Nat -> Heap -> Prop) : Prop where
 mem : it ∈ fp
 obj : ∀ i h, tn i h -> ∀ b ∈ fp, ∃ o, h.get? b = some o /\ ∀ v, o.data ≠ .cell v
 keep : ∀ i h h', tn i h -> (∀ b ∈ fp, ∀ o, h.get? b = some o -> h'.get? b = some o) -> tn i h'
 item : ∀ (X : Cx), X.prog = P -> X.w = w -> X.K = K -> X.calm = true -> ∀ (i : Nat) (pins : List (Addr × Obj)) (s : Shared) (σ : St) (H : Hp) (E : Value -> Shared -> Prop), Inv X pins σ H s -> (∀ b ∈ fp, zk X pins H b) -> tn i s.heap -> J.go i H ->
  wpAny (model P w) X.A (pyNext (.ref it)) (λ r s1 => ∃ u, r = some u /\
   wpAny (model P w) X.A (letOwnedTupleGo tg (.ref it) u) (λ _ s2 => ∃ x H', Inv X pins σ H' s2 /\ RelV x u /\ J.yld i H x H' /\ tn (i + 1) s2.heap /\ ∀ b ∈ fp, H' b = none) E s1) E s
 done : ∀ (X : Cx), X.prog = P -> X.w = w -> X.K = K -> X.calm = true -> ∀ (i : Nat) (pins : List (Addr × Obj)) (s : Shared) (σ : St) (H : Hp) (E : Value -> Shared -> Prop), Inv X pins σ H s -> (∀ b ∈ fp, zk X pins H b) -> tn i s.heap -> J.stop i H ->
  wpAny (model P w) X.A (pyNext (.ref it)) (λ r s1 => r = none /\ Inv X pins σ H s1) E s
 self : ∀ (A : Around) (i : Nat) (s : Shared) (Q : Value -> Shared -> Prop) (E : Value -> Shared -> Prop), tn i s.heap -> Q (.ref it) s -> wpAny (model P w) A (pyIter (.ref it)) Q E s
abbrev TI := St -> Hp -> (It -> Hp -> Prop) -> Prop
def PIE (X : Cx) (pins : List (Addr × Obj)) (σ : St) (tg : Expr) (R : It -> Hp -> Prop) (itv : Value) (s2 : Shared) : Prop :=
 ∃ (it : Addr) (fp : List Addr) (tn : Nat -> Heap -> Prop) (J : It) (H' : Hp), itv = .ref it /\ Inv X pins σ H' s2 /\ Turn X.prog X.w X.K tg J fp it tn /\ tn 0 s2.heap /\ (∀ b ∈ fp, zk X pins H' b) /\ R J H'
def PI (X : Cx) (tg iter : Expr) (wi : TI) : Prop :=
 ∀ (pins : List (Addr × Obj)) (s : Shared) (σ : St) (H : Hp) (R : It -> Hp -> Prop), Inv X pins σ H s -> wi σ H R ->
  wpAny (model X.prog X.w) X.A (eval iter X.env) (λ v s1 => wpAny (model X.prog X.w) X.A (pyIter v) (PIE X pins σ tg R) X.xe s1) X.xe s
def Afh (ho : s.heap.get? it = some o) (hc : o.cls = .type n) (hd : o.data = .fields vs)
  (hn : ["enumerate", "zip", "dict_itemiterator", "dict_reverseitemiterator", "odict_iterator", "itertools.zip_longest", "itertools.pairwise"].contains n = false) (hQ : Q () s) : wpAny M A (letOwnedTupleGo tg (.ref it) u) Q E s := by
 unfold letOwnedTupleGo
 cases tg <;> first
  | exact Am7 hQ
  | (cases u <;> first
   | exact Am7 hQ
   | (
    refine Am4 (Apv ho ?_)
    rw [hc, hd]
    show wpAny M A (if (["enumerate", "zip", "dict_itemiterator", "dict_reverseitemiterator", "odict_iterator", "itertools.zip_longest", "itertools.pairwise"].contains n && vs[0]? == some (rawInt _)) = true then _ else _) Q E s
    rw [if_neg (by intro h; rw [hn, Apq] at h; cases h)]
    exact Am7 hQ))
def Itl (K : W.Frag) (a : Addr) : It :=
 ⟨λ i H => ∃ xs x, SqL K H a xs /\ xs[i]? = some x, λ i H x H' => H' = H /\ ∀ xs, SqL K H a xs -> xs[i]? = some x, λ i H => ∃ xs, SqL K H a xs /\ xs.length <= i⟩
def Itt (K : W.Frag) (a : Addr) : It :=
 ⟨λ i H => ∃ xs x, SqT K H a xs /\ xs[i]? = some x, λ i H x H' => H' = H /\ ∀ xs, SqT K H a xs -> xs[i]? = some x, λ i H => ∃ xs, SqT K H a xs /\ xs.length <= i⟩
def Itr (lo : Int) (n : Nat) : It := ⟨λ i _ => i < n, λ i H x H' => H' = H /\ x = .int (lo + i), λ i _ => n <= i⟩
def Abu {P : Program} {w : World} {K : W.Frag} {tg : Expr} (a it : Addr) : Turn P w K tg (Itl K a) [it] it (λ i h => h.IsListIter it a i) where
 mem := by simp
 obj := λ i h st b hb => by
  have e : b = it := by simpa using hb
  subst e
  obtain ⟨o, e, c, d⟩ := st
  exact ⟨o, e, λ v z => by rw [d] at z; cases z⟩
 keep := λ i h h' st k => st.at λ o e => k it dks o e
 item := by
  intro X hP hw hK hc i pins s σ H E I hf st hg
  subst hP hw hK
  obtain ⟨xs, x, hq, hx⟩ := hg
  obtain ⟨its, rv, p, hz⟩ := I.list hq
  obtain ⟨u, hu, ru⟩ := rv.get hx
  obtain ⟨f0, f1, f2, f3, f4, f5⟩ := hf it dks
  refine wpAny_pyNext_list_item st p.isList (x := u) (by simpa using hu) λ h' st' sb => ?_
  have I1 : Inv X pins σ H { s with heap := h' } := I.turned (t' := s.toks) (λ b o hb e => (sb.2 b hb).trans e) f0 f1 f3 f4 f5
  obtain ⟨o, e, c, d⟩ := id st'
  exact ⟨u, rfl, Afh (s := { s with heap := h' }) e c d dkd ⟨x, H, I1, ru, ⟨rfl, λ ys hy => by rw [I.list_inj hy hq]; exact hx⟩, st', λ b hb => (hf b hb).1⟩⟩
 done := by
  intro X hP hw hK hc i pins s σ H E I hf st hg
  subst hP hw hK
  obtain ⟨xs, hq, hx⟩ := hg
  obtain ⟨its, rv, p, hz⟩ := I.list hq
  obtain ⟨f0, f1, f2, f3, f4, f5⟩ := hf it dks
  have hl := rv.length
  exact wpAny_pyNext_list_end (I.ok.hd hc) st p.isList (by simp; omega) λ h' eb => ⟨rfl, I.turned (t' := s.toks) (λ b o hb e => eb b o hb e) f0 f1 f3 f4 f5⟩
 self := λ _ _ _ _ _ st h => wpAny_pyIter_listiter st h
def x4 {P : Program} {w : World} {K : W.Frag} {tg : Expr} (a it : Addr) : Turn P w K tg (Itt K a) [it] it (λ i h => h.IsTupleIter it a i) where
 mem := by simp
 obj := λ i h st b hb => by
  have e : b = it := by simpa using hb
  subst e
  obtain ⟨o, e, c, d⟩ := st
  exact ⟨o, e, λ v z => by rw [d] at z; cases z⟩
 keep := λ i h h' st k => st.at λ o e => k it dks o e
 item := by
  intro X hP hw hK hc i pins s σ H E I hf st hg
  subst hP hw hK
  obtain ⟨xs, x, hq, hx⟩ := hg
  obtain ⟨its, rv, p, hz⟩ := I.tuple hq
  obtain ⟨u, hu, ru⟩ := rv.get hx
  obtain ⟨f0, f1, f2, f3, f4, f5⟩ := hf it dks
  refine wpAny_pyNext_tuple_item st (show s.heap.IsTuple a its.toArray from p) (x := u) (by simpa using hu) λ h' st' sb => ?_
  have I1 : Inv X pins σ H { s with heap := h' } := I.turned (t' := s.toks) (λ b o hb e => (sb.2 b hb).trans e) f0 f1 f3 f4 f5
  obtain ⟨o, e, c, d⟩ := id st'
  exact ⟨u, rfl, Afh (s := { s with heap := h' }) e c d dkd ⟨x, H, I1, ru, ⟨rfl, λ ys hy => by rw [I.tuple_inj hy hq]; exact hx⟩, st', λ b hb => (hf b hb).1⟩⟩
 done := by
  intro X hP hw hK hc i pins s σ H E I hf st hg
  subst hP hw hK
  obtain ⟨xs, hq, hx⟩ := hg
  obtain ⟨its, rv, p, hz⟩ := I.tuple hq
  obtain ⟨f0, f1, f2, f3, f4, f5⟩ := hf it dks
  have hl := rv.length
  exact wpAny_pyNext_tuple_end (I.ok.hd hc) st (show s.heap.IsTuple a its.toArray from p) (by simp; omega) λ h' eb => ⟨rfl, I.turned (t' := s.toks) (λ b o hb e => eb b o hb e) f0 f1 f3 f4 f5⟩
 self := λ _ _ _ _ _ st h => wpAny_pyIter_tupleiter st h
def x6 {P : Program} {w : World} {K : W.Frag} {tg : Expr} (it : Addr) (lo : Int) (n : Nat) : Turn P w K tg (Itr lo n) [it] it (λ i h => IsRangeIter h it (lo + (i : Nat) * 1) ((n : Int) - (i : Nat)) 1) where
 mem := by simp
 obj := λ i h st b hb => by
  have e : b = it := by simpa using hb
  subst e
  exact ⟨_, st, λ v z => by
   have z' : Data.fields _ = Data.cell v := z
   cases z'⟩
 keep := λ i h h' st k => k it dks _ st
 item := by
  intro X hP hw hK hc i pins s σ H E I hf st hg
  subst hP hw hK
  obtain ⟨f0, f1, f2, f3, f4, f5⟩ := hf it dks
  have W := Walks.range (prog := X.prog) (w := X.w) (I.ok.hd hc) it lo 1 n
  refine W.item i s _ _ hg st λ v h' tk hv st' kk => ?_
  obtain ⟨t, rfl⟩ := hv
  have I1 : Inv X pins σ H { s with heap := h', toks := tk } := I.turned (λ b o hb e => kk b o (by simpa using hb) e) f0 f1 f3 f4 f5
  refine ⟨_, rfl, Afh (s := { s with heap := h', toks := tk }) (n := "range_iterator") st' rfl rfl dkd ⟨.int (lo + i), H, I1, ⟨t, ?_⟩, ⟨rfl, rfl⟩, st', λ b hb => (hf b hb).1⟩⟩
  rw [Int.mul_one]
 done := by
  intro X hP hw hK hc i pins s σ H E I hf st hg
  subst hP hw hK
  obtain ⟨f0, f1, f2, f3, f4, f5⟩ := hf it dks
  exact wpAny_pyNext_range_end (I.ok.hd hc) st (by have : n <= i := hg; omega) λ h' eb => ⟨rfl, I.turned (t' := s.toks) (λ b o hb e => eb b o hb e) f0 f1 f3 f4 f5⟩
 self := λ _ _ _ _ _ st h => wpAny_pyIter_rangeiter st h
def Ahf (K : W.Frag) (tl : TE) : TI := λ σ H R => tl σ H λ x H1 => ∃ a, x = .ref a /\ (∃ xs, SqL K H1 a xs) /\ R (Itl K a) H1
def Ak9 (K : W.Frag) (tl : TE) : TI := λ σ H R => tl σ H λ x H1 => ∃ a, x = .ref a /\ (∃ xs, SqT K H1 a xs) /\ R (Itt K a) H1
def Af8 {tg : Expr} {l : Expr} {tl : TE} (hl : PE X l tl) : PI X tg l (Ahf X.K tl) := by
 intro pins s σ H R I h
 refine thn (hl pins s σ H _ I h) λ v s1 ⟨x, H1, I1, r1, q1⟩ => ?_
 obtain ⟨a, e, ⟨xs, hq⟩, q⟩ := q1
 subst e
 cases r1
 obtain ⟨its, rv, p, hz⟩ := I1.list hq
 refine wpAny_pyIter_list p.isList ?_
 refine ⟨s1.heap.objs.size, [s1.heap.objs.size], _, _, H1, rfl, I1.kept (t' := s1.toks) λ b o e => Am5 _ e, Abu a _, ⟨_, Anc _ rfl, rfl, rfl⟩, λ b hb => ?_, q⟩
 have e : b = s1.heap.objs.size := by simpa using hb
 subst e
 exact I1.fpOk (Anh _) (I1.hok.fresh (Anh _))
def Aio {tg : Expr} {l : Expr} {tl : TE} (hl : PE X l tl) : PI X tg l (Ak9 X.K tl) := by
 intro pins s σ H R I h
 refine thn (hl pins s σ H _ I h) λ v s1 ⟨x, H1, I1, r1, q1⟩ => ?_
 obtain ⟨a, e, ⟨xs, hq⟩, q⟩ := q1
 subst e
 cases r1
 obtain ⟨its, rv, p, hz⟩ := I1.tuple hq
 refine Aq9 (show s1.heap.IsTuple a its.toArray from p) ?_
 refine ⟨s1.heap.objs.size, [s1.heap.objs.size], _, _, H1, rfl, I1.kept (t' := s1.toks) λ b o e => Am5 _ e, x4 a _, ⟨_, Anc _ rfl, rfl, rfl⟩, λ b hb => ?_, q⟩
 have e : b = s1.heap.objs.size := by simpa using hb
 subst e
 exact I1.fpOk (Anh _) (I1.hok.fresh (Anh _))
def xa {tg : Expr} {pins : List (Addr × Obj)} {σ : St} {H : Hp} {s : Shared} {R : It -> Hp -> Prop} {E : Value -> Shared -> Prop} {lo hi : Int} {t u v : Tok} {tk : Nat} (I : Inv X pins σ H s) (h1 : -(2 ^ 62) <= lo) (h2 : lo < 2 ^ 62) (h3 : -(2 ^ 62) <= hi) (h4 : hi < 2 ^ 62)
  (q : R (Itr lo (hi - lo).toNat) H) : wpAny (model X.prog X.w) X.A (pyIter (.ref s.heap.objs.size)) (PIE X pins σ tg R) E { s with heap := s.heap.push { cls := .type "range", data := .fields #[.int lo t, .int hi u, .int 1 v] }, toks := tk } := by
 refine wpAny_pyIter_range (IsRange.new ..) (small_one h1 h2 h3 h4) ?_
 have I1 : Inv X pins σ H { s with heap := s.heap.push { cls := .type "range", data := .fields #[.int lo t, .int hi u, .int 1 v] }, toks := tk } := I.kept λ b o e => Am5 _ e
 refine ⟨(s.heap.push { cls := .type "range", data := .fields #[.int lo t, .int hi u, .int 1 v] }).objs.size, [(s.heap.push { cls := .type "range", data := .fields #[.int lo t, .int hi u, .int 1 v] }).objs.size], _, _, H, rfl,
  I1.kept (t' := tk) λ b o e => Am5 _ e, x6 _ lo (hi - lo).toNat, ?_, λ b hb => ?_, q⟩
 ·
  have e1 : lo + ((0 : Nat) : Int) * 1 = lo := by simp
  have e2 : (((hi - lo).toNat : Nat) : Int) - ((0 : Nat) : Int) = Builtin.Range.rangeSize lo hi 1 := by rw [rangeSize_one]; split <;> omega
  show IsRangeIter _ _ (lo + ((0 : Nat) : Int) * 1) ((((hi - lo).toNat : Nat) : Int) - ((0 : Nat) : Int)) 1
  rw [e1, e2]
  exact Anc _ rfl
 ·
  have e : b = (s.heap.push { cls := .type "range", data := .fields #[.int lo t, .int hi u, .int 1 v] }).objs.size := by simpa using hb
  subst e
  exact I1.fpOk (Anh _) (I1.hok.fresh (Anh _))
def Aj4 (ta : TA) : TI := λ σ H R => ta σ H λ vs H1 => ∃ j : Int, vs = [.int j] /\ -(2 ^ 62) <= j /\ j < 2 ^ 62 /\ R (Itr 0 j.toNat) H1
def Ajr (ta : TA) : TI := λ σ H R => ta σ H λ vs H1 => ∃ i j : Int, vs = [.int i, .int j] /\ (-(2 ^ 62) <= i /\ i < 2 ^ 62 /\ -(2 ^ 62) <= j /\ j < 2 ^ 62) /\ R (Itr i (j - i).toNat) H1
theorem Pt {a : Expr} {ta : TA} {p pos : Pos} (hg : Gl X "range") (hm : X.mg "range" = none) (ha : PA X [a] ta) (hs : starEach [a] X.env = [(false, eval a X.env)] := by rfl) : PI X tg (.Call (.Name "range" p) [a] [] pos) (Aj4 ta) := by
 intro pins s σ H R I h
 refine Call_ (di I hg hm boot_range (Apa (thn (ha pos pins s σ H _ I h) λ us s1 ⟨vs, H1, I1, r1, q1⟩ => ?_) hs rfl))
 obtain ⟨j, e, q1, q2, q⟩ := q1
 subst e
 cases r1 with
 |
  cons r rr =>
  cases rr
  obtain ⟨t, rfl⟩ := r
  exact call_range_1 (xa I1 dkm dkm q1 q2 (by simpa using q))
theorem dg (hg : Gl X "range") (hm : X.mg "range" = none) (ha : PA X [a, b] ta) (hs : starEach [a, b] X.env = [(false, eval a X.env), (false, eval b X.env)] := by rfl) (hs2 : starEach [b] X.env = [(false, eval b X.env)] := by rfl) :
  PI X tg (.Call (.Name "range" p) [a, b] [] pos) (Ajr ta) := by
 intro pins s σ H R I h
 refine Call_ (di I hg hm boot_range (Apa (thn (ha pos pins s σ H _ I h) λ us s1 ⟨vs, H1, I1, r1, q1⟩ => ?_) (by rw [hs, hs2]) (by rw [hs2]; rfl)))
 obtain ⟨i, j, e, ⟨q1, q2, q3, q4⟩, q⟩ := q1
 subst e
 cases r1 with
 |
  cons r rr =>
  cases rr with
  |
   cons r' rr =>
   cases rr
   obtain ⟨t, rfl⟩ := r
   obtain ⟨t', rfl⟩ := r'
   exact call_range_2 (xa I1 q1 q2 q3 q4 q)
def Alx (wi : TI) (g : TG) (tb : TS) : TS := λ D σ H => wi σ H λ J H1 => ∃ W : Nat -> Nat -> St -> Hp -> Prop, (∃ m, W 0 m σ H1) /\ ∀ i m σ H, W i m σ H ->
 (J.stop i H /\ D.nx σ H) ∨ (J.go i H /\ ∃ N : St -> Hp -> Prop, (∀ σ' H', N σ' H' -> ∃ m', m' < m /\ W (i + 1) m' σ' H') /\ ∀ x H', J.yld i H x H' -> g x σ H' λ σ2 H2 => tb { D with nx := N, ct := N, bk := D.nx } σ2 H2)
def kn (fp : List Addr) (h : Heap) : List (Addr × Obj) := fp.filterMap λ b => (h.get? b).map λ o => (b, o)
def Mr (hb : b ∈ fp) (e : h.get? b = some o) : (b, o) ∈ kn fp h := List.mem_filterMap.mpr ⟨b, hb, by rw [e]; rfl⟩
theorem Aa1 (hp : p ∈ kn fp h) : p.1 ∈ fp /\ h.get? p.1 = some p.2 := by
 obtain ⟨b, hb, e⟩ := List.mem_filterMap.mp hp
 cases q : h.get? b with
 | none => rw [q] at e; cases e
 |
  some o =>
  rw [q] at e
  have e' : (b, o) = p := An7 e
  subst e'
  exact ⟨hb, q⟩
def Inv.pinned (I : Inv X pins σ H s) (hf : ∀ b ∈ fp, zk X pins H b) (ho : ∀ b ∈ fp, ∃ o, s.heap.get? b = some o /\ ∀ v, o.data ≠ .cell v) : Inv X (pins ++ kn fp s.heap) σ H s :=
 I.pins_of λ p hp => (Aog.mp hp).elim (λ z => I.pin p (Ant _ z)) λ z => by
  obtain ⟨hb, e⟩ := Aa1 z
  obtain ⟨f0, f1, f2, _⟩ := hf p.1 hb
  obtain ⟨o, e', d⟩ := ho p.1 hb
  rw [e] at e'; cases e'
  exact ⟨e, f0, f1, f2, d⟩
def Inv.unpinned (I : Inv X (pins ++ pl) σ H s) : Inv X pins σ H s := I.pins_of λ p hp => I.pin p (Ant _ (Apd _ hp))
def To (hp : PassesOwn (model X.prog X.w) X.A X.env X.xe) (hc : X.calm = true) (hi : PI X tg iter wi) (hg : PG X tg g) (hb : PSs X body tb)
  (hs : ∀ x, foldedSetIterable iter X.env x = pure x := by intro _; rfl) : PS X (.For tg iter body [] pos) (Alx wi g tb) := by
 intro pins s σ H D I h
 refine wpAny_For (thn (hi pins s σ H _ I h) λ v s1 h1 => thn h1 λ itv s2 h2 => ?_) hs
 obtain ⟨it, fp, tn, J, H2, e, I2, T, st2, f2, W, ⟨m0, w0⟩, turn⟩ := h2
 subst e
 -- what stays true of the iterator's objects through the loop
 have stat : ∀ {H' : Hp}, (∀ b ∈ fp, H' b = none) -> ∀ b ∈ fp, zk X pins H' b := λ hn b hb => ⟨hn b hb, (f2 b hb).2⟩
 refine codeAny_forLoop_any (λ n s' => ∃ i σ' H', Inv X pins σ' H' s' /\ tn i s'.heap /\ (∀ b ∈ fp, H' b = none) /\ W i n σ' H') ?_ m0 ⟨0, σ, H2, I2, st2, λ b hb => (f2 b hb).1, w0⟩
 rintro n s3 ⟨i, σ3, H3, I3, st3, fr3, w3⟩
 rcases turn i n σ3 H3 w3 with ⟨stop, qn⟩ | ⟨go, N, hN, step⟩
 ·
  refine Apy hp (thn (T.done X rfl rfl rfl hc i pins s3 σ3 H3 X.xe I3 (stat fr3) st3 stop) λ r s4 ⟨hr, I4⟩ => ?_)
  subst hr
  exact Arx ⟨σ3, H3, I4, qn⟩
 ·
  refine Apy hp (thn (T.item X rfl rfl rfl hc i pins s3 σ3 H3 X.xe I3 (stat fr3) st3 go) λ r s4 ⟨u, hr, h4⟩ => ?_)
  subst hr
  refine Apy hp (thn h4 λ _ s5 ⟨x, H5, I5, r5, y5, st5, fr5⟩ => ?_)
  have I5' := I5.pinned (stat fr5) (T.obj _ _ st5)
  refine Apy hp (thn (hg _ s5 σ3 H5 x u _ I5' r5 (step x H5 y5)) λ _ s6 ⟨σ6, H6, I6, q6⟩ => ?_)
  refine Apy hp (thn (hb _ s6 σ6 H6 _ I6 q6) λ f s7 q7 => ?_)
  have again : ∀ {σ7 : St} {H7 : Hp}, Inv X (pins ++ kn fp s5.heap) σ7 H7 s7 -> N σ7 H7 -> ∃ m, m < n /\ ∃ i σ' H', Inv X pins σ' H' s7 /\ tn i s7.heap /\ (∀ b ∈ fp, H' b = none) /\ W i m σ' H' := λ {σ7 H7} I7 n7 => by
   obtain ⟨m', hm, w7⟩ := hN σ7 H7 n7
   refine ⟨m', hm, i + 1, σ7, H7, I7.unpinned, T.keep _ _ _ st5 λ b hb o e => (I7.pin (b, o) (Ant _ (Ant _ (Mr hb e)))).1, λ b hb => ?_, w7⟩
   obtain ⟨o, e, d⟩ := T.obj _ _ st5 b hb
   exact (I7.pin (b, o) (Ant _ (Ant _ (Mr hb e)))).2.1
  cases f with
  | next => obtain ⟨σ7, H7, I7, n7⟩ := q7; exact again I7 n7
  | cont => obtain ⟨σ7, H7, I7, n7⟩ := q7; exact again I7 n7
  | brk => obtain ⟨σ7, H7, I7, q7⟩ := q7; exact ⟨σ7, H7, I7.unpinned, q7⟩
  | ret v => obtain ⟨x7, σ7, H7, I7, r7, q7⟩ := q7; exact ⟨x7, σ7, H7, I7.unpinned, r7, q7⟩
def Abz {lo : Int} {n : Nat} {g : TG} {tb : TS} {D : Ends} {σ : St} {H : Hp} (Pv : Nat -> St -> Hp -> Prop) (h0 : Pv 0 σ H)
  (hs : ∀ i σ H, i < n -> Pv i σ H -> g (.int (lo + i)) σ H λ σ2 H2 => tb { D with nx := Pv (i + 1), ct := Pv (i + 1), bk := D.nx } σ2 H2) (hd : ∀ σ H, Pv n σ H -> D.nx σ H) :
  ∃ W : Nat -> Nat -> St -> Hp -> Prop, (∃ m, W 0 m σ H) /\ ∀ i m σ H, W i m σ H ->
   ((Itr lo n).stop i H /\ D.nx σ H) ∨ ((Itr lo n).go i H /\ ∃ N : St -> Hp -> Prop, (∀ σ' H', N σ' H' -> ∃ m', m' < m /\ W (i + 1) m' σ' H') /\ ∀ x H', (Itr lo n).yld i H x H' -> g x σ H' λ σ2 H2 => tb { D with nx := N, ct := N, bk := D.nx } σ2 H2) := by
 refine ⟨λ i m σ H => m = n - i /\ i <= n /\ Pv i σ H, ⟨n, dks, Aon _, h0⟩, ?_⟩
 rintro i m σ H ⟨rfl, hi, p⟩
 by_cases hlt : i < n
 ·
  refine .inr ⟨hlt, Pv (i + 1), λ σ' H' p' => ⟨n - (i + 1), dkm, rfl, hlt, p'⟩, λ x H' y => ?_⟩
  obtain ⟨e, y⟩ := y
  subst e y
  exact hs i σ _ hlt p
 ·
  have e : i = n := by omega
  subst e
  exact .inl ⟨Anh _, hd σ H p⟩
abbrev R2 := V -> V -> Hp -> VK -> Prop
def OpR (X : Cx) (f : Value -> Value -> Sem Value) (r : R2) : Prop :=
 ∀ (pins : List (Addr × Obj)) (s : Shared) (σ : St) (H : Hp) (x y : V) (v u : Value) (Q : VK), Inv X pins σ H s -> RelV x v -> RelV y u -> r x y H Q ->
  wpAny (model X.prog X.w) X.A (f v u) (EP X pins σ Q) X.xe s
def UnR (X : Cx) (f : Value -> Sem Value) (r : V -> Hp -> VK -> Prop) : Prop :=
 ∀ (pins : List (Addr × Obj)) (s : Shared) (σ : St) (H : Hp) (x : V) (v : Value) (Q : VK), Inv X pins σ H s -> RelV x v -> r x H Q ->
  wpAny (model X.prog X.w) X.A (f v) (EP X pins σ Q) X.xe s
def J0 (X : Cx) (f : Value) (r : List V -> Hp -> VK -> Prop) : Prop :=
 ∀ (pins : List (Addr × Obj)) (s : Shared) (σ : St) (H : Hp) (xs : List V) (us : List Value) (Q : VK), Inv X pins σ H s -> Vals xs us -> r xs H Q ->
  wpAny (model X.prog X.w) X.A (call f us) (EP X pins σ Q) X.xe s
def Amt (X : Cx) (r : V -> Hp -> (Bool -> Hp -> Prop) -> Prop) : Prop :=
 ∀ (pins : List (Addr × Obj)) (s : Shared) (σ : St) (H : Hp) (x : V) (v : Value) (Q : Bool -> Hp -> Prop), Inv X pins σ H s -> RelV x v -> r x H Q ->
  wpAny (model X.prog X.w) X.A (truthy v) (TP X pins σ Q) X.xe s
def tOp (r : R2) (ta tb : TE) : TE := λ σ H Q => ta σ H λ x H1 => tb σ H1 λ y H2 => r x y H2 Q
def tUn (r : V -> Hp -> VK -> Prop) (ta : TE) : TE := λ σ H Q => ta σ H λ x H1 => r x H1 Q
def rI (C : Int -> Int -> Prop) (g : Int -> Int -> V) : R2 := λ x y H Q => ∃ i j, x = .int i /\ y = .int j /\ C i j /\ Q (g i j) H
def rI0 (g : Int -> Int -> V) : R2 := λ x y H Q => ∃ i j, x = .int i /\ y = .int j /\ Q (g i j) H
def rU (g : Int -> V) : V -> Hp -> VK -> Prop := λ x H Q => ∃ i, x = .int i /\ Q (g i) H
def Akv {a b : Expr} {ta tb : TE} (ha : PE X a ta) (hb : PE X b tb) {pins : List (Addr × Obj)} {s : Shared} {σ : St} {H : Hp} {R : V -> V -> Hp -> Prop} (I : Inv X pins σ H s)
  (h : ta σ H λ x H1 => tb σ H1 λ y H2 => R x y H2) {Q : Value -> Shared -> Prop} {f : Value -> Value -> Sem Value}
  (hf : ∀ v u s2 x y H2, Inv X pins σ H2 s2 -> RelV x v -> RelV y u -> R x y H2 -> wpAny (model X.prog X.w) X.A (f v u) Q X.xe s2) :
  wpAny (model X.prog X.w) X.A (eval a X.env) (λ v s₁ => wpAny (model X.prog X.w) X.A (eval b X.env) (λ u s₂ => wpAny (model X.prog X.w) X.A (f v u) Q X.xe s₂) X.xe s₁) X.xe s := by
 refine thn (ha pins s σ H _ I h) λ v s1 ⟨x, H1, I1, r1, q1⟩ => ?_
 refine thn (hb pins s1 σ H1 _ I1 q1) λ u s2 ⟨y, H2, I2, r2, q2⟩ => ?_
 exact hf v u s2 x y H2 I2 r1 r2 q2
def Ag {a b : Expr} {ta tb : TE} {pos : Pos} {op : Operator} {r : R2} (ho : OpR X (binaryOp op) r) (ha : PE X a ta) (hb : PE X b tb) : PE X (.BinOp a op b pos) (tOp r ta tb) := by
 intro pins s σ H Q I h
 exact wpAny_BinOp (Akv ha hb I h λ v u s2 x y H2 I2 rx ry q => ho pins s2 σ H2 x y v u Q I2 rx ry q)
def m6 (ho : UnR X (unaryOp op) r) (ha : PE X a ta) : PE X (.UnaryOp op a pos) (tUn r ta) := by
 intro pins s σ H Q I h
 exact UnaryOp_ (thn (ha pins s σ H _ I h) λ v s1 ⟨x, H1, I1, r1, q1⟩ => ho pins s1 σ H1 x v Q I1 r1 q1)
def opI {f : Value -> Value -> Sem Value} {C : Int -> Int -> Prop} {g : Int -> Int -> Int}
  (rule : ∀ (i j : Int) (t u : Tok) (s : Shared) (Q : Value -> Shared -> Prop) (E : Value -> Shared -> Prop), C i j -> Q (.int (g i j) s.toks) { s with toks := s.toks + 1 } -> wpAny (model X.prog X.w) X.A (f (.int i t) (.int j u)) Q E s) :
  OpR X f (rI C λ i j => .int (g i j)) := by
 intro pins s σ H x y v u Q I rx ry h
 obtain ⟨i, j, rfl, rfl, hc, q⟩ := h
 obtain ⟨t, rfl⟩ := rx
 obtain ⟨t', rfl⟩ := ry
 exact rule i j t t' s _ _ hc ⟨.int (g i j), H, I.tok _, ⟨_, rfl⟩, q⟩
def Aln {f : Value -> Value -> Sem Value} {g : Int -> Int -> Int}
  (rule : ∀ (i j : Int) (t u : Tok) (s : Shared) (Q : Value -> Shared -> Prop) (E : Value -> Shared -> Prop), Q (.int (g i j) s.toks) { s with toks := s.toks + 1 } -> wpAny (model X.prog X.w) X.A (f (.int i t) (.int j u)) Q E s) :
  OpR X f (rI0 λ i j => .int (g i j)) := by
 intro pins s σ H x y v u Q I rx ry h
 obtain ⟨i, j, rfl, rfl, q⟩ := h
 obtain ⟨t, rfl⟩ := rx
 obtain ⟨t', rfl⟩ := ry
 exact rule i j t t' s _ _ ⟨.int (g i j), H, I.tok _, ⟨_, rfl⟩, q⟩
def Ajk {f : Value -> Value -> Sem Value} {g : Int -> Int -> Bool}
  (rule : ∀ (i j : Int) (t u : Tok) (s : Shared) (Q : Value -> Shared -> Prop) (E : Value -> Shared -> Prop), Q (.bool (g i j)) s -> wpAny (model X.prog X.w) X.A (f (.int i t) (.int j u)) Q E s) :
  OpR X f (rI0 λ i j => .bl (g i j)) := by
 intro pins s σ H x y v u Q I rx ry h
 obtain ⟨i, j, rfl, rfl, q⟩ := h
 obtain ⟨t, rfl⟩ := rx
 obtain ⟨t', rfl⟩ := ry
 exact rule i j t t' s _ _ ⟨.bl (g i j), H, I, rfl, q⟩
def Al3 (i j : Int) : Prop := 0 < j /\ j < 1073741824
def Aly (i j : Int) : Prop := 0 <= j /\ j <= 1000000 /\ i.natAbs < 2 ^ 64
def CMul (i j : Int) : Prop := (-(2 ^ 64) < i /\ i < 2 ^ 64) ∨ (-(2 ^ 64) < j /\ j < 2 ^ 64)
def CMul.ok (h : CMul i j) : IntMulOk i j := by
 rcases h with ⟨h1, h2⟩ | ⟨h1, h2⟩
 · exact .of_left (intBits_le_64 h1 h2)
 · exact .of_right (intBits_le_64 h1 h2)
def za (k : Nat) : (0 : Int) <= 2 ^ k := by
 rw [two_pow_cast]
 exact Int.natCast_nonneg _
def Ahi : OpR X (binaryOp .Add) (rI0 λ i j => .int (i + j)) := Aln λ _ _ _ _ _ _ _ q => add_int q
def Ah3 : OpR X (binaryOp .Sub) (rI0 λ i j => .int (i - j)) := Aln λ _ _ _ _ _ _ _ q => sub_int q
def M4 : OpR X (binaryOp .Mult) (rI CMul λ i j => .int (i * j)) := opI λ _ _ _ _ _ _ _ hc q => mul_int q hc.ok
def uh : OpR X (binaryOp .FloorDiv) (rI Al3 λ i j => .int (i / j)) := opI λ i j _ _ _ _ _ hc q => by
 have h1 : (0 : Int) < j := hc.1
 have h2 : j < 1073741824 := hc.2
 exact floordiv_int dkm (by rw [Int.fdiv_eq_ediv_of_nonneg i dkm]; exact q) (.inl (PyProof.noPylong_small dkm))
def Og : OpR X (binaryOp .Mod) (rI (λ _ j => 0 < j) λ i j => .int (i % j)) := opI λ i j _ _ _ _ _ hc q => by
 have h1 : (0 : Int) < j := hc
 exact mod_int' dkm (by rw [Int.fmod_eq_emod_of_nonneg i dkm]; exact q)
def Aae : OpR X (binaryOp .Pow) (rI Aly λ i j => .int (i ^ j.toNat)) := opI λ _ _ _ _ _ _ _ hc q => pow_int_small hc.1 hc.2.1 hc.2.2 q
def Ahj : OpR X (binaryOp .RShift) (rI (λ _ j => 0 <= j) λ i j => .int (i / 2 ^ j.toNat)) := opI λ i j _ _ _ _ _ hc q =>
 rshift_int hc (by rw [Int.fdiv_eq_ediv_of_nonneg i (za _)]; exact q)
def unI {f : Value -> Sem Value} {g : Int -> Int}
  (rule : ∀ (i : Int) (t : Tok) (s : Shared) (Q : Value -> Shared -> Prop) (E : Value -> Shared -> Prop), Q (.int (g i) s.toks) { s with toks := s.toks + 1 } -> wpAny (model X.prog X.w) X.A (f (.int i t)) Q E s) :
  UnR X f (rU λ i => .int (g i)) := by
 intro pins s σ H x v Q I rx h
 obtain ⟨i, rfl, q⟩ := h
 obtain ⟨t, rfl⟩ := rx
 exact rule i t s _ _ ⟨.int (g i), H, I.tok _, ⟨_, rfl⟩, q⟩
def Aex : UnR X (unaryOp .USub) (rU λ i => .int (-i)) := unI λ _ _ _ _ _ q => neg_int q
def Ahm : V -> V -> Bool
 | .non, .non => true | .non, .int _ => true | .int _, .non => true | .non, .bl _ => true | .bl _, .non => true | .non, .str _ => true | .str _, .non => true
 | .int _, .int _ => true | .bl _, .bl _ => true | .str _, .str _ => true | .byt _, .byt _ => true
 | .int _, .str _ => true | .str _, .int _ => true | .bl _, .str _ => true | .str _, .bl _ => true
 | _, _ => false
def rEq : R2 := λ x y H Q => Ahm x y = true /\ Q (.bl (decide (x = y))) H
def rNe : R2 := λ x y H Q => Ahm x y = true /\ Q (.bl (!decide (x = y))) H
def Aaq : decide (V.int i = V.int j) = (i == j) := by
 rw [Arm]
 simp
def Aeg : decide (V.bl i = V.bl j) = (i == j) := by
 rw [Arm]
 simp
def Aai : decide (V.str i = V.str j) = (i == j) := by
 rw [Arm]
 simp
def Abh : decide (V.byt i = V.byt j) = (i.toList == j.toList) := by
 rw [Arm]
 cases i
 cases j
 simp
def Cy (I : Inv X pins σ H s) (q : Q (.bl k) H) (e : k = k') : EP X pins σ Q (.bool k') s := by
 subst e
 exact ⟨.bl k, H, I, rfl, q⟩
theorem Agk : OpR X (compareOp .Eq) rEq := by
 intro pins s σ H x y v u Q I rx ry h
 obtain ⟨hs, q⟩ := h
 cases x with
 |
  non =>
  cases rx
  cases y with
  | non => cases ry; exact PySem.EqNone.eq_none_none (Cy I q dks)
  | bl j => cases ry; exact PySem.EqNone.eq_none_bool (Cy I q dks)
  | int j => obtain ⟨t', rfl⟩ := ry; exact PySem.EqNone.eq_none_int (Cy I q dks)
  | str j => obtain ⟨t', rfl⟩ := ry; exact PySem.EqNone.eq_none_str (Cy I q dks)
  | _ => exact absurd (show false = true from hs) Anr
 |
  bl i =>
  cases rx
  cases y with
  | non => cases ry; exact PySem.EqNone.eq_bool_none (Cy I q dks)
  | bl j => cases ry; exact eq_bool (Cy I q Aeg)
  | str j => obtain ⟨t', rfl⟩ := ry; exact PySem.EqMixed.eq_bool_str (Cy I q dks)
  | _ => exact absurd (show false = true from hs) Anr
 |
  int i =>
  obtain ⟨t, rfl⟩ := rx
  cases y with
  | non => cases ry; exact PySem.EqNone.eq_int_none (Cy I q dks)
  | int j => obtain ⟨t', rfl⟩ := ry; exact eq_int (Cy I q Aaq)
  | str j => obtain ⟨t', rfl⟩ := ry; exact PySem.EqMixed.eq_int_str (Cy I q dks)
  | _ => exact absurd (show false = true from hs) Anr
 |
  str i =>
  obtain ⟨t, rfl⟩ := rx
  cases y with
  | non => cases ry; exact PySem.EqNone.eq_str_none (Cy I q dks)
  | bl j => cases ry; exact PySem.EqMixed.eq_str_bool (Cy I q dks)
  | int j => obtain ⟨t', rfl⟩ := ry; exact PySem.EqMixed.eq_str_int (Cy I q dks)
  | str j => obtain ⟨t', rfl⟩ := ry; exact eq_str (Cy I q Aai)
  | _ => exact absurd (show false = true from hs) Anr
 |
  byt i =>
  obtain ⟨t, rfl⟩ := rx
  cases y with
  | byt j => obtain ⟨t', rfl⟩ := ry; exact W.eq_bytes (Cy I q Abh)
  | _ => exact absurd (show false = true from hs) Anr
 | _ => cases y <;> exact absurd (show false = true from hs) Anr
theorem Akf : OpR X (compareOp .NotEq) rNe := by
 intro pins s σ H x y v u Q I rx ry h
 obtain ⟨hs, q⟩ := h
 cases x with
 |
  non =>
  cases rx
  cases y with
  | non => cases ry; exact PySem.EqNone.ne_none_none (Cy I q dks)
  | bl j => cases ry; exact PySem.EqNone.ne_none_bool (Cy I q dks)
  | int j => obtain ⟨t', rfl⟩ := ry; exact PySem.EqNone.ne_none_int (Cy I q dks)
  | str j => obtain ⟨t', rfl⟩ := ry; exact PySem.EqNone.ne_none_str (Cy I q dks)
  | _ => exact absurd (show false = true from hs) Anr
 |
  bl i =>
  cases rx
  cases y with
  | non => cases ry; exact PySem.EqNone.ne_bool_none (Cy I q dks)
  | bl j => cases ry; exact ne_bool (Cy I q (Apw not Aeg))
  | str j => obtain ⟨t', rfl⟩ := ry; exact PySem.EqMixed.ne_bool_str (Cy I q dks)
  | _ => exact absurd (show false = true from hs) Anr
 |
  int i =>
  obtain ⟨t, rfl⟩ := rx
  cases y with
  | non => cases ry; exact PySem.EqNone.ne_int_none (Cy I q dks)
  | int j => obtain ⟨t', rfl⟩ := ry; exact ne_int (Cy I q (Apw not Aaq))
  | str j => obtain ⟨t', rfl⟩ := ry; exact PySem.EqMixed.ne_int_str (Cy I q dks)
  | _ => exact absurd (show false = true from hs) Anr
 |
  str i =>
  obtain ⟨t, rfl⟩ := rx
  cases y with
  | non => cases ry; exact PySem.EqNone.ne_str_none (Cy I q dks)
  | bl j => cases ry; exact PySem.EqMixed.ne_str_bool (Cy I q dks)
  | int j => obtain ⟨t', rfl⟩ := ry; exact PySem.EqMixed.ne_str_int (Cy I q dks)
  | str j => obtain ⟨t', rfl⟩ := ry; exact ne_str (Cy I q (Apw not Aai))
  | _ => exact absurd (show false = true from hs) Anr
 |
  byt i =>
  obtain ⟨t, rfl⟩ := rx
  cases y with
  | byt j => obtain ⟨t', rfl⟩ := ry; exact W.ne_bytes (Cy I q (Apw not Abh))
  | _ => exact absurd (show false = true from hs) Anr
 | _ => cases y <;> exact absurd (show false = true from hs) Anr
def Akb : OpR X (compareOp .Lt) (rI0 λ i j => .bl (decide (i < j))) := Ajk λ _ _ _ _ _ _ _ q => lt_int q
def Aj6 : OpR X (compareOp .LtE) (rI0 λ i j => .bl (decide (i <= j))) := Ajk λ _ _ _ _ _ _ _ q => le_int q
def Ajp : OpR X (compareOp .Gt) (rI0 λ i j => .bl (decide (j < i))) := Ajk λ _ _ _ _ _ _ _ q => gt_int q
def Ajx : OpR X (compareOp .GtE) (rI0 λ i j => .bl (decide (j <= i))) := Ajk λ _ _ _ _ _ _ _ q => ge_int q
def Ai1 : OpR X (compareOp .Is) (λ x y H Q => y = .non /\ Q (.bl (decide (x = .non))) H) := by
 intro pins s σ H x y v u Q I rx ry h
 obtain ⟨rfl, q⟩ := h
 cases ry
 refine is_none_gen (Cy I q ?_)
 cases x <;> first
  | (cases rx; rfl)
  | (obtain ⟨t, rfl⟩ := rx; rfl)
def Agy : OpR X (compareOp .IsNot) (λ x y H Q => y = .non /\ Q (.bl (!decide (x = .non))) H) := by
 intro pins s σ H x y v u Q I rx ry h
 obtain ⟨rfl, q⟩ := h
 cases ry
 refine isnot_none_gen (Cy I q ?_)
 cases x <;> first
  | (cases rx; rfl)
  | (obtain ⟨t, rfl⟩ := rx; rfl)
def Am (b : Expr) (h : op ≠ .In := by decide) (h2 : op ≠ .NotIn := by decide) : behindInMarks op b = false := by
 have e1 : (op == CmpOp.In) = false := by cases op <;> first | rfl | exact absurd rfl h
 have e2 : (op == CmpOp.NotIn) = false := by cases op <;> first | rfl | exact absurd rfl h2
 cases b <;> simp [behindInMarks, e1, e2]
def A8 {a b : Expr} {ta tb : TE} {pos : Pos} {op : CmpOp} {r : R2} (ho : OpR X (compareOp op) r) (ha : PE X a ta) (hb : PE X b tb) (hm : behindInMarks op b = false) : PE X (.Compare a [op] [b] pos) (tOp r ta tb) := by
 intro pins s σ H Q I h
 exact wpAny_Compare1 (Akv ha hb I h λ v u s2 x y H2 I2 rx ry q => ho pins s2 σ H2 x y v u Q I2 rx ry q) hm
def Aho (t : TE) : TT := λ σ H Q => t σ H λ x H' => ∃ k, x = .bl k /\ Q k H'
def Afy (ho : OpR X (compareOp op) r) (ha : PE X a ta) (hb : PE X b tb) (hm : behindInMarks op b = false) : PT X (.Compare a [op] [b] pos) (Aho (tOp r ta tb)) := by
 intro pins s σ H Q I h
 refine wpAny_isTrue_Compare1 (thn (ha pins s σ H _ I h) λ v s1 ⟨x, H1, I1, r1, q1⟩ => thn (hb pins s1 σ H1 _ I1 q1) λ u s2 ⟨y, H2, I2, r2, q2⟩ =>
  thn (ho pins s2 σ H2 x y v u _ I2 r1 r2 q2) λ c s3 ⟨z, H3, I3, r3, k, e, q3⟩ => ?_) hm
 subst e
 cases r3
 exact Aov ⟨H3, I3, q3⟩
def Aej (r r' : R2) (ta tb tc : TE) : TE := λ σ H Q => ta σ H λ x H1 => tb σ H1 λ y H2 => r x y H2 λ z H3 => ∃ k, z = .bl k /\
 (if k = true then tc σ H3 λ w' H4 => r' y w' H4 Q else Q (.bl false) H3)
theorem Ady (ho : OpR X (compareOp op) r) (ho' : OpR X (compareOp op') r') (ha : PE X a ta) (hb : PE X b tb) (hc : PE X c tc)
  (hm : lastMarks [op, op'] [b, c] = false := by with_unfolding_all rfl) : PE X (.Compare a [op, op'] [b, c] pos) (Aej r r' ta tb tc) := by
 intro pins s σ H Q I h
 refine Compare_chain (thn (ha pins s σ H _ I h) λ v s1 ⟨x, H1, I1, r1, q1⟩ => chain_link (thn (hb pins s1 σ H1 _ I1 q1) λ u s2 ⟨y, H2, I2, r2, q2⟩ =>
  thn (ho pins s2 σ H2 x y v u _ I2 r1 r2 q2) λ d s3 ⟨z, H3, I3, r3, k, e, q3⟩ => ?_)) hm
 subst e
 cases r3
 refine Aov ?_
 cases k with
 | false => exact ite_ff ⟨.bl false, H3, I3, rfl, q3⟩
 | true => exact ite_tt (chain_last (thn (hc pins s3 σ H3 _ I3 q3) λ w' s4 ⟨z', H4, I4, r4, q4⟩ => ho' pins s4 σ H4 y z' u w' Q I4 r2 r4 q4))
theorem Ac0 (ho : OpR X (compareOp op) r) (ho' : OpR X (compareOp op') r') (ha : PE X a ta) (hb : PE X b tb) (hc : PE X c tc)
  (hm : lastMarks [op, op'] [b, c] = false := by with_unfolding_all rfl) : PT X (.Compare a [op, op'] [b, c] pos) (Aho (Aej r r' ta tb tc)) := by
 intro pins s σ H Q I h
 refine isTrue_chain (thn (ha pins s σ H _ I h) λ v s1 ⟨x, H1, I1, r1, q1⟩ => test_link (thn (hb pins s1 σ H1 _ I1 q1) λ u s2 ⟨y, H2, I2, r2, q2⟩ =>
  thn (ho pins s2 σ H2 x y v u _ I2 r1 r2 q2) λ d s3 ⟨z, H3, I3, r3, k, e, q3⟩ => ?_)) hm
 subst e
 cases r3
 refine Aov ?_
 cases k with
 |
  false =>
  obtain ⟨k', e', q'⟩ := q3
  cases e'
  exact ite_ff ⟨H3, I3, q'⟩
 |
  true =>
  refine ite_tt (test_last (thn (hc pins s3 σ H3 _ I3 q3) λ w' s4 ⟨z', H4, I4, r4, q4⟩ => thn (ho' pins s4 σ H4 y z' u w' _ I4 r2 r4 q4) λ d' s5 ⟨z2, H5, I5, r5, k2, e2, q5⟩ => ?_))
  subst e2
  cases r5
  exact Aov ⟨H5, I5, q5⟩
def Ali (K : W.Frag) (x : V) (H : Hp) (k : Bool) : Prop :=
 match x with
 | .non => k = false
 | .bl b => k = b
 | .int i => k = (i != 0)
 | .str y => y.length <= sizeLine /\ k = ((y.length : Int) != 0)
 | .byt y => y.size <= sizeLine /\ k = ((y.size : Int) != 0)
 | .ref p => (∃ xs, SqL K H p xs /\ k = !xs.isEmpty) ∨ (∃ xs, SqT K H p xs /\ k = !xs.isEmpty) ∨ ∃ kvs, H p = some (.dK kvs) /\ k = !kvs.isEmpty
 | _ => False
def zi (r : KV kvs vs) : (!vs.isEmpty) = !kvs.isEmpty := by
 cases r <;> rfl
def km (r : Vals xs its) : (!its.toArray.isEmpty) = !xs.isEmpty := by
 cases r <;> simp
def vz : (sizeLine : Nat) < 2 ^ 63 := by rw [Aro]; decide
theorem Aiu : Amt X (λ x H Q => ∃ k, Ali X.K x H k /\ Q k H) := by
 intro pins s σ H x v Q I rx h
 obtain ⟨k, e, q⟩ := h
 have hl := vz
 have hs : sizeLine = 16777216 := Aro
 cases x with
 |
  non =>
  cases rx
  have e' : k = false := e
  subst e'
  exact truthy_none ⟨H, I, q⟩
 |
  bl b =>
  cases rx
  have e' : k = b := e
  subst e'
  exact Aov ⟨H, I, q⟩
 |
  int i =>
  obtain ⟨t, rfl⟩ := rx
  have e' : k = (i != 0) := e
  subst e'
  exact PySem.P.truthy_int ⟨H, I, q⟩
 |
  str y =>
  obtain ⟨t, rfl⟩ := rx
  obtain ⟨hy, e'⟩ : y.length <= sizeLine /\ k = ((y.length : Int) != 0) := e
  subst e'
  exact PySem.P.truthy_str dkm ⟨H, I.tok _, q⟩
 |
  byt y =>
  obtain ⟨t, rfl⟩ := rx
  obtain ⟨hy, e'⟩ : y.size <= sizeLine /\ k = ((y.size : Int) != 0) := e
  subst e'
  exact W.truthy_bytes dkm ⟨H, I.tok _, q⟩
 |
  ref p =>
  cases rx
  have e' : (∃ xs, SqL X.K H p xs /\ k = !xs.isEmpty) ∨ (∃ xs, SqT X.K H p xs /\ k = !xs.isEmpty) ∨ ∃ kvs, H p = some (.dK kvs) /\ k = !kvs.isEmpty := e
  rcases e' with ⟨xs, hx, e'⟩ | ⟨xs, hx, e'⟩ | ⟨kvs, hx, e'⟩
  ·
   subst e'
   obtain ⟨its, r, pl, hz⟩ := I.list hx
   have hlen := r.length
   exact wpAny_truthy_list pl.isList (by simp only [Anl]; omega) ⟨H, I.tok _, by rw [km r]; exact q⟩
  ·
   subst e'
   obtain ⟨its, r, pl, hz⟩ := I.tuple hx
   have hlen := r.length
   exact truthy_tuple pl (by simp only [Anl]; omega) ⟨H, I.tok _, by rw [km r]; exact q⟩
  ·
   subst e'
   obtain ⟨hz, hS, vs, r, m⟩ : kvs.length <= sizeLine /\ (p == sysModules) = false /\ ∃ vs, KV kvs vs /\ s.heap.DictOf (Gj X.prog X.w) p vs := I.hok p _ hx
   have hlen : kvs.length = vs.length := Paired.length r
   exact wpAny_truthy_dict hS m dkm ⟨H, I.tok _, by rw [zi r]; exact q⟩
 | _ => exact (show False from e).elim
def bh (ha : PE X a ta) (he : ∀ whole, isTrue a X.env whole = (do let v ← whole; standAt a.pos; holding [v] (truthy v))) :
  PT X a (λ σ H Q => ta σ H λ x H' => ∃ k, Ali X.K x H' k /\ Q k H') := by
 intro pins s σ H Q I h
 exact isTrue_plain (thn (ha pins s σ H _ I h) λ v s1 ⟨x, H1, I1, r1, q1⟩ => Aiu pins s1 σ H1 x v Q I1 r1 q1) (he _)
theorem vals1 (r : Vals [x] us) : ∃ u, us = [u] /\ RelV x u := by
 cases r with
 | cons r1 r2 => cases r2; exact ⟨_, rfl, r1⟩
theorem vals2 (r : Vals [x, y] us) : ∃ u w', us = [u, w'] /\ RelV x u /\ RelV y w' := by
 cases r with
 |
  cons r1 r2 =>
  cases r2 with
  | cons r3 r4 => cases r4; exact ⟨_, _, rfl, r1, r3⟩
def xr : J0 X (.builtin "abs") (λ xs H Q => ∃ i, xs = [.int i] /\ Q (.int (if i < 0 then -i else i)) H) := by
 intro pins s σ H xs us Q I r h
 obtain ⟨i, rfl, q⟩ := h
 obtain ⟨u, rfl, t, rfl⟩ := vals1 r
 exact call_abs_int λ u tk => ⟨.int (if i < 0 then -i else i), H, I.tok _, ⟨_, rfl⟩, q⟩
def zy (hc : X.calm = true) : J0 X (.builtin "max") (λ xs H Q => ∃ i j, xs = [.int i, .int j] /\ Q (.int (if j > i then j else i)) H) := by
 intro pins s σ H xs us Q I r h
 obtain ⟨i, j, rfl, q⟩ := h
 obtain ⟨u, w', rfl, ⟨t, rfl⟩, ⟨t', rfl⟩⟩ := vals2 r
 refine max_two_ints (I.ok.hd hc) λ h' tk k => ⟨_, H, I.kept k, ?_, q⟩
 by_cases hj : j > i
 · rw [if_pos hj, if_pos hj]; exact ⟨_, rfl⟩
 · rw [if_neg hj, if_neg hj]; exact ⟨_, rfl⟩
def Aba (hc : X.calm = true) : J0 X (.builtin "min") (λ xs H Q => ∃ i j, xs = [.int i, .int j] /\ Q (.int (if j < i then j else i)) H) := by
 intro pins s σ H xs us Q I r h
 obtain ⟨i, j, rfl, q⟩ := h
 obtain ⟨u, w', rfl, ⟨t, rfl⟩, ⟨t', rfl⟩⟩ := vals2 r
 refine min_two_ints (I.ok.hd hc) λ h' tk k => ⟨_, H, I.kept k, ?_, q⟩
 by_cases hj : j < i
 · rw [if_pos hj, if_pos hj]; exact ⟨_, rfl⟩
 · rw [if_neg hj, if_neg hj]; exact ⟨_, rfl⟩
def Wy : J0 X (.type "int") (λ xs H Q => (∃ i, xs = [.int i] /\ Q (.int i) H) ∨ ∃ k, xs = [.bl k] /\ Q (.int (if k then 1 else 0)) H) := by
 intro pins s σ H xs us Q I r h
 rcases h with ⟨i, rfl, q⟩ | ⟨k, rfl, q⟩
 ·
  obtain ⟨u, rfl, t, rfl⟩ := vals1 r
  exact call_int_int ⟨.int i, H, I, ⟨_, rfl⟩, q⟩
 ·
  obtain ⟨u, rfl, r1⟩ := vals1 r
  cases r1
  exact call_int_bool ⟨.int (if k then 1 else 0), H, I.tok _, ⟨_, rfl⟩, q⟩
def x5 : J0 X (.type "bool") (λ xs H Q => (∃ i, xs = [.int i] /\ Q (.bl (i != 0)) H) ∨ ∃ k, xs = [.bl k] /\ Q (.bl k) H) := by
 intro pins s σ H xs us Q I r h
 rcases h with ⟨i, rfl, q⟩ | ⟨k, rfl, q⟩
 ·
  obtain ⟨u, rfl, t, rfl⟩ := vals1 r
  exact call_bool_int ⟨.bl (i != 0), H, I, rfl, q⟩
 ·
  obtain ⟨u, rfl, r1⟩ := vals1 r
  cases r1
  exact call_bool_bool ⟨.bl k, H, I, rfl, q⟩
structure ObjM (h : Heap) (x dx C : Addr) (mA : Str -> Option Value) : Prop where
 obj : h.get? x = some (W.instObj C dx)
 ns : h.Ns1 dx mA
 ne : dx ≠ x
def z7 {h : Heap} {dx : Addr} {mA : Str -> Option Value} (n : h.Ns1 dx mA) : ∃ od, h.get? dx = some od /\ ∀ name, W.lookIn name od = some (mA name) := by
 obtain ⟨o, es, ep, ho, hd, hk, _, hm⟩ := n
 refine ⟨o, ho, λ name => ?_⟩
 have e := hm name
 unfold nsFind findBy at e
 rw [← Array.find?_toList] at e
 unfold W.lookIn
 rw [hd]
 dsimp only
 split
 ·
  rename_i y q
  rw [q] at e
  exact Apw some e
 ·
  rename_i q
  rw [q] at e
  have a : es.toList.any (·.refKey) = false := by
   rw [List.any_eq_false]
   intro y hy
   obtain ⟨z, t, hkey⟩ := hk y (Array.mem_toList_iff.mp hy)
   simp [DictEntry.refKey, hkey]
  have a' : ¬ es.toList.any (·.refKey) = true := by rw [a]; exact Anr
  rw [if_neg a']
  exact Apw some e
def ObjM.look (I : ObjM h x dx C mA) : ∃ od, W.InstAt h x (W.instObj C dx) C (some od) /\ ∀ name, W.lookIn name od = some (mA name) :=
 let ⟨od, ho, hl⟩ := z7 I.ns
 ⟨od, ⟨I.obj, rfl, rfl, ho⟩, hl⟩
variable {prog : Program} {A : Around}
def get_map {K : W.Frag} {x dx C : Addr} {mA : Str -> Option Value} {name : Str} {v : Value} {expr : Bool} {Q : Value -> Shared -> Prop} (X : K.In s.heap) (I : ObjM s.heap x dx C mA) (hg : W.plainGet K C name = true) (hh : W.hasDictIn K C = true)
  (ha : W.findIn K (.ref C) name = some none) (hv : mA name = some v) (hv' : W.handedIn v = true) (h : Q v { s with toks := s.toks + 1 }) :
  wpAny (model prog w) A (getAttr (.ref x) name expr) Q E s := by
 obtain ⟨od, J, hl⟩ := I.look
 exact W.get_value X J (W.plainGet_of hg).1 (W.findObj_own hh ha rfl (by rw [hl, hv])) hv' h
def Acx {K : W.Frag} {x dx C f : Addr} {mA : Str -> Option Value} {name : Str} {pl : Sem Bool} {Q : Value × List Value -> Shared -> Prop} (X : K.In s.heap) (I : ObjM s.heap x dx C mA) (hg : W.plainGet K C name = true)
  (hf : W.findIn K (.ref C) name = some (some (.ref f))) (ht : W.isFn K (.ref f) = true) (hv : mA name = none) (h : Q (.ref f, [.ref x]) s) :
  wpAny (model prog w) A (getMethod (.ref x) name pl) Q E s := by
 obtain ⟨od, J, hl⟩ := I.look
 exact W.method_fn X J (W.plainGet_of hg).1 (W.plainGet_of hg).2 hf (beq_iff_eq.mp ht) (by show (W.lookIn name od).map (·.isSome) = some false; rw [hl, hv]; rfl) h
def Afd {K : W.Frag} {x dx C : Addr} {mA : Str -> Option Value} {name : Str} {v : Value} {ns : List Str} {Q : Unit -> Shared -> Prop} (X : K.In s.heap) (I : ObjM s.heap x dx C mA)
  (hs : W.findIn K (.ref C) "__setattr__" = some (some (.builtin "object.__setattr__"))) (hp : W.plainOver K C = true) (ht : W.takerIn K C name = some none) (hh : W.hasDictIn K C = true)
  (hw : PySem.Within mA ns) (hsz : ns.length <= sizeLine)
  (h : ∀ h', ObjM h' x dx C (λ y => if y = name then some v else mA y) -> Heap.SameBut dx s.heap h' -> Q () { s with heap := h', toks := s.toks + 2 }) :
  wpAny (model prog w) A (setAttr (.ref x) name v) Q E s := by
 obtain ⟨od, J, hl⟩ := I.look
 refine W.set_plain X J hs (W.osa_open (s := { s with toks := s.toks + 1 }) (r := none) X J hp ht λ b => ?_)
 obtain ⟨cd, hc, hd'⟩ := W.any_some hh
 have hx : s.heap.get? x = some ⟨.ref C, some dx, .plain, #[]⟩ := I.obj
 refine Am4 (Am7 (Am4 (Am4 (wpAny_loadPart hx (Am4 (W.Looks.here (s := { s with toks := s.toks + 1 }) (W.looks_clsIn X hc) ?_))))))
 rw [hd']
 refine Am7 (a := some dx) (Am4 (Am7 (Am4 ?_)))
 refine wpAny_nsSet1 (s := { s with toks := s.toks + 1 }) I.ns λ h' hn2 hs2 => ?_
 obtain ⟨oD, esD, epD, hoD, hdD, hcD⟩ := hn2.count (PySem.Within.cons name v hw)
 refine Am4 (wpAny_lookBehind hoD (by rw [hdD]; exact pastItsLine_dict (Anb hcD (by rw [Aoi]; omega))) ?_)
 exact Am7 (h _ ⟨(hs2.2 _ (Aq6 I.ne)).trans I.obj, hn2, I.ne⟩ hs2)
def Adl {K : W.Frag} {C f : Addr} {R : Result -> Shared -> Prop} {vs : List Value} {kw : List (Str × Value)} (X : K.In s.heap) (hm : W.makesIn K C = true)
  (hi : W.findIn K (.ref C) "__init__" = some (some (.ref f))) (hf : W.typeIn K (.ref f) = some (.type "function"))
  (h : codeAny (model prog w) (A.under (.builtin "type.__call__" ⟨.ref C :: vs, kw⟩)) (.call (.ref f) ⟨.ref (s.heap.objs.size + 1) :: vs, kw⟩) (W.InitBack (s.heap.objs.size + 1) R)
   { s with heap := (s.heap.push W.emptyDict).push (W.instObj C s.heap.objs.size) }) :
  codeAny (model prog w) A (.call (.ref C) ⟨vs, kw⟩) R s := by
 obtain ⟨hh, g, d, t, os⟩ := s
 exact W.make_core (W.makes_of X hm) (W.looks_findIn X hi) (λ self => W.bind_fn X self hf) (.inl rfl) h
def ou (f : Str) (v : V) : List (Str × V) -> List (Str × V)
 | [] => [(f, v)]
 | (g, x) :: r => if g = f then (g, v) :: r else (g, x) :: ou f v r
theorem f7 (f g : Str) (v : V) : ∀ fs : List (Str × V), (ou f v fs).lookup g = if g = f then some v else fs.lookup g
 |
  [] => by
  show List.lookup g [(f, v)] = _
  by_cases h : g = f
  ·
   have hb : (g == f) = true := beq_iff_eq.mpr h
   simp only [List.lookup, hb, if_pos h]
  ·
   have hb : (g == f) = false := Apk.mpr h
   simp only [List.lookup, hb, if_neg h]
 |
  (k, x) :: r => by
  have ih := f7 f g v r
  rw [show ou f v ((k, x) :: r) = (if k = f then (k, v) :: r else (k, x) :: ou f v r) from rfl]
  by_cases hk : k = f
  ·
   rw [if_pos hk]
   by_cases h : g = k
   ·
    have hb : (g == k) = true := beq_iff_eq.mpr h
    simp only [List.lookup, hb, if_pos (h.trans hk)]
   ·
    have hb : (g == k) = false := Apk.mpr h
    simp only [List.lookup, hb, if_neg (λ e : g = f => h (e.trans hk.symm))]
  ·
   rw [if_neg hk]
   by_cases h : g = k
   ·
    have hb : (g == k) = true := beq_iff_eq.mpr h
    simp only [List.lookup, hb, if_neg (λ e : g = f => hk (h.symm.trans e))]
   ·
    have hb : (g == k) = false := Apk.mpr h
    simp only [List.lookup, hb]
    exact ih
theorem fq (f : Str) (v : V) : ∀ fs : List (Str × V), f ∈ (ou f v fs).map (·.1) /\ ∀ g, g ∈ fs.map (·.1) -> g ∈ (ou f v fs).map (·.1)
 | [] => ⟨by simp [ou], λ g h => by simp at h⟩
 |
  (k, x) :: r => by
  obtain ⟨i1, i2⟩ := fq f v r
  rw [show ou f v ((k, x) :: r) = (if k = f then (k, v) :: r else (k, x) :: ou f v r) from rfl]
  by_cases hk : k = f
  ·
   rw [if_pos hk]
   subst hk
   exact ⟨dks, λ g h => by simpa using h⟩
  ·
   rw [if_neg hk]
   refine ⟨?_, λ g h => ?_⟩
   ·
    rw [An9]
    exact Ann _ i1
   ·
    rw [An9] at h ⊢
    rcases Anf.mp h with e | e
    · exact List.mem_cons.mpr (.inl e)
    · exact Ann _ (i2 g e)
theorem h9 (f : Str) (v : V) : ∀ fs : List (Str × V), (ou f v fs).length <= fs.length + 1
 | [] => by simp [ou]
 |
  (k, x) :: r => by
  have ih := h9 f v r
  rw [show ou f v ((k, x) :: r) = (if k = f then (k, v) :: r else (k, x) :: ou f v r) from rfl]
  by_cases hk : k = f
  · rw [if_pos hk, Aoi, Aoi]; omega
  · rw [if_neg hk, Aoi, Aoi]; omega
theorem RelO.some_of (r : RelO (some v) o) : ∃ u, o = some u /\ RelV v u := by
 cases o with
 | none => exact (show False from r).elim
 | some u => exact ⟨u, rfl, r⟩
theorem RelO.none_of (r : RelO none o) : o = none := by
 cases o with
 | none => rfl
 | some u => exact (show False from r).elim
theorem Aag (r : RelV v u) : W.handedIn u = true := by
 cases v with
 | non => cases (show u = Value.none from r); rfl
 | bl b => cases (show u = Value.bool b from r); rfl
 | int i => obtain ⟨t, e⟩ := (show ∃ t, u = Value.int i t from r); cases e; rfl
 | str x => obtain ⟨t, e⟩ := (show ∃ t, u = Value.str x t from r); cases e; rfl
 | byt b => obtain ⟨t, e⟩ := (show ∃ t, u = Value.bytes b t from r); cases e; rfl
 | flt b => obtain ⟨t, e⟩ := (show ∃ t, u = Value.float b t from r); cases e; rfl
 | ref a => cases (show u = Value.ref a from r); rfl
 | ty n => cases (show u = Value.type n from r); rfl
def m8 (hok : HOk P w H h) (e : H a = some (.ins C dx fs)) : ∃ mA, ObjM h a dx C mA /\ (∀ f, RelO (fs.lookup f) (mA f)) /\ PySem.Within mA (fs.map (·.1)) /\ fs.length <= 1000 /\ H dx = some (.own a) := by
 obtain ⟨d, z, ne, ob, mA, n, r, q⟩ := (show ObjOk P w H h a (.ins C dx fs) from hok a _ e)
 exact ⟨mA, ⟨ob, n, ne⟩, r, q, z, d⟩
structure Cls (K : W.Frag) (C : Addr) : Prop where
 pg : W.plainGet K C Str.empty = true
 hd : W.hasDictIn K C = true
 po : W.plainOver K C = true
 sa : W.findIn K (.ref C) "__setattr__" = some (some (.builtin "object.__setattr__"))
def Cls.get {K : W.Frag} {C : Addr} (c : Cls K C) (f : Str) : W.plainGet K C f = true := c.pg
def NoAttr (K : W.Frag) (C : Addr) (f : Str) : Prop := W.findIn K (.ref C) f = some none
def NoAttr.taker {K : W.Frag} {C : Addr} {f : Str} (n : NoAttr K C f) : W.takerIn K C f = some none := by
 unfold W.takerIn
 rw [show W.findIn K (.ref C) f = some none from n]
 rfl
structure Meth (K : W.Frag) (C : Addr) (m : Str) (f : Addr) : Prop where
 at_ : W.findIn K (.ref C) m = some (some (.ref f))
 fn : W.isFn K (.ref f) = true
 kp : W.keepIn K (.ref f) = true
def yu (I : Inv X pins σ H s) (e : H a = some (.ins C dx fs)) (c : Cls X.K C) (n : NoAttr X.K C f) (l : fs.lookup f = some v)
  (h : ∀ u s', Inv X pins σ H s' -> RelV v u -> Q u s') : wpAny (model X.prog X.w) A (getAttr (.ref a) f b) Q E s := by
 obtain ⟨mA, O, r, _, _, _⟩ := m8 I.hok e
 obtain ⟨u, hu, ru⟩ := RelO.some_of (v := v) (o := mA f) (by rw [← l]; exact r f)
 exact get_map I.kIn O (c.get f) c.hd n hu (Aag ru) (h u _ (I.tok _) ru)
def kz (I : Inv X pins σ H s) (e : H a = some (.ins C dx fs)) (c : Cls X.K C) (k : Meth X.K C m g) (l : fs.lookup m = none)
  (h : Q (.ref g, [.ref a]) s) : wpAny (model X.prog X.w) A (getMethod (.ref a) m pl) Q E s := by
 obtain ⟨mA, O, r, _, _, _⟩ := m8 I.hok e
 have hn : mA m = none := RelO.none_of (by rw [← l]; exact r m)
 exact Acx I.kIn O (c.get m) k.at_ k.fn hn h
def yc (I : Inv X pins σ H s) (e : H a = some (.ins C dx fs)) (c : Cls X.K C) (n : NoAttr X.K C f) (hl : fs.length < 1000) (ry : RelV y u)
  (h : ∀ s', Inv X pins σ (upd H a (.ins C dx (ou f y fs))) s' -> Q () s') : wpAny (model X.prog X.w) A (setAttr (.ref a) f u) Q E s := by
 obtain ⟨mA, O, r, wi, _, ho⟩ := m8 I.hok e
 have hz : (fs.map (·.1)).length <= sizeLine := by rw [Am9, Aro]; omega
 refine Afd I.kIn O c.sa c.po n.taker c.hd wi hz λ h' O' sb => h _ ?_
 have hd : ∃ o, h'.get? dx = some o := let ⟨o, _, _, e', _⟩ := O'.ns; ⟨o, e'⟩
 refine I.write (x := a) (e := dx) (by rw [e]; exact True.intro) (.inr ho) (λ b q hb z => (sb.2 b hb).trans z) hd ?_
 refine ⟨by rw [An O.ne]; exact ho, ?_, O.ne, O'.obj, _, O'.ns, λ g => ?_, λ g hg => ?_⟩
 · have := h9 f y fs; omega
 ·
  show RelO ((ou f y fs).lookup g) (if g = f then some u else mA g)
  rw [f7]
  by_cases q : g = f
  · rw [if_pos q, if_pos q]; exact ry
  · rw [if_neg q, if_neg q]; exact r g
 ·
  by_cases q : g = f
  · rw [q]; exact (fq f y fs).1
  ·
   refine (fq f y fs).2 g (wi g λ z => hg ?_)
   show (if g = f then some u else mA g) = none
   rw [if_neg q]; exact z
def Inv.made (I : Inv X pins σ H s) : Inv X pins σ (upd (upd H s.heap.objs.size (.own (s.heap.objs.size + 1))) (s.heap.objs.size + 1) (.ins C s.heap.objs.size []))
  { s with heap := (s.heap.push W.emptyDict).push (W.instObj C s.heap.objs.size) } := by
 have e1 : (s.heap.push W.emptyDict).get? s.heap.objs.size = some W.emptyDict := Anc s.heap rfl
 have e2 : ((s.heap.push W.emptyDict).push (W.instObj C s.heap.objs.size)).get? (s.heap.objs.size + 1) = some (W.instObj C s.heap.objs.size) := by
  have := Anc (s.heap.push W.emptyDict) (o := W.instObj C s.heap.objs.size) rfl
  rwa [Aod] at this
 have e3 : (s.heap.push W.emptyDict).Ns s.heap.objs.size (λ _ => none) := ⟨W.emptyDict, #[], _, e1, rfl, (λ e he => absurd he dks), λ _ => rfl⟩
 have I1 := I.laid (a := s.heap.objs.size) (o := .own (s.heap.objs.size + 1)) (h' := s.heap.push W.emptyDict) (t' := s.toks) (λ b u q => Am5 _ q) (Anh _) ⟨_, e1⟩
 refine I1.laid (a := s.heap.objs.size + 1) (o := .ins C s.heap.objs.size []) (t' := s.toks) (λ b u q => Am5 _ q) (Nat.le_of_eq (Aod _ _)) ?_
 have ne : s.heap.objs.size ≠ s.heap.objs.size + 1 := Anm (Aoq _)
 refine ⟨by rw [An ne, Ae], Aon _, ne, e2, λ _ => none, (Heap.Ns1.of_empty e3).at λ o q => Am5 _ q, λ _ => True.intro, λ y hy => absurd rfl hy⟩
def Afn (hb : attributeBase e f env (eval e env) = eval e env)
  (h : wpAny (model prog w) A (eval e env) (λ o s₁ => wpAny (model prog w) A (getAttr o f true) Q E s₁) E s) : wpAny (model prog w) A (eval (.Attribute e f pos) env) Q E s :=
 Attribute_any_ h (by rw [arm_eval_Attribute, hb])
def Alh (K : W.Frag) (ta : TE) (f : Str) : TE := λ σ H Q => ta σ H λ x H1 => ∃ a C dx fs v, x = .ref a /\ H1 a = some (.ins C dx fs) /\ Cls K C /\ NoAttr K C f /\ fs.lookup f = some v /\ Q v H1
def Ala (K : W.Frag) (ta tv : TE) (f : Str) : TS := λ D σ H => tv σ H λ y H1 => ta σ H1 λ x H2 => ∃ a C dx fs, x = .ref a /\ H2 a = some (.ins C dx fs) /\ Cls K C /\ NoAttr K C f /\ fs.length < 1000 /\
 D.nx σ (upd H2 a (.ins C dx (ou f y fs)))
def Aip (he : PE X e ta) (hb : attributeBase e f X.env (eval e X.env) = eval e X.env) : PE X (.Attribute e f pos) (Alh X.K ta f) := by
 intro pins s σ H Q I h
 refine Afn hb (thn (he pins s σ H _ I h) λ u s1 ⟨x, H1, I1, rx, a, C, dx, fs, v, ex, ea, c, n, l, q⟩ => ?_)
 subst ex
 obtain rfl : u = Value.ref a := rx
 exact yu I1 ea c n l λ u' s2 I2 ru => ⟨v, H1, I2, ru, q⟩
def Ah0 (ha : PE X o ta) (hv : PE X value tv) (hs : swapsWith value (some (.Attribute o f pos')) pos.line X.env = pure false) : PS X (.Assign [.Attribute o f pos'] value pos) (Ala X.K ta tv f) := by
 intro pins s σ H D I h
 refine plainObj_wpAny_Assign_Attribute (thn (hv pins s σ H _ I h) λ u s1 ⟨y, H1, I1, ry, q⟩ => thn (ha pins s1 σ H1 _ I1 q) λ ov s2 ⟨x, H2, I2, rx, a, C, dx, fs, ex, ea, c, n, l, q2⟩ => ?_) hs
 subst ex
 obtain rfl : ov = Value.ref a := rx
 exact yc I2 ea c n l ry λ s3 I3 => ⟨σ, _, I3, q2⟩
inductive i3 (K : W.Frag) (H : Hp) : V -> Value -> Prop where
 | non : i3 K H .non (.type "NoneType")
 | bl (x : Bool) : i3 K H (.bl x) (.type "bool")
 | int (i : Int) : i3 K H (.int i) (.type "int")
 | str (x : Str) : i3 K H (.str x) (.type "str")
 | flt (x : UInt64) : i3 K H (.flt x) (.type "float")
 | lst {a : Addr} {xs : List V} (e : H a = some (.lst xs)) : i3 K H (.ref a) (.type "list")
 | frz {a : Addr} {o : Obj} {xs : List V} (e : H a = some (.frz o (.lst xs))) : i3 K H (.ref a) (.type "list")
 | tup {a : Addr} {xs : List V} (e : H a = some (.tup xs)) : i3 K H (.ref a) (.type "tuple")
 | dK {a : Addr} {kvs : List (Key × V)} (e : H a = some (.dK kvs)) : i3 K H (.ref a) (.type "dict")
 | dT {a : Addr} {kvs : List (List Key × V)} (e : H a = some (.dT kvs)) : i3 K H (.ref a) (.type "dict")
 | ins {a C dx : Addr} {fs : List (Str × V)} (e : H a = some (.ins C dx fs)) (cl : Cls K C) (ha : W.findIn K (.ref C) "__class__" = some (some (.builtin "object.__class__")))
  (hn : W.specialIn K (.builtin "object.__class__") "__get__" = some (some (.builtin "getset_descriptor.__get__"))) (htk : W.takesIn K (.builtin "object.__class__") = some true)
  (hm : W.mroIn K C (.type "object") = some true) : i3 K H (.ref a) (.ref C)
theorem Aa3 (I : Inv X pins σ H s) (rx : RelV x u) (ty : i3 X.K H x t) (e : W.kitOne X.K t c = some b) (h : ∀ tk, Q (.bool b) { s with toks := tk }) :
  wpAny (model X.prog X.w) A (call (.builtin "isinstance") [u, c]) Q E s := by
 cases ty with
 | non => cases (show u = Value.none from rx); exact Aqh W.kitx_none I.kIn True.intro e (λ z => nomatch z) h
 | bl y => cases (show u = Value.bool y from rx); exact Aqh W.kitx_bool I.kIn True.intro e (λ z => nomatch z) h
 | int i => obtain ⟨t, q⟩ := (show ∃ t, u = Value.int i t from rx); cases q; exact Aqh W.kitx_int I.kIn True.intro e (λ z => nomatch z) h
 | str y => obtain ⟨t, q⟩ := (show ∃ t, u = Value.str y t from rx); cases q; exact Aqh W.kitx_str I.kIn True.intro e (λ z => nomatch z) h
 | flt y => obtain ⟨t, q⟩ := (show ∃ t, u = Value.float y t from rx); cases q; exact Aqh W.kitx_float I.kIn True.intro e (λ z => nomatch z) h
 |
  @lst a xs ea =>
  cases (show u = Value.ref a from rx)
  obtain ⟨_, _, n, _, h1⟩ := (show ObjOk X.prog X.w H s.heap a (.lst xs) from I.hok a _ ea)
  exact Aqh W.kitx_list I.kIn ⟨_, h1, rfl⟩ e (λ z => nomatch z) h
 |
  @frz a ob xs ea =>
  cases (show u = Value.ref a from rx)
  obtain ⟨_, _, _, n, _, h1⟩ := (show ObjOk X.prog X.w H s.heap a (.frz ob (.lst xs)) from I.hok a _ ea)
  exact Aqh W.kitx_list I.kIn ⟨_, h1, rfl⟩ e (λ z => nomatch z) h
 |
  @tup a xs ea =>
  cases (show u = Value.ref a from rx)
  obtain ⟨_, _, _, p⟩ := (show ObjOk X.prog X.w H s.heap a (.tup xs) from I.hok a _ ea)
  obtain ⟨o, h1, h2, _⟩ := p
  exact Aqh W.kitx_tuple I.kIn ⟨o, h1, h2⟩ e (λ z => nomatch z) h
 |
  @dK a kvs ea =>
  cases (show u = Value.ref a from rx)
  obtain ⟨_, _, vs, _, p⟩ := (show ObjOk X.prog X.w H s.heap a (.dK kvs) from I.hok a _ ea)
  obtain ⟨o, es, ep, h1, h2, _⟩ := p
  exact Aqh W.kitx_dict I.kIn ⟨o, h1, h2.1⟩ e (λ z => nomatch z) h
 |
  @dT a kvs ea =>
  cases (show u = Value.ref a from rx)
  obtain ⟨_, _, xs, _, o, es, ep, h1, h2, _⟩ := (show ObjOk X.prog X.w H s.heap a (.dT kvs) from I.hok a _ ea)
  exact Aqh W.kitx_dict I.kIn ⟨o, h1, h2.1⟩ e (λ z => nomatch z) h
 |
  @ins a C dx fs ea cl ha hn htk hm =>
  cases (show u = Value.ref a from rx)
  obtain ⟨mA, O, _⟩ := m8 I.hok ea
  obtain ⟨od, J, _⟩ := O.look
  exact Aqh (W.kitx_own (cl.get _) cl.hd ha hn htk hm) I.kIn J e (λ z => nomatch z) h
structure Room (cm : Bool) (k : Nat) (A : Around) : Prop where
 hd : cm = true -> A.handled = none
 dp : A.depth + 3 * k + 5 < recursionLimit
 un : A.units + 16 * k + 200 < cLine
def Room.mono (r : Room cm k A) (h : j <= k) : Room cm j A := ⟨r.hd, by have := r.dp; omega, by have := r.un; omega⟩
theorem Room.deeper (r : Room cm (k + 1) A) (env : Env) : Room cm k (A.deeper env) :=
 ⟨r.hd, by have := r.dp; show A.depth + 1 + 3 * k + 5 < _; omega, by have := r.un; show A.units + 3 + 16 * k + 200 < _; omega⟩
def yf {A : Around} {C : Addr} {us : List Value} {kw : List (Str × Value)} : (A.under (.builtin "type.__call__" ⟨.ref C :: us, kw⟩)).depth = A.depth + 1 := by
 first | rfl | simp [Around.under, Code.weight, Code.isCreation, Code.isGuard, Code.isCaller, Code.frames, Code.isFrame, guardIds]
def yn {A : Around} {C : Addr} {us : List Value} {kw : List (Str × Value)} : (A.under (.builtin "type.__call__" ⟨.ref C :: us, kw⟩)).units = A.units + 1 := by
 first | rfl | simp [Around.under, Code.cUnits, Code.frames, Code.isFrame]
def Room.make (r : Room cm (k + 1) A) (C : Addr) (us : List Value) (kw : List (Str × Value)) : Room cm k (A.under (.builtin "type.__call__" ⟨.ref C :: us, kw⟩)) :=
 ⟨r.hd, by have := r.dp; rw [yf]; omega, by have := r.un; rw [yn]; omega⟩
theorem Room.depth (r : Room cm k A) : A.depth < recursionLimit := by have := r.dp; omega
theorem Room.units (r : Room cm k A) : A.units + 64 < cLine := by have := r.un; omega
def Amc : TA := λ _ H Q => Q [] H
def Akr (ta : TE) (tr : TA) : TA := λ σ H Q => ta σ H λ x H1 => tr σ H1 λ xs H2 => Q (x :: xs) H2
def Ad : PA X [] Amc := λ _ _ _ _ H Q I h => Calls.spliced_nil ⟨[], H, I, .nil, h⟩
def Aa (ha : PE X e te) (hr : PA X es t) (hs : starEach (e :: es) X.env = (false, eval e X.env) :: starEach es X.env := by rfl) : PA X (e :: es) (Akr te t) := by
 intro pos pins s σ H Q I h
 rw [hs]
 show wpAny _ _ (spliced ((false, eval e X.env) :: backTo pos (starEach es X.env))) _ _ s
 refine Calls.spliced_cons (thn (ha pins s σ H _ I h) λ u s1 ⟨x, H1, I1, r1, q1⟩ => ?_)
 exact thn (hr pos pins s1 σ H1 _ I1 q1) λ us s2 ⟨xs, H2, I2, r2, q2⟩ => ⟨x :: xs, H2, I2, .cons r1 r2, q2⟩
def Amr (t : TA) : TE := λ σ H Q => t σ H λ xs H1 => xs.length <= sizeLine /\ ∀ p, H1 p = none -> Q (.ref p) (upd H1 p (.tup xs))
def Am0 (t : TA) : TE := λ σ H Q => t σ H λ xs H1 => xs.length <= sizeLine /\ ∀ p, H1 p = none -> Q (.ref p) (upd H1 p (.lst xs))
def Aja {x1} (h : PA X es t) : PE X (.Tuple es x1 pos) (Amr t) := by
 intro pins s σ H Q I hq
 refine wpAny_Tuple_spliced (thn (h pos pins s σ H _ I hq) λ us s1 ⟨xs, H1, I1, r, z, q⟩ => ⟨by rw [← r.length]; exact z, ?_⟩)
 have hf : H1 s1.heap.objs.size = none := I1.hok.fresh (Anh _)
 refine ⟨.ref s1.heap.objs.size, upd H1 s1.heap.objs.size (.tup xs), I1.laid (t' := s1.toks) (λ b u e => Am5 _ e) (Anh _) ?_, rfl, q _ hf⟩
 exact ⟨z, us, r, ⟨_, Anc _ rfl, rfl, _, rfl⟩⟩
def Aiw (h : PA X es t) : PE X (.List es pos) (Am0 t) := by
 intro pins s σ H Q I hq
 refine wpAny_List_spliced (thn (h pos pins s σ H _ I hq) λ us s1 ⟨xs, H1, I1, r, z, q⟩ => ⟨by rw [← r.length]; exact z, ?_⟩)
 have hf : H1 s1.heap.objs.size = none := I1.hok.fresh (Anh _)
 refine ⟨.ref s1.heap.objs.size, upd H1 s1.heap.objs.size (.lst xs), I1.laid (t' := s1.toks) (λ b u e => Am5 _ e) (Anh _) ?_, rfl, q _ hf⟩
 exact ⟨z, us, 0, r, Anc _ rfl⟩
abbrev Sp := List V -> Hp -> VK -> XK -> Prop
abbrev CXT := List Env -> Hp -> Shared -> XK -> Value -> Shared -> Prop
structure Env0 (P : Program) (w : World) (K : W.Frag) (mg : Str -> Option Value) (base : Heap) (A : Around) (outer : List Env) (s : Shared) (H : Hp) : Prop where
 frames : A.frames = some outer
 mod : Mod K mg base
 bs : ∀ b o, base.get? b = some o -> s.heap.get? b = some o /\ H b = none
 bsz : base.objs.size <= s.heap.objs.size
 funs : s.heap.FunFrames base outer
 frf : ∀ b ∈ frs outer, H b = none
 hok : HOk P w H s.heap
 bare : AllBare s.gens
def CE (outer : List Env) (P : Program) (w : World) (H : Hp) (s : Shared) (Q : VK) (u : Value) (s' : Shared) : Prop :=
 ∃ v H', s'.os = s.os /\ AllBare s'.gens /\ Un (frs outer) [] H H' s.heap s'.heap /\ HOk P w H' s'.heap /\ RelV v u /\ Q v H'
def CR (CX : CXT) (outer : List Env) (P : Program) (w : World) (H : Hp) (s : Shared) (Q : VK) (E : XK) (r : Result) (s' : Shared) : Prop :=
 match r with
 | .ok (.ret u) => CE outer P w H s Q u s'
 | .ok _ => False
 | .error e => CX outer H s E e s'
structure FnOk (P : Program) (w : World) (K : W.Frag) (mg : Str -> Option Value) (base : Heap) (CX : CXT) (cm : Bool) (k : Nat) (f : Addr) (fd : FuncData) (ps : List Str) (sp : Sp) : Prop where
 len : ∀ vs H Q E, sp vs H Q E -> vs.length = ps.length
 run : ∀ (A : Around) (outer : List Env) (s : Shared) (H : Hp) (args : Args) (us : List Value) (vs : List V) (Q : VK) (E : XK), Room cm k A -> Env0 P w K mg base A outer s H -> BindsTo s fd args (ps.zip us) -> Vals vs us -> sp vs H Q E ->
  codeAny (model P w) A (.call (.ref f) args) (CR CX outer P w H s Q E) s
theorem FnOk.mono {cm : Bool} {P : Program} {w : World} {K : W.Frag} {mg : Str -> Option Value} {base : Heap} {CX : CXT} {j k : Nat} {f : Addr} {fd : FuncData} {ps : List Str} {sp : Sp} (F : FnOk P w K mg base CX cm j f fd ps sp) (h : j <= k) :
 FnOk P w K mg base CX cm k f fd ps sp := ⟨F.len, λ A outer s H args us vs Q E hr => F.run A outer s H args us vs Q E (hr.mono h)⟩
def FnOk.imp {cm : Bool} {P : Program} {w : World} {K : W.Frag} {mg : Str -> Option Value} {base : Heap} {CX : CXT} {k : Nat} {f : Addr} {fd : FuncData} {ps : List Str} {sp sp' : Sp} (F : FnOk P w K mg base CX cm k f fd ps sp)
  (h : ∀ vs H Q E, sp' vs H Q E -> sp vs H Q E) : FnOk P w K mg base CX cm k f fd ps sp' :=
 ⟨λ vs H Q E q => F.len vs H Q E (h _ _ _ _ q), λ A outer s H args us vs Q E hr he hb hv hs => F.run A outer s H args us vs Q E hr he hb hv (h _ _ _ _ hs)⟩
def Env0.make {P : Program} {w : World} {K : W.Frag} {mg : Str -> Option Value} {base : Heap} {A : Around} {outer : List Env} {s : Shared} {H : Hp} (e : Env0 P w K mg base A outer s H) (C : Addr) (us : List Value) (kw : List (Str × Value)) :
 Env0 P w K mg base (A.under (.builtin "type.__call__" ⟨.ref C :: us, kw⟩)) outer s H := ⟨by first | exact e.frames | (simpa [Around.under, Code.envs, Code.isFrame, pushEnvs] using e.frames), e.mod, e.bs, e.bsz, e.funs, e.frf, e.hok, e.bare⟩
def Inv.env0 (I : Inv X pins σ H s) : Env0 X.prog X.w X.K X.mg X.base X.A X.stack s H :=
 ⟨I.ok.frames, I.ok.mod, I.bs, Anb I.ok.bsz I.sz, I.stack, I.stkFree, I.hok, I.bare⟩
def Inv.after (I : Inv X pins σ H s) (h : CE X.stack X.prog X.w H s Q u s') : EP X pins σ Q u s' := by
 obtain ⟨v, H', os, bare, un, hok, r, q⟩ := h
 obtain ⟨hh, g, d, t, os'⟩ := s'
 obtain rfl : os' = s.os := os
 exact ⟨v, H', I.call (h' := hh) (g' := g) (d' := d) (t' := t) (ch := []) un hok bare (λ b z => absurd z dks), r, q⟩
def Agx (sp : Sp) (dvs : List V) (E : XK) (t : TA) : TE := λ σ H Q => t σ H λ vs H1 => sp (vs ++ dvs) H1 Q E
def Air (C : Addr) (sp : Sp) (dvs : List V) (E : XK) (t : TA) : TE := λ σ H Q => t σ H λ vs H1 => ∀ x dx, H1 x = none -> H1 dx = none -> dx ≠ x ->
 sp (.ref x :: (vs ++ dvs)) (upd (upd H1 dx (.own x)) x (.ins C dx [])) (λ v H2 => v = .non /\ Q (.ref x) H2) E
def Binds (K : W.Frag) (fd : FuncData) (ps : List Str) (ds : List Value) : Prop :=
 ∀ (s : Shared) (us : List Value), K.In s.heap -> (us ++ ds).length = ps.length -> BindsTo s fd ⟨us, []⟩ (ps.zip (us ++ ds))
def Binds.all {K : W.Frag} {fd : FuncData} {ps : List Str} (h : ∀ us : List Value, us.length = ps.length -> bindArgs fd ⟨us, []⟩ = pure (ps.zip us)) : Binds K fd ps [] := λ s us _ hl => by
 rw [Aoc] at hl ⊢
 exact .of_eq (h us hl)
def Passes (CX : CXT) (X : Cx) (E : XK) : Prop := ∀ (pins : List (Addr × Obj)) (σ : St) (H : Hp) (s : Shared) (e : Value) (s' : Shared), Inv X pins σ H s -> CX X.stack H s E e s' -> X.xe e s'
theorem wu {CX : CXT} {cm : Bool} {k : Nat} {f : Addr} {fd : FuncData} {ps : List Str} {sp : Sp} {dvs : List V} {ds : List Value} {E : XK} {pins : List (Addr × Obj)} {σ : St} {H : Hp} {s : Shared} {Q : VK} {us : List Value} {vs : List V} (F : FnOk X.prog X.w X.K X.mg X.base CX cm k f fd ps sp) (hr : Room cm k X.A) (hb : Binds X.K fd ps ds) (hd : Vals dvs ds) (hx : Passes CX X E)
  (I : Inv X pins σ H s) (r : Vals vs us) (h : sp (vs ++ dvs) H Q E) : wpAny (model X.prog X.w) X.A (call (.ref f) us) (EP X pins σ Q) X.xe s := by
 have r2 : Vals (vs ++ dvs) (us ++ ds) := r.append hd
 have hl : (us ++ ds).length = ps.length := by rw [← r2.length]; exact F.len _ _ _ _ h
 refine Aqz (Ao7 (F.run X.A X.stack s H ⟨us, []⟩ (us ++ ds) (vs ++ dvs) Q E hr I.env0 (hb s us I.kIn hl) r2 h) λ r s' hq => ?_)
 cases r with
 | error e => exact hx pins σ H s e s' I hq
 |
  ok fl =>
  cases fl with
  | ret u => exact I.after hq
  | next => exact False.elim hq
  | brk => exact False.elim hq
  | cont => exact False.elim hq
def Agw {CX : CXT} {cm : Bool} {k : Nat} {f : Addr} {fd : FuncData} {ps : List Str} {sp : Sp} {dvs : List V} {ds : List Value} {E : XK} {x : Str} {e : Expr} {es : List Expr} {t : TA} (F : FnOk X.prog X.w X.K X.mg X.base CX cm k f fd ps sp) (hr : Room cm k X.A) (hg : Gl X x) (hm : X.mg x = some (.ref f)) (hk : W.keepIn X.K (.ref f) = true) (hb : Binds X.K fd ps ds) (hd : Vals dvs ds) (hx : Passes CX X E)
  (ha : PA X (e :: es) t) (hdb : (x == ("__debug__" : Str)) = false := by decide) (he : starEach (e :: es) X.env = (false, eval e X.env) :: starEach es X.env := by rfl) (hpl : (backTo pos (starEach es X.env)).any (·.1) = false := by rfl) :
  PE X (.Call (.Name x p) (e :: es) [] pos) (Agx sp dvs E t) := by
 intro pins s σ H Q I h
 refine Ao8 (de I hg hm ?_ hdb)
 refine W.callWith_K (h₀ := X.base) I.ok.mod.kin hk (thn (ha pos pins s σ H _ I h) λ us s1 ⟨vs, H1, I1, r, q⟩ => ⟨I1.kIn, ?_⟩) he hpl
 exact wu F hr hb hd hx I1 r q
structure Mk (K : W.Frag) (C f : Addr) : Prop where
 makes : W.makesIn K C = true
 init : W.findIn K (.ref C) "__init__" = some (some (.ref f))
 fn : W.isFn K (.ref f) = true
 kp : W.keepIn K (.ref C) = true
theorem Acq {CX : CXT} {cm : Bool} {k : Nat} {f C : Addr} {fd : FuncData} {ps : List Str} {sp : Sp} {dvs : List V} {ds : List Value} {E : XK} {pins : List (Addr × Obj)} {σ : St} {H : Hp} {s : Shared} {Q : VK} {us : List Value} {vs : List V} (M : Mk X.K C f) (F : FnOk X.prog X.w X.K X.mg X.base CX cm k f fd ps sp) (hr : Room cm (k + 1) X.A) (hb : Binds X.K fd ps ds) (hd : Vals dvs ds)
  (hx : Passes CX X E) (I : Inv X pins σ H s) (r : Vals vs us)
  (h : ∀ x dx, H x = none -> H dx = none -> dx ≠ x -> sp (.ref x :: (vs ++ dvs)) (upd (upd H dx (.own x)) x (.ins C dx [])) (λ v H2 => v = .non /\ Q (.ref x) H2) E) :
  wpAny (model X.prog X.w) X.A (call (.ref C) us) (EP X pins σ Q) X.xe s := by
 have hq := h (s.heap.objs.size + 1) s.heap.objs.size (I.hok.fresh (Aqo _)) (I.hok.fresh (Anh _)) (Anm (Aoq _))
 have I2 := Inv.made (C := C) I
 have r2 : Vals (V.ref (s.heap.objs.size + 1) :: (vs ++ dvs)) (Value.ref (s.heap.objs.size + 1) :: (us ++ ds)) := .cons rfl (r.append hd)
 have hl : (Value.ref (s.heap.objs.size + 1) :: us ++ ds).length = ps.length := by
  have e := r2.length
  rw [F.len _ _ _ _ hq] at e
  exact e.symm
 refine Aqz (Adl (f := f) I.kIn M.makes M.init (beq_iff_eq.mp M.fn) (Ao7 (F.run _ X.stack _ _ ⟨Value.ref (s.heap.objs.size + 1) :: us, []⟩ (Value.ref (s.heap.objs.size + 1) :: (us ++ ds)) _ _ E (hr.make C us [])
  (I2.env0.make C us []) (hb _ (Value.ref (s.heap.objs.size + 1) :: us) I2.kIn hl) r2 hq) λ r s' hq' => ?_))
 cases r with
 | error e => exact hx pins σ _ _ e s' I2 hq'
 |
  ok fl =>
  cases fl with
  |
   ret u =>
   obtain ⟨v, H', I3, rv, ev, q3⟩ := I2.after hq'
   subst ev
   exact ⟨rv, ⟨V.ref (s.heap.objs.size + 1), H', I3, rfl, q3⟩⟩
  | next => exact False.elim hq'
  | brk => exact False.elim hq'
  | cont => exact False.elim hq'
def Gm {CX : CXT} {cm : Bool} {k : Nat} {f C : Addr} {fd : FuncData} {ps : List Str} {sp : Sp} {dvs : List V} {ds : List Value} {E : XK} {x : Str} {e : Expr} {es : List Expr} {t : TA} (M : Mk X.K C f) (F : FnOk X.prog X.w X.K X.mg X.base CX cm k f fd ps sp) (hr : Room cm (k + 1) X.A) (hg : Gl X x) (hm : X.mg x = some (.ref C)) (hb : Binds X.K fd ps ds) (hd : Vals dvs ds) (hx : Passes CX X E)
  (ha : PA X (e :: es) t) (hdb : (x == ("__debug__" : Str)) = false := by decide) (he : starEach (e :: es) X.env = (false, eval e X.env) :: starEach es X.env := by rfl) (hpl : (backTo pos (starEach es X.env)).any (·.1) = false := by rfl) :
  PE X (.Call (.Name x p) (e :: es) [] pos) (Air C sp dvs E t) := by
 intro pins s σ H Q I h
 refine Ao8 (de I hg hm ?_ hdb)
 refine W.callWith_K (h₀ := X.base) I.ok.mod.kin M.kp (thn (ha pos pins s σ H _ I h) λ us s1 ⟨vs, H1, I1, r, q⟩ => ⟨I1.kIn, ?_⟩) he hpl
 exact Acq M F hr hb hd hx I1 r q
structure Aw (N P : List Str) (sc : Scope) : Prop where
 kind : sc.kind = .function
 co : sc.isCoroutine = false
 gen : sc.isGenerator = false
 nd : N.Nodup
 pre : N.take P.length = P
 par : ∀ x ∈ P, sc.names.lookup x = some .local ∨ sc.names.lookup x = some .cell
 nofree : ∀ y ∈ sc.names, y.2 ≠ .free
theorem rb {kindOf : Str -> Option NameKind} {x : Str} : ∀ {binds : List (Str × Value)} {m : Str -> Option Value}, (∀ v, (x, v) ∉ binds) -> bindL kindOf binds m x = m x
 | [], _, _ => rfl
 |
  (n, v) :: r, m, h => by
  unfold bindL
  rw [rb λ w hw => h w (Ann _ hw)]
  split
  ·
   have : x ≠ n := by rintro rfl; exact h v Ano
   simp [this]
  · rfl
theorem pe {kindOf : Str -> Option NameKind} {x : Str} : ∀ {binds : List (Str × Value)} {m : Str -> Option Value}, (∀ v, (x, v) ∉ binds) -> bindC kindOf binds m x = m x
 | [], _, _ => rfl
 |
  (n, v) :: r, m, h => by
  unfold bindC
  rw [pe λ w hw => h w (Ann _ hw)]
  split
  · rfl
  ·
   have : x ≠ n := by rintro rfl; exact h v Ano
   simp [this]
theorem qg {kindOf : Str -> Option NameKind} {x : Str} {v : Value} : ∀ {P : List Str} {vs : List Value} {i : Nat} {m : Str -> Option Value}, P.Nodup -> P[i]? = some x -> vs[i]? = some v -> kindOf x = some .local ->
  bindL kindOf (P.zip vs) m x = some v
 | [], _, _, _, _, h, _, _ => by simp at h
 | _ :: _, [], _, _, _, _, h, _ => by simp at h
 |
  p :: P, w :: vs, 0, m, nd, h1, h2, hk => by
  simp at h1 h2; subst h1; subst h2
  show bindL kindOf ((p, w) :: P.zip vs) m p = _
  unfold bindL
  rw [rb λ v hv => (Aqp.mp nd).1 (Ap6 hv).1, if_pos hk]
  simp
 |
  p :: P, w :: vs, i + 1, m, nd, h1, h2, hk => by
  show bindL kindOf ((p, w) :: P.zip vs) m x = _
  unfold bindL
  exact qg (i := i) (Aqp.mp nd).2 (by simpa using h1) (by simpa using h2) hk
theorem rz {kindOf : Str -> Option NameKind} {x : Str} {v : Value} : ∀ {P : List Str} {vs : List Value} {i : Nat} {m : Str -> Option Value}, P.Nodup -> P[i]? = some x -> vs[i]? = some v -> kindOf x ≠ some .local ->
  bindC kindOf (P.zip vs) m x = some v
 | [], _, _, _, _, h, _, _ => by simp at h
 | _ :: _, [], _, _, _, _, h, _ => by simp at h
 |
  p :: P, w :: vs, 0, m, nd, h1, h2, hk => by
  simp at h1 h2; subst h1; subst h2
  show bindC kindOf ((p, w) :: P.zip vs) m p = _
  unfold bindC
  rw [pe λ v hv => (Aqp.mp nd).1 (Ap6 hv).1, if_neg hk]
  simp
 |
  p :: P, w :: vs, i + 1, m, nd, h1, h2, hk => by
  show bindC kindOf ((p, w) :: P.zip vs) m x = _
  unfold bindC
  exact rz (i := i) (Aqp.mp nd).2 (by simpa using h1) (by simpa using h2) hk
def start (N : List Str) (vs : List V) : St := vs.map some ++ List.replicate (N.length - vs.length) none
def xn (CX : CXT) (cm : Bool) (P : Program) (w : World) (K : W.Frag) (mg : Str -> Option Value) (base : Heap) (N : List Str) (qual : Str) (scope : Scope) (f : Addr) (cd : Value) (A : Around) (outer : List Env) (s : Shared) (H : Hp) (E : XK) : Cx where
 prog := P
 w := w
 K := K
 mg := mg
 base := base
 A := A.deeper (envOfC qual scope s.heap.objs.size f cd)
 N := N
 s₀ := s
 H₀ := H
 env := envOfC qual scope s.heap.objs.size f cd
 outer := outer
 stack := envOfC qual scope s.heap.objs.size f cd :: outer
 ex := []
 calm := cm
 fn := λ _ => true
 pn := []
 xe := λ e s' => wpAny (model P w) (A.deeper (envOfC qual scope s.heap.objs.size f cd)) (leaving (envOfC qual scope s.heap.objs.size f cd) e) (λ _ s'' => CX outer H s E e s'') (λ e' s'' => CX outer H s E e' s'') s'
def wa {sc : Scope} {n : Nat} {x : Str} (h : sc.names.lookup x = some .cell) : ∃ c, (cellsFrom n sc.names []).lookup x = some c := by
 have q := W.cellsFrom_some sc.names n [] (.inl h)
 exact Aq2.mp q
def o6 {cm : Bool} {CX : CXT} {P : Program} {w : World} {K : W.Frag} {mg : Str -> Option Value} {base : Heap} {N ps : List Str} {qual : Str} {scope : Scope} {f : Addr} {cd : Value} {A : Around} {outer : List Env} {s s1 : Shared} {H : Hp} {E : XK} {us : List Value} {vs : List V}
  (S : Aw N ps scope) (hd : cm = true -> A.handled = none) (e0 : Env0 P w K mg base A outer s H) (hl : vs.length = ps.length) (r : Vals vs us)
  (x : InCallC s s.heap.objs.size (bindL (envOfC qual scope s.heap.objs.size f cd).kindOf (ps.zip us) λ _ => none) (cellsFrom (s.heap.objs.size + 1) scope.names []) (bindC (envOfC qual scope s.heap.objs.size f cd).kindOf (ps.zip us) λ _ => none) s1) :
  Inv (xn CX cm P w K mg base N qual scope f cd A outer s H E) [] (start N vs) H s1 := by
 have hpl : ps.length <= N.length := by have := Apw List.length S.pre; rw [Aoy] at this; omega
 obtain ⟨h1, tk, rfl, hk⟩ := x.done
 have noA : ∀ b : Addr, b ∉ (xn CX cm P w K mg base N qual scope f cd A outer s H E).ex := λ b z => absurd (show b ∈ ([] : List Addr) from z) dks
 refine ⟨⟨e0.mod, S.kind, rfl, rfl, Anh _, λ y z c h1 h2 => ?_, λ y hy => ?_, λ y c _ h => ?_, hd, Around.frames_deeper e0.frames, .inr ⟨rfl, rfl⟩, λ b z => absurd z (noA b), e0.bs, e0.bsz, λ b _ _ => noA b, λ b z => absurd z (noA b), e0.funs, e0.frf⟩,
  rfl, e0.bare, Un.kept hk, ⟨_, x.toInCall.ns, λ i y v h1 h2 h3 => ?_⟩, λ y c h => ⟨_, x.cell y c h⟩, e0.hok.fresh (Anh _), λ y c h => ?_, λ p hp => absurd (show p ∈ ([] : List (Addr × Obj)) from hp) dks, e0.hok.kept hk, ?_⟩
 · exact name_of_addr x.apart (Aok h1) (Aok h2)
 ·
  have hy : scope.names.lookup y = some .cell ∨ scope.names.lookup y = some .free := hy
  rcases hy with hy | hy
  · exact wa hy
  · exact absurd rfl (S.nofree _ (Aok hy))
 · exact Apj (x.above y c (Aok h))
 ·
  have hi : i < vs.length := by
   unfold start at h2
   by_cases hi : i < vs.length
   · exact hi
   ·
    rw [Aqs (by simpa using hi)] at h2
    rw [List.getElem?_replicate] at h2
    split at h2 <;> cases h2
  have ha : vs[i]? = some v := by
   unfold start at h2
   rw [Aqy (by simpa using hi), Anu] at h2
   cases e : vs[i]? with
   | none => rw [e] at h2; cases h2
   | some a => rw [e] at h2; cases h2; rfl
  obtain ⟨u, hu, rv⟩ := r.get ha
  have hp : ps[i]? = some y := by
   rw [← S.pre, List.getElem?_take_of_lt dkm]; exact h1
  have ndP : ps.Nodup := by rw [← S.pre]; exact S.nd.sublist (List.take_sublist _ _)
  refine ⟨u, rv, ?_⟩
  rcases S.par y (Aoa hp) with k | k
  · exact .inl ⟨k, qg ndP hp hu k⟩
  ·
   obtain ⟨c, e⟩ := wa (n := s.heap.objs.size + 1) k
   refine .inr ⟨.inl k, c, e, ?_⟩
   have q := x.cell y c e
   rw [rz ndP hp hu (by show scope.names.lookup y ≠ _; rw [k]; decide)] at q
   exact q
 · exact e0.hok.fresh (Apj (x.above y c (Aok h)))
 ·
  unfold start
  show _ = N.length
  rw [Anj, Am9, List.length_replicate]
  omega
theorem Ah1 {cm : Bool} {CX : CXT} {P : Program} {w : World} {K : W.Frag} {mg : Str -> Option Value} {base : Heap} {k : Nat} {f : Addr} {name qual : Str} {params : Arguments} {body : List Stmt} {scope : Scope} {dV kV doc pm cdv ct oc : Value} {an od : Option Addr}
  {osl : Array (Option Value)} {N ps : List Str} {sp : Sp} (lk : K.lookup f = some ⟨oc, od, .func (W.fnOf name qual params body scope dV kV doc pm an cdv ct), osl⟩) (hcd : W.codeIn K cdv qual = true) (S : Aw N ps scope)
  (len : ∀ vs H Q E, sp vs H Q E -> vs.length = ps.length)
  (hbody : ∀ (A : Around) (outer : List Env) (s : Shared) (H : Hp) (vs : List V) (Q : VK) (E : XK), Room cm k (A.deeper (envOfC qual scope s.heap.objs.size f cdv)) -> sp vs H Q E ->
   ∃ t, PSs (xn CX cm P w K mg base N qual scope f cdv A outer s H E) body t /\ t { nx := λ _ H' => Q .non H', rt := λ _ => Q } (start N vs) H) :
  FnOk P w K mg base CX cm (k + 1) f (W.fnOf name qual params body scope dV kV doc pm an cdv ct) ps sp := by
 refine ⟨len, λ A outer s H args us vs Q E hr e0 hb r hsp => ?_⟩
 have hl := len _ _ _ _ hsp
 have KX : K.In s.heap := e0.mod.kin.keeps λ b o e => (e0.bs b o e).1
 have lim : s.heap.NoLimit := e0.mod.nolimit.keeps λ b o e => (e0.bs b o e).1
 have hkind : ∀ y ∈ ps.zip us, scope.names.lookup y.1 = some .local ∨ (scope.names.lookup y.1 = some .cell /\ ((cellsFrom (s.heap.objs.size + 1) scope.names []).lookup y.1).isSome = true) := λ ⟨n, v⟩ hy => by
  rcases S.par n (Ap6 hy).1 with q | q
  · exact .inl q
  · exact .inr ⟨q, W.cellsFrom_some _ _ _ (.inl q)⟩
 refine codeAny_call_function hr.depth (KX _ _ lk) rfl S.co S.gen rfl (W.codeRec_of KX hcd) (hb _ _ _ _ ?_)
 refine wpAny_newFunctionEnv_cells S.kind hkind λ env he s1 x => ?_
 subst he
 refine ⟨lim.keeps x.toInCall.keep, codeAny_func ?_⟩
 obtain ⟨t, ht, hq⟩ := hbody A outer s H vs Q E (hr.deeper _) hsp
 have I : Inv (xn CX cm P w K mg base N qual scope f cdv A outer s H E) [] (start N vs) H s1 := o6 S hr.hd e0 hl r x
 refine Ao3 (ht [] s1 (start N vs) H _ I hq) (λ fl s' hs => ?_) λ e s' hs => hs
 have fin : ∀ {σ' : St} {H' : Hp} {v : V} {u : Value}, Inv (xn CX cm P w K mg base N qual scope f cdv A outer s H E) [] σ' H' s' -> RelV v u -> Q v H' -> CE outer P w H s Q u s' :=
  λ {σ' H' v u} J rv q => ⟨v, H', J.os, J.bare, J.base, J.hok, rv, q⟩
 cases fl with
 |
  ret u =>
  obtain ⟨v, σ', H', J, rv, q⟩ := hs
  exact fin J rv q
 |
  next =>
  obtain ⟨σ', H', J, q⟩ := hs
  exact fin (v := V.non) (u := Value.none) J rfl q
 |
  brk =>
  obtain ⟨_, _, _, q⟩ := hs
  exact False.elim q
 |
  cont =>
  obtain ⟨_, _, _, q⟩ := hs
  exact False.elim q
def tCB (r : List V -> Hp -> VK -> Prop) (t : TA) : TE := λ σ H Q => t σ H λ vs H1 => r vs H1 Q
def Acr {x : Str} {es : List Expr} {t : TA} {id : String} {r : List V -> Hp -> VK -> Prop} (hc : J0 X (.builtin id) r) (hg : Gl X x) (hm : X.mg x = none) (hv : bootBuiltins x = some (.builtin id)) (ha : PA X (e :: es) t) (hn : x ≠ "__name__" := by decide) (hdb : (x == ("__debug__" : Str)) = false := by decide)
  (he : starEach (e :: es) X.env = (false, eval e X.env) :: starEach es X.env := by rfl) (hpl : (backTo pos (starEach es X.env)).any (·.1) = false := by rfl) : PE X (.Call (.Name x p) (e :: es) [] pos) (tCB r t) := by
 intro pins s σ H Q I h
 refine Ao8 (di I hg hm hv ?_ hn hdb)
 exact PyProof.Rows.callWith_builtin1 (thn (ha pos pins s σ H _ I h) λ us s1 ⟨vs, H1, I1, r1, q1⟩ => hc pins s1 σ H1 vs us Q I1 r1 q1) he hpl
def Aaw (hc : J0 X (.type T) r) (hg : Gl X x) (hm : X.mg x = none) (hv : bootBuiltins x = some (.type T)) (ha : PA X (e :: es) t) (hn : x ≠ "__name__" := by decide) (hdb : (x == ("__debug__" : Str)) = false := by decide)
  (he : starEach (e :: es) X.env = (false, eval e X.env) :: starEach es X.env := by rfl) (hpl : (backTo pos (starEach es X.env)).any (·.1) = false := by rfl) : PE X (.Call (.Name x p) (e :: es) [] pos) (tCB r t) := by
 intro pins s σ H Q I h
 refine Ao8 (di I hg hm hv ?_ hn hdb)
 exact Apa (thn (ha pos pins s σ H _ I h) λ us s1 ⟨vs, H1, I1, r1, q1⟩ => hc pins s1 σ H1 vs us Q I1 r1 q1) he hpl
end L2
namespace HT
open PySem PyProof.Rows
section
open PySem.SeqAt
open PySem.AutoSeq1 (wpAny_loadPart')
open PySem.MeetsSeq PySem.MeetsSeq2 PySem.MeetsSeq3
end
variable {prog : Program} {w : World} {A : Around} {E : Value -> Shared -> Prop} {s : Shared}
def Afr (ht : IsTup s.heap t vs.toArray) (hb : IsTup s.heap b ws.toArray) (hv : vs ≠ [])
  (h1 : ws = [] -> Q (.ref t) s) (h2 : ws ≠ [] -> Q (.ref s.heap.objs.size) { s with heap := s.heap.push { cls := .type "tuple", data := .seq (vs ++ ws).toArray } })
  (hsz : vs.length + ws.length <= sizeLine) : wpAny (model prog w) A (binaryOp .Add (.ref t) (.ref b)) Q E s := by
 obtain ⟨⟨cls, dd, data, sl⟩, ho, hc, n, hd⟩ := id ht
 obtain ⟨⟨cls2, dd2, data2, sl2⟩, ho2, hc2, n2, hd2⟩ := id hb
 simp only at hc hd hc2 hd2
 subst hc hd hc2 hd2
 have e : vs.toArray ++ ws.toArray = (vs ++ ws).toArray := by simp
 by_cases hw : ws = []
 ·
  exact concat_meets ⟨_, ho, rfl⟩ ⟨_, ho2, rfl⟩ noFill_tuple_add seq_tuple_add Arc Aq5 (Aq1 _ _)
   (tuple_addW1 t b vs.toArray ws.toArray n n2 dd dd2 sl sl2 (by simpa using hv) (by simp [hw])) ⟨ho, ho2, h1 hw⟩
 ·
  refine concat_meets ⟨_, ho, rfl⟩ ⟨_, ho2, rfl⟩ noFill_tuple_add seq_tuple_add Arc Aq5 (Aq1 _ _)
   (tuple_addW2 t b vs.toArray ws.toArray n n2 dd dd2 sl sl2 (by simpa using hv) (by simpa using hw) (by rw [Anl, Anl]; exact hsz)) ⟨ho, ho2, ?_⟩
  rw [e]
  exact h2 hw
def sIx (n d : Nat) : Option Int -> Nat
 | none => d
 | some v => if v < 0 then (v + (n : Int)).toNat else min v.toNat n
def uz (n d k : Nat) : sIx n d (some (k : Int)) = min k n := by
 show (if (k : Int) < 0 then ((k : Int) + (n : Int)).toNat else min (k : Int).toNat n) = min k n
 rw [if_neg dkm, Aoe]
theorem Ai8 (n d : Nat) (hd : d <= n) (o : Option Int) : sIx n d o <= n := by
 cases o with
 | none => exact hd
 |
  some v =>
  show (if v < 0 then (v + (n : Int)).toNat else min v.toNat n) <= n
  by_cases hv : v < 0
  · rw [if_pos hv]; omega
  · rw [if_neg hv]; exact Asb _ _
def Aat (v : Int) (n d : Nat) : (if v < 0 then max (v + (n : Int)) 0 else min v (n : Int)) = ((sIx n d (some v) : Nat) : Int) := by
 show (if v < 0 then max (v + (n : Int)) 0 else min v (n : Int)) = (((if v < 0 then (v + (n : Int)).toNat else min v.toNat n) : Nat) : Int)
 by_cases hv : v < 0
 · simp only [if_pos hv]; omega
 · simp only [if_neg hv]; omega
def yy (lo hi : Option Int) (n : Nat) : Builtin.Slice.sliceAdjust lo hi 1 (n : Int) = (((sIx n 0 lo : Nat) : Int), ((sIx n n hi : Nat) : Int)) := by
 have h1 : ¬ ((1 : Int) < 0) := by omega
 unfold Builtin.Slice.sliceAdjust
 simp only [h1, if_false]
 refine Prod.ext ?_ ?_
 ·
  cases lo with
  | none => rfl
  | some v => exact Aat v n 0
 ·
  cases hi with
  | none => rfl
  | some v => exact Aat v n n
def yo (i j : Nat) : Builtin.Slice.slicePlaces (i : Int) (j : Int) 1 = j - i := by
 unfold Builtin.Slice.slicePlaces
 have h1 : (1 : Int) > 0 := by omega
 simp only [h1, if_true, Int.ediv_one]
 split <;> omega
theorem ki (p : IsPart v o) (h : Q o s) : wpAny (model prog w) A (Builtin.Slice.slicePartIndex v) Q E s := by
 cases p with
 | none => exact slicePart_none h
 | int i t => exact slicePart_int h
def Sa {sl : Addr} {vl vu : Value} {lo hi : Option Int} {n : Nat} {Q : Int × Int × Nat -> Shared -> Prop} (hs : s.heap.IsSliceOf sl vl vu .none) (pl : IsPart vl lo) (pu : IsPart vu hi)
  (h : Q (((sIx n 0 lo : Nat) : Int), 1, sIx n n hi - sIx n 0 lo) s) : wpAny (model prog w) A (Builtin.Slice.sliceApplied (.ref sl) (pure (n : Int))) Q E s := by
 obtain ⟨os, hos, hcs, hds⟩ := id hs
 unfold Builtin.Slice.sliceApplied Builtin.Slice.sliceFields
 refine Am4 (Am4 (Aol hos hds (x := vl) rfl (Am4 (Aol hos hds (x := vu) rfl (Am4 (Aol hos hds (x := .none) rfl (Am7 ?_)))))))
 refine Am4 (slicePart_none ?_)
 show wpAny _ _ (if ((1 : Int) == 0) = true then _ else _) _ _ s
 rw [if_neg dkd]
 refine Am4 (ki pl (Am4 (ki pu (Am4 (Am7 ?_)))))
 show wpAny _ _ (match Builtin.Slice.sliceAdjust lo hi 1 (n : Int) with | (lo, hi) => pure (lo, (1 : Int), Builtin.Slice.slicePlaces lo hi 1)) _ _ s
 rw [yy lo hi n]
 show wpAny _ _ (pure (((sIx n 0 lo : Nat) : Int), (1 : Int), Builtin.Slice.slicePlaces ((sIx n 0 lo : Nat) : Int) ((sIx n n hi : Nat) : Int) 1)) _ _ s
 rw [yo]
 exact Am7 h
def Acw (xs : Array Value) (i k : Nat) : ((List.range k).filterMap λ (m : Nat) => xs[((i : Int) + (m : Int) * 1).toNat]?).toArray = ((xs.toList.drop i).take k).toArray := by
 have e : (λ (m : Nat) => xs[((i : Int) + (m : Int) * 1).toNat]?) = λ m => xs[i + m]? := by
  funext m
  have : ((i : Int) + (m : Int) * 1).toNat = i + m := by omega
  rw [this]
 rw [e]
 have := pick_run xs i k
 rw [List.filterMap_map] at this
 have e2 : ((λ x => xs[x]?) ∘ λ x => i + x) = λ m => xs[i + m]? := rfl
 rw [e2] at this
 rw [this]
def X7 {t sl : Addr} {items : Array Value} {vl vu : Value} {lo hi : Option Int} {Q : Value -> Shared -> Prop} (ht : IsTup s.heap t items) (hs : s.heap.IsSliceOf sl vl vu .none) (pl : IsPart vl lo) (pu : IsPart vu hi)
  (hw : ¬ (sIx items.size 0 lo = 0 /\ sIx items.size items.size hi = items.size))
  (h : Q (.ref s.heap.objs.size) { s with heap := s.heap.push { cls := .type "tuple", data := .seq ((items.toList.drop (sIx items.size 0 lo)).take (sIx items.size items.size hi - sIx items.size 0 lo)).toArray } })
  (hsz : items.size <= sizeLine) : wpAny (model prog w) A (getItem (.ref t) (.ref sl)) Q E s := by
 have htake : sizeOk (.seq ((items.toList.drop (sIx items.size 0 lo)).take (sIx items.size items.size hi - sIx items.size 0 lo)).toArray) := by
  show ((items.toList.drop (sIx items.size 0 lo)).take (sIx items.size items.size hi - sIx items.size 0 lo)).toArray.size <= sizeLine
  rw [Anl, Aoy, Asc, An4]
  omega
 have hj : sIx items.size items.size hi <= items.size := Ai8 _ _ (Anh _) hi
 obtain ⟨os, hos, hcs, hds⟩ := id hs
 have hTs : s.TypeIs (.ref sl) "slice" := ⟨os, hos, hcs⟩
 unfold getItem
 try with_reducible refine Aou ?_
 first | refine Am4 (Am7 ?_) | skip
 refine Am4 (wpAny_sequenceKey ht.typeIs dkd ?_)
 refine Am4 (wpAny_callSpecial?_slot (name := Str.ofString "__getitem__") ht.typeIs Apf
  (Aoh Apf ht.typeIs entry_tuple_getitem ?_ (args_tuple_getitem _ _)))
 show wpAny _ _ (Builtin.Tuple.tupleItemsOf (.ref t) >>= _) _ _ s
 refine Am4 (tupleItemsOf_ ht ?_)
 refine Am4 (Aq8 hTs ?_)
 rw [if_pos dkd]
 refine Am4 (Sa hs pl pu ?_)
 have hno : ¬ ((((sIx items.size 0 lo : Nat) : Int) == 0 && (1 : Int) == 1 && (sIx items.size items.size hi - sIx items.size 0 lo) == items.size) = true) := by
  intro q
  rw [Ani, Ani] at q
  have q1 : ((sIx items.size 0 lo : Nat) : Int) = 0 := eq_of_beq q.1.1
  have q2 : sIx items.size items.size hi - sIx items.size 0 lo = items.size := eq_of_beq q.2
  exact hw ⟨dkm, dkm⟩
 show wpAny _ _ (if (((sIx items.size 0 lo : Nat) : Int) == 0 && (1 : Int) == 1 && (sIx items.size items.size hi - sIx items.size 0 lo) == items.size) = true then _ else _) _ _ s
 rw [if_neg hno, Acw]
 first
  | exact Am4 (m := Builtin.Tuple.tupleExact _) (An8 (Am7 ⟨_, rfl, Am7 h⟩) htake)
  | exact Am4 (m := Builtin.Tuple.tupleExact _) (An8 (Am4 (Am7 (Am7 ⟨_, rfl, Am7 h⟩))) htake)
  | exact Am4 (Am4 (m := Builtin.Tuple.tupleExact _) (An8 (Am7 (Am7 ⟨_, rfl, Am7 h⟩)) htake))
  | exact Am4 (Am4 (m := Builtin.Tuple.tupleExact _) (An8 (Am7 ⟨_, rfl, Am7 h⟩) htake))
end HT
namespace L2
open PySem PySem.Spec PyProof.Rows
abbrev TO := St -> Hp -> (Option Int -> Hp -> Prop) -> Prop
def PO (X : Cx) (e : Option Expr) (t : TO) : Prop :=
 ∀ (pins : List (Addr × Obj)) (s : Shared) (σ : St) (H : Hp) (Q : Option Int -> Hp -> Prop), Inv X pins σ H s -> t σ H Q ->
  wpAny (model X.prog X.w) X.A (evalPart e X.env) (λ u s' => ∃ o H', Inv X pins σ H' s' /\ IsPart u o /\ Q o H') X.xe s
def Afg : TO := λ _ H Q => Q none H
def Akq (t : TE) : TO := λ σ H Q => t σ H λ x H1 => ∃ i, x = .int i /\ Q (some i) H1
theorem intsAre_of : ∀ {us : List Value}, Vals (ns.map V.int) us -> IntsAre us ns := by
 induction ns with
 | nil => intro us r; rw [Aqv] at r; cases r; exact .nil
 |
  cons n ns ih =>
  intro us r
  rw [An9] at r
  cases r with
  |
   cons r1 r2 =>
   obtain ⟨t, e⟩ := r1
   subst e
   exact .cons n t (ih r2)
variable {X : Cx}
def Ab2 : PO X none Afg := by
 intro pins s σ H Q I h
 rw [evalPart_none]
 exact Am7 ⟨none, H, I, .none, h⟩
def lu (h : PE X e te) : PO X (some e) (Akq te) := by
 intro pins s σ H Q I hw
 rw [evalPart_some]
 refine thn (h pins s σ H _ I hw) λ u s1 ⟨x, H1, I1, r1, q1⟩ => ?_
 obtain ⟨i, rfl, q⟩ := q1
 obtain ⟨t, rfl⟩ := r1
 exact ⟨some i, H1, I1, .int i t, q⟩
def SlR (X : Cx) (r : V -> Option Int -> Option Int -> Hp -> VK -> Prop) : Prop :=
 ∀ (pins : List (Addr × Obj)) (s : Shared) (σ : St) (H : Hp) (x : V) (v vl vu : Value) (lo hi : Option Int) (sl : Addr) (Q : VK), Inv X pins σ H s -> RelV x v -> s.heap.IsSliceOf sl vl vu .none -> IsPart vl lo -> IsPart vu hi -> r x lo hi H Q ->
  ∃ T id, typeLookup (.type T) "__getitem__" = pure (some (.builtin id)) /\ s.TypeIs v T /\ wpAny (model X.prog X.w) X.A (getItem v (.ref sl)) (EP X pins σ Q) X.xe s
def tSl (r : V -> Option Int -> Option Int -> Hp -> VK -> Prop) (te : TE) (tl th : TO) : TE := λ σ H Q => te σ H λ x H1 => tl σ H1 λ l H2 => th σ H2 λ u H3 => r x l u H3 Q
def me {e : Expr} {te : TE} {lo hi : Option Expr} {tl th : TO} {pos p2 : Pos} {r : V -> Option Int -> Option Int -> Hp -> VK -> Prop} (hr : SlR X r) (he : PE X e te) (hl : PO X lo tl) (hu : PO X hi th) : PE X (.Subscript e (.Slice lo hi none p2) pos) (tSl r te tl th) := by
 intro pins s σ H Q I h
 refine Subscript_ (thn (he pins s σ H _ I h) λ v s1 ⟨x, H1, I1, r1, q1⟩ => ?_)
 refine wpAny_Slice (thn (hl pins s1 σ H1 _ I1 q1) λ vl s2 ⟨l, H2, I2, pl, q2⟩ => thn (hu pins s2 σ H2 _ I2 q2) λ vu s3 ⟨u, H3, I3, pu, q3⟩ => ?_)
 rw [evalPart_none]
 refine Am7 ?_
 have I4 : Inv X pins σ H3 { s3 with heap := s3.heap.push { cls := .type "slice", data := .fields #[vl, vu, .none] } } := I3.kept (t' := s3.toks) λ b ob q => Am5 _ q
 obtain ⟨T, id, hT, ht, hg⟩ := hr pins { s3 with heap := s3.heap.push { cls := .type "slice", data := .fields #[vl, vu, .none] } } σ H3 x v vl vu l u s3.heap.objs.size Q I4 r1 (Heap.IsSliceOf.new ..) pl pu q3
 show wpAny (model X.prog X.w) X.A (subscriptTail e (.Slice lo hi none p2) v (.ref s3.heap.objs.size)) (EP X pins σ Q) X.xe { s3 with heap := s3.heap.push { cls := .type "slice", data := .fields #[vl, vu, .none] } }
 exact tail_any (ops := [.ref s3.heap.objs.size, v]) ht hT hg (by with_unfolding_all rfl)
def xx (xs : List V) (lo hi : Option Int) : List V := (xs.drop (HT.sIx xs.length 0 lo)).take (HT.sIx xs.length xs.length hi - HT.sIx xs.length 0 lo)
def uf (xs : List V) (lo hi : Option Int) : (xx xs lo hi).length <= xs.length := by
 unfold xx
 rw [Aoy, Asc]
 omega
def Alc (K : W.Frag) : V -> Option Int -> Option Int -> Hp -> VK -> Prop := λ x lo hi H Q => ∃ a xs, x = .ref a /\ SqT K H a xs /\
 ¬ (HT.sIx xs.length 0 lo = 0 /\ HT.sIx xs.length xs.length hi = xs.length) /\ ∀ p, H p = none -> Q (.ref p) (upd H p (.tup (xx xs lo hi)))
def Aev : SlR X (Alc X.K) := by
 intro pins s σ H x v vl vu lo hi sl Q I rx hs pl pu h
 obtain ⟨a, xs, rfl, hx, hw, q⟩ := h
 cases rx
 obtain ⟨its, r, ht, hz⟩ := I.tuple hx
 have hlen : its.toArray.size = xs.length := by rw [Anl]; exact r.length.symm
 refine ⟨"tuple", _, PyProof.Rows.slot_tuple_getitem.lookup, ht.typeIs, ?_⟩
 refine HT.X7 ht hs pl pu (by rw [hlen]; exact hw) ?_ (by rw [hlen]; exact hz)
 rw [hlen]
 refine ⟨.ref s.heap.objs.size, _, I.laid (t' := s.toks) (o := .tup (xx xs lo hi)) (λ b ob q => Am5 _ q) (Anh _) ?_, rfl, q _ (I.hok.fresh (Anh _))⟩
 exact ⟨Anb (uf xs lo hi) hz, _, (r.drop (HT.sIx xs.length 0 lo)).take (HT.sIx xs.length xs.length hi - HT.sIx xs.length 0 lo), IsTup.new _ _⟩
def Akj (K : W.Frag) : R2 := λ x y H Q => ∃ a b xs ys, x = .ref a /\ y = .ref b /\ SqT K H a xs /\ SqT K H b ys /\ xs ≠ [] /\ xs.length + ys.length <= sizeLine /\
 (ys = [] -> Q (.ref a) H) /\ (ys ≠ [] -> ∀ p, H p = none -> Q (.ref p) (upd H p (.tup (xs ++ ys))))
theorem Vals.nil_iff (r : Vals xs us) : us = [] ↔ xs = [] := by
 cases r with
 | nil => simp
 | cons _ _ => simp
def Afk : OpR X (binaryOp .Add) (Akj X.K) := by
 intro pins s σ H x y v u Q I rx ry h
 obtain ⟨a, b, xs, ys, rfl, rfl, ha, hb, hx, hz, q1, q2⟩ := h
 cases rx
 cases ry
 obtain ⟨its, r1, p1, _⟩ := I.tuple ha
 obtain ⟨its2, r2, p2, _⟩ := I.tuple hb
 refine HT.Afr p1 p2 (λ z => hx (r1.nil_iff.mp z)) (λ z => ⟨.ref a, H, I, rfl, q1 (r2.nil_iff.mp z)⟩) (λ z => ?_) (by rw [← r1.length, ← r2.length]; exact hz)
 refine ⟨.ref s.heap.objs.size, _, I.laid (t' := s.toks) (o := .tup (xs ++ ys)) (λ b ob q => Am5 _ q) (Anh _) ?_, rfl, q2 (λ w => z (r2.nil_iff.mpr w)) _ (I.hok.fresh (Anh _))⟩
 exact ⟨by rw [Anj]; exact hz, _, r1.append r2, IsTup.new _ _⟩
def ixN (n : Nat) (i : Int) : Option Nat := if 0 <= i then (if i < n then some i.toNat else none) else if -(n : Int) <= i then some (i + n).toNat else none
def atI {α : Type} (xs : List α) (i : Int) : Option α := (ixN xs.length i).bind λ j => xs[j]?
def Af9 (h : ixN n i = some j) : seqIndex? i n = some j /\ j < n /\ -(n : Int) <= i /\ i < n := by
 unfold ixN at h
 by_cases h0 : 0 <= i
 ·
  rw [if_pos h0] at h
  by_cases h1 : i < n
  ·
   rw [if_pos h1] at h
   have e : i.toNat = j := An7 h
   exact ⟨by rw [seqIndex_of h0 h1, e], dkm, dkm, h1⟩
  · rw [if_neg h1] at h; cases h
 ·
  rw [if_neg h0] at h
  by_cases h1 : -(n : Int) <= i
  ·
   rw [if_pos h1] at h
   have e : (i + n).toNat = j := An7 h
   exact ⟨by rw [seqIndex_neg dkm h1, e], dkm, h1, dkm⟩
  · rw [if_neg h1] at h; cases h
theorem z9 (h : atI xs i = some v) : ∃ j, seqIndex? i xs.length = some j /\ xs[j]? = some v /\ j < xs.length /\ -(xs.length : Int) <= i /\ i < xs.length := by
 unfold atI at h
 cases e : ixN xs.length i with
 | none => rw [e] at h; cases h
 |
  some j =>
  rw [e] at h
  obtain ⟨h1, h2, h3, h4⟩ := Af9 e
  exact ⟨j, h1, h, h2, h3, h4⟩
def Q1 {α : Type} {xs : List α} {j : Nat} {v : α} (h : xs[j]? = some v) : atI xs (j : Int) = some v := by
 have hj : j < xs.length := (Ang.mp h).1
 have e : ixN xs.length (j : Int) = some j := by
  unfold ixN
  rw [if_pos dkm, if_pos dkm]; simp
 unfold atI; rw [e]; exact h
def vt (b : Expr) : Prop := ∀ o i, subscripted b false o i = operate [o, i] (getItem o i)
def IxR (X : Cx) (r : R2) : Prop :=
 ∀ (value slice : Expr) (pins : List (Addr × Obj)) (s : Shared) (σ : St) (H : Hp) (x y : V) (v u : Value) (Q : VK), Inv X pins σ H s -> RelV x v -> RelV y u -> r x y H Q ->
  subscripted slice false v u = operate [v, u] (getItem v u) -> wpAny (model X.prog X.w) X.A (subscriptTail value slice v u) (EP X pins σ Q) X.xe s
def MtR (X : Cx) (id : String) (r : V -> List V -> Hp -> VK -> Prop) : Prop :=
 ∀ (pins : List (Addr × Obj)) (s : Shared) (σ : St) (H : Hp) (x : V) (xs : List V) (v : Value) (us : List Value) (Q : VK), Inv X pins σ H s -> RelV x v -> Vals xs us -> r x xs H Q ->
  wpAny (model X.prog X.w) X.A (call (.builtin id) (v :: us)) (EP X pins σ Q) X.xe s
def Ag8 (hr : IxR X r) (ha : PE X a ta) (hb : PE X b tb) (hs : vt b) : PE X (.Subscript a b pos) (tOp r ta tb) := by
 intro pins s σ H Q I h
 exact Subscript_ (Akv ha hb I h λ v u s2 x y H2 I2 rx ry q => hr a b pins s2 σ H2 x y v u Q I2 rx ry q (hs _ _))
def Alj (K : W.Frag) : R2 := λ x y H Q => ∃ p xs i v, x = .ref p /\ y = .int i /\ SqL K H p xs /\ atI xs i = some v /\ Q v H
def Alk (K : W.Frag) : R2 := λ x y H Q => ∃ p xs i v, x = .ref p /\ y = .int i /\ SqT K H p xs /\ atI xs i = some v /\ Q v H
def Afb : IxR X (Alj X.K) := by
 intro value slice pins s σ H x y v u Q I rx ry h hs
 obtain ⟨p, xs, i, z, rfl, rfl, hq, he, q⟩ := h
 cases rx
 obtain ⟨t, rfl⟩ := ry
 obtain ⟨its, r, pl, hz⟩ := I.list hq
 obtain ⟨j, h1, h2, h3, h4, h5⟩ := z9 he
 obtain ⟨w, ew, rw'⟩ := r.get h2
 have hl := r.length
 have hn := vz
 have fin : EP X pins σ Q w s := ⟨z, H, I, rw', q⟩
 by_cases h0 : 0 <= i
 ·
  have hj : i.toNat = j := by
   rw [seqIndex_of h0 h5] at h1
   exact An7 h1
  exact item_listR pl.isList h0 dkm (by rw [hj]; simpa using ew) fin hs
 ·
  have hj : (i + (its.toArray.size : Int)).toNat = j := by
   rw [seqIndex_neg dkm h4] at h1
   rw [Anl, ← hl]
   exact An7 h1
  exact subscriptTail_builtinR (x := w) pl.isList.typeIs slot_list_getitem.lookup
   (wpAny_getItem_list_neg (Q := λ r s' => r = w /\ EP X pins σ Q r s') pl.isList dkm (by rw [Anl] <;> omega) dkm (by rw [hj]; simpa using ew) ⟨rfl, fin⟩) hs
def Ah2 : IxR X (Alk X.K) := by
 intro value slice pins s σ H x y v u Q I rx ry h hs
 obtain ⟨p, xs, i, z, rfl, rfl, hq, he, q⟩ := h
 cases rx
 obtain ⟨t, rfl⟩ := ry
 obtain ⟨its, r, pl, hz⟩ := I.tuple hq
 obtain ⟨j, h1, h2, h3, h4, h5⟩ := z9 he
 obtain ⟨w, ew, rw'⟩ := r.get h2
 have hl := r.length
 have hn := vz
 have fin : EP X pins σ Q w s := ⟨z, H, I, rw', q⟩
 exact subscriptTail_builtinR (x := w) pl.typeIs slot_tuple_getitem.lookup
  (getItem_tuple (j := j) (Q := λ r s' => r = w /\ EP X pins σ Q r s') pl dkm dkm (by rw [Anl, ← hl]; exact h1) (by simpa using ew) ⟨rfl, fin⟩) hs
def nk : V -> Bool
 | .non => true
 | .bl _ => true
 | .int _ => true
 | .str _ => true
 | _ => false
def eqV : V -> V -> Bool
 | .non, .non => true
 | .bl a, .bl b => a == b
 | .bl a, .int b => (if a then 1 else 0) == b
 | .int a, .bl b => a == (if b then 1 else 0)
 | .int a, .int b => a == b
 | .str a, .str b => a == b
 | _, _ => false
theorem Aix (ry : RelV y u) (rx : RelV x v) (fy : nk y = true) (fx : nk x = true) : SeqAt.EqAt A s u v (eqV y x) := by
 cases y with
 |
  non =>
  cases ry
  cases x with
  | non => cases rx; exact SeqAt.EqAt.same _
  | bl b => cases rx; exact SeqAt.EqAt.none_bool b
  | int b => obtain ⟨t, rfl⟩ := rx; exact SeqAt.EqAt.none_int b t
  | str b => obtain ⟨t, rfl⟩ := rx; exact SeqAt.EqAt.none_str b t
  | _ => exact absurd (show false = true from fx) Anr
 |
  bl a =>
  cases ry
  cases x with
  | non => cases rx; exact SeqAt.EqAt.bool_none a
  | bl b => cases rx; exact SeqAt.EqAt.bool_bool a b
  | int b => obtain ⟨t, rfl⟩ := rx; exact SeqAt.EqAt.bool_int a b t
  | str b => obtain ⟨t, rfl⟩ := rx; exact SeqAt.EqAt.bool_str a b t
  | _ => exact absurd (show false = true from fx) Anr
 |
  int a =>
  obtain ⟨t', rfl⟩ := ry
  cases x with
  | non => cases rx; exact SeqAt.EqAt.int_none a t'
  | bl b => cases rx; exact SeqAt.EqAt.int_bool a t' b
  | int b => obtain ⟨t, rfl⟩ := rx; exact SeqAt.EqAt.int_int a t' b t
  | str b => obtain ⟨t, rfl⟩ := rx; exact SeqAt.EqAt.int_str a t' b t
  | _ => exact absurd (show false = true from fx) Anr
 |
  str a =>
  obtain ⟨t', rfl⟩ := ry
  cases x with
  | non => cases rx; exact SeqAt.EqAt.str_none a t'
  | bl b => cases rx; exact SeqAt.EqAt.str_bool a t' b
  | int b => obtain ⟨t, rfl⟩ := rx; exact SeqAt.EqAt.str_int a t' b t
  | str b => obtain ⟨t, rfl⟩ := rx; exact SeqAt.EqAt.str_str a t' b t
  | _ => exact absurd (show false = true from fx) Anr
 | _ => exact absurd (show false = true from fy) Anr
def eqU (x : V) (u : Value) : Bool := match u with
 | .none => eqV .non x
 | .bool b => eqV (.bl b) x
 | .int i _ => eqV (.int i) x
 | .str z _ => eqV (.str z) x
 | _ => false
theorem Aei (r : RelV y u) (f : nk y = true) : eqU x u = eqV y x := by
 cases y with
 | non => cases r; rfl
 | bl b => cases r; rfl
 | int i => obtain ⟨t, rfl⟩ := r; rfl
 | str z => obtain ⟨t, rfl⟩ := r; rfl
 | _ => exact absurd (show false = true from f) Anr
theorem dw : ∀ {xs : List V} {us : List Value}, Vals xs us -> xs.all nk = true -> us.any (eqU x) = xs.any λ y => eqV y x
 | _, _, .nil, _ => rfl
 |
  y :: xs, u :: us, .cons r t, f => by
  rw [List.all_cons, Ani] at f
  rw [Aql, Aql, Aei r f.1, dw t f.2]
theorem Xg (rx : RelV x v) (fx : nk x = true) : ∀ {xs : List V} {us : List Value}, Vals xs us -> xs.all nk = true -> ∀ u ∈ us, SeqAt.EqAt A s u v (eqU x u)
 | _, _, .nil, _ => λ u hu => by cases hu
 |
  y :: xs, u :: us, .cons r t, f => λ u' hu => by
  rw [List.all_cons, Ani] at f
  rcases Anf.mp hu with rfl | hu
  · rw [Aei r f.1]; exact Aix r rx f.1 fx
  · exact Xg rx fx t f.2 u' hu
def inV (x : V) (xs : List V) : Bool := xs.any λ y => eqV y x
def rIn (K : W.Frag) (neg : Bool) : R2 := λ x y H Q => ∃ p xs, y = .ref p /\ (SqL K H p xs ∨ SqT K H p xs) /\ nk x = true /\ xs.all nk = true /\ Q (.bl (if neg then !inV x xs else inV x xs)) H
def Ab7 : OpR X (compareOp .In) (rIn X.K false) := by
 intro pins s σ H x y v u Q I rx ry h
 obtain ⟨p, xs, rfl, hq, fx, fs, q⟩ := h
 cases ry
 rcases hq with hq | hq
 ·
  obtain ⟨its, r, pl, hz⟩ := I.list hq
  refine SeqAt.in_listAt (eqU x) pl.isList (λ w hw => Xg rx fx r fs w (by simpa using hw)) ⟨.bl _, H, I, rfl, ?_⟩
  rw [show its.toArray.any (eqU x) = its.any (eqU x) by simp, dw r fs]
  exact q
 ·
  obtain ⟨its, r, pl, hz⟩ := I.tuple hq
  refine SeqAt.in_tupleAt (eqU x) pl (λ w hw => Xg rx fx r fs w (by simpa using hw)) ⟨.bl _, H, I, rfl, ?_⟩
  rw [show its.toArray.any (eqU x) = its.any (eqU x) by simp, dw r fs]
  exact q
def qo : OpR X (compareOp .NotIn) (rIn X.K true) := by
 intro pins s σ H x y v u Q I rx ry h
 obtain ⟨p, xs, rfl, hq, fx, fs, q⟩ := h
 cases ry
 rcases hq with hq | hq
 ·
  obtain ⟨its, r, pl, hz⟩ := I.list hq
  refine SeqAt.notIn_listAt (eqU x) pl.isList (λ w hw => Xg rx fx r fs w (by simpa using hw)) ⟨.bl _, H, I, rfl, ?_⟩
  rw [show its.toArray.any (eqU x) = its.any (eqU x) by simp, dw r fs]
  exact q
 ·
  obtain ⟨its, r, pl, hz⟩ := I.tuple hq
  refine SeqAt.notIn_tupleAt (eqU x) pl (λ w hw => Xg rx fx r fs w (by simpa using hw)) ⟨.bl _, H, I, rfl, ?_⟩
  rw [show its.toArray.any (eqU x) = its.any (eqU x) by simp, dw r fs]
  exact q
def qt : J0 X (.builtin "len") (λ xs H Q => ∃ p ys, xs = [.ref p] /\ (SqL X.K H p ys ∨ SqT X.K H p ys) /\ Q (.int ys.length) H) := by
 intro pins s σ H xs us Q I r h
 obtain ⟨p, ys, rfl, hq, q⟩ := h
 obtain ⟨u, rfl, rx⟩ := vals1 r
 cases rx
 have hn := vz
 rcases hq with hq | hq
 ·
  obtain ⟨its, r', pl, hz⟩ := I.list hq
  have hlen := r'.length
  exact Calls.call_len_list pl.isList (by simp only [Anl] <;> omega) ⟨.int ys.length, H, I.tok _, ⟨s.toks + 1, by rw [Anl, hlen]⟩, q⟩
 ·
  obtain ⟨its, r', pl, hz⟩ := I.tuple hq
  have hlen := r'.length
  exact len_tuple pl (by simp only [Anl] <;> omega) ⟨.int ys.length, H, I.tok _, ⟨s.toks + 1, by rw [Anl, hlen]⟩, q⟩
def rj : J0 X (.type "list") (λ xs H Q => ∃ p ys, xs = [.ref p] /\ (SqL X.K H p ys ∨ SqT X.K H p ys) /\ ∀ l, H l = none -> Q (.ref l) (upd H l (.lst ys))) := by
 intro pins s σ H xs us Q I r h
 obtain ⟨p, ys, rfl, hq, q⟩ := h
 obtain ⟨u, rfl, rx⟩ := vals1 r
 cases rx
 have fin : ∀ (its : List Value), Vals ys its -> ys.length <= sizeLine -> ∀ (h' : Heap) (c' : Nat), (∀ b o', s.heap.get? b = some o' -> h'.get? b = some o') ->
   h'.get? s.heap.objs.size = some { cls := .type "list", dict := none, data := .seq its.toArray c', slots := #[] } -> EP X pins σ Q (.ref s.heap.objs.size) { s with heap := h' } := λ its r' hz h' c' kp e =>
  ⟨.ref s.heap.objs.size, _, I.laid (t' := s.toks) kp (Anh _) (show ObjOk X.prog X.w _ h' _ (.lst ys) from ⟨hz, its, c', r', e⟩), rfl, q _ (I.hok.fresh (Anh _))⟩
 rcases hq with hq | hq
 ·
  obtain ⟨its, r', pl, hz⟩ := I.list hq
  have hlen := r'.length
  obtain ⟨o, ho, hc, n, hd⟩ := pl.isList
  exact call_list_seq p (.inl rfl) ho hc hd (λ h' c' kp e => fin its r' hz h' c' kp e) (by simp only [Anl] <;> omega)
 ·
  obtain ⟨its, r', pl, hz⟩ := I.tuple hq
  have hlen := r'.length
  obtain ⟨o, ho, hc, n, hd⟩ := pl
  exact call_list_seq p (.inr rfl) ho hc hd (λ h' c' kp e => fin its r' hz h' c' kp e) (by simp only [Anl] <;> omega)
def n8 : J0 X (.type "tuple") (λ xs H Q => ∃ p ys, xs = [.ref p] /\ ((SqL X.K H p ys /\ ∀ l, H l = none -> Q (.ref l) (upd H l (.tup ys))) ∨ (SqT X.K H p ys /\ Q (.ref p) H))) := by
 intro pins s σ H xs us Q I r h
 obtain ⟨p, ys, rfl, h⟩ := h
 obtain ⟨u, rfl, rx⟩ := vals1 r
 cases rx
 rcases h with ⟨hq, q⟩ | ⟨hq, q⟩
 ·
  obtain ⟨its, r', pl, hz⟩ := I.list hq
  have hlen := r'.length
  refine call_tuple_list pl.isList (λ h' kp => ?_) (by simp only [Anl] <;> omega)
  have I1 : Inv X pins σ H { s with heap := h' } := I.kept (t' := s.toks) kp
  have I2 : Inv X pins σ (upd H h'.objs.size (.tup ys)) { s with heap := h'.push { cls := .type "tuple", data := .seq its.toArray } } :=
   I1.laid (t' := s.toks) (λ b o e => Am5 _ e) (Anh _) (show ObjOk X.prog X.w _ _ _ (.tup ys) from ⟨hz, its, r', IsTup.new _ _⟩)
  exact ⟨.ref h'.objs.size, _, I2, rfl, q _ (I1.hok.fresh (Anh _))⟩
 ·
  obtain ⟨its, r', pl, hz⟩ := I.tuple hq
  exact call_tuple_same pl ⟨.ref p, H, I, rfl, q⟩
def tyV (K : W.Frag) (T : String) (x : V) (H : Hp) : Prop := match x with
 | .str _ => T = "str"
 | .int _ => T = "int"
 | .ref p => (T = "list" /\ ∃ xs, SqL K H p xs) ∨ (T = "tuple" /\ ∃ o, K.lookup p = some o /\ o.cls = .type "tuple" /\ o.dict = none) ∨
  (T = "dict" /\ ((∃ kvs, H p = some (.dK kvs)) ∨ ∃ kvs, H p = some (.dT kvs))) ∨ (T = "set" /\ ∃ S n, H p = some (.set S n))
 | _ => False
theorem Ahe (I : Inv X pins σ H s) (r : RelV x v) (ty : tyV X.K T x H) :
  s.TypeIs v T /\ ∀ a, v = .ref a -> ∃ ob, s.heap.get? a = some ob /\ ob.dict = none := by
 cases x with
 |
  str z =>
  obtain ⟨t, rfl⟩ := r
  cases (show T = "str" from ty)
  exact ⟨typeIs_str s z t, λ _ e => nomatch e⟩
 |
  int i =>
  obtain ⟨t, rfl⟩ := r
  cases (show T = "int" from ty)
  exact ⟨typeIs_int s i t, λ _ e => nomatch e⟩
 |
  ref p =>
  cases r
  rcases ty with ⟨rfl, xs, hq⟩ | ⟨rfl, o, hk, hc, hd⟩ | ⟨rfl, hk⟩ | ⟨rfl, S, n, hk⟩
  ·
   obtain ⟨its, _, pl, _⟩ := I.list hq
   refine ⟨pl.isList.typeIs, λ a e => ?_⟩
   cases e
   obtain ⟨o, n, e, c, hd, _⟩ := pl
   exact ⟨o, e, hd⟩
  ·
   refine ⟨⟨o, I.kIn p o hk, hc⟩, λ a e => ?_⟩
   cases e
   exact ⟨o, I.kIn _ o hk, hd⟩
  ·
   have z : ∃ o, s.heap.get? p = some o /\ o.ExactDict := by
    rcases hk with ⟨kvs, hk⟩ | ⟨kvs, hk⟩
    ·
     obtain ⟨_, _, _, _, o, _, _, e, ex, _⟩ := I.hok p _ hk
     exact ⟨o, e, ex⟩
    ·
     obtain ⟨_, _, _, _, o, _, _, e, ex, _⟩ := I.hok p _ hk
     exact ⟨o, e, ex⟩
   obtain ⟨o, e, ex⟩ := z
   refine ⟨⟨o, e, ex.1⟩, λ a e2 => ?_⟩
   cases e2
   exact ⟨o, e, ex.2.1⟩
  ·
   obtain ⟨o, _, _, _, e, ex, _⟩ := I.hok p _ hk
   refine ⟨⟨o, e, ex.1⟩, λ a e2 => ?_⟩
   cases e2
   exact ⟨o, e, ex.2.1⟩
 | _ => exact False.elim ty
def tBM (K : W.Frag) (T : String) (r : V -> List V -> Hp -> VK -> Prop) (to : TE) (t : TA) : TE := λ σ H Q => to σ H λ x H1 => tyV K T x H1 /\ t σ H1 λ xs H2 => r x xs H2 Q
def Ak2 {o : Expr} {es : List Expr} {to : TE} {t : TA} {name : Str} {T id : String} {r : V -> List V -> Hp -> VK -> Prop} (pa : PlainAttrs T) (slot : Slot T name id) (hty : typeOf (.builtin id) = pure (.type "method_descriptor")) (hm : MtR X id r) (ho : PE X o to) (ha : PA X (e :: es) t)
  (hbase : attributeBase o name X.env (eval o X.env) = eval o X.env := by rfl)
  (hfew : ((backTo cpos (starEach (e :: es) X.env)).all (λ x => !x.1) && (backToKw cpos (keywordEach [] X.env)).all (λ x => x.1.isSome)
   && decide ((e :: es).length + ([] : List Keyword).length + (if ([] : List Keyword).isEmpty then 0 else 1) < 30)) = true := by rfl)
  (hline : (apos.endLine == cpos.line) = true := by rfl) (hs : starEach (e :: es) X.env = (false, eval e X.env) :: starEach es X.env := by rfl) (hplain : (backTo cpos (starEach es X.env)).any (·.1) = false := by rfl) :
  PE X (.Call (.Attribute o name apos) (e :: es) [] cpos) (tBM X.K T r to t) := by
 intro pins s σ H Q I h
 refine wpAny_Call_method_late hbase hfew hline rfl (thn (ho pins s σ H _ I h) λ v s1 ⟨x, H1, I1, r1, ty, q1⟩ => ?_)
 obtain ⟨h1, h2⟩ := Ahe I1 r1 ty
 refine ⟨T, id, pa, slot, hty, h1, h2, ?_⟩
 have hA := ha cpos pins s1 σ H1 _ I1 q1
 rw [hs] at hA ⊢
 refine Calls.callWith_builtin (by show (false || (backTo cpos (starEach es X.env)).any (·.1)) = false; rw [hplain] <;> rfl) (Calls.evalArgs_plain ?_)
 exact thn hA λ us s2 ⟨vs, H2, I2, r2, q2⟩ => hm pins s2 σ H2 x vs v us Q I2 r1 r2 q2
def MtM (X : Cx) (id : String) (r : V -> List V -> Hp -> VK -> Prop) : Prop :=
 ∀ (pins : List (Addr × Obj)) (s : Shared) (σ : St) (H : Hp) (x : V) (xs : List V) (v : Value) (us : List Value) (Q : VK), Inv X pins σ H s -> RelV x v -> Vals xs us -> r x xs H Q ->
  wpAny (model X.prog X.w) X.A (call (.builtin id) (v :: us)) (EP X pins σ Q) X.xe s
theorem Vals.one : ∀ {x : V} {us : List Value}, Vals [x] us -> ∃ u, us = [u] /\ RelV x u
 | _, _, .cons r .nil => ⟨_, rfl, r⟩
theorem Vals.two : ∀ {x y : V} {us : List Value}, Vals [x, y] us -> ∃ u v, us = [u, v] /\ RelV x u /\ RelV y v
 | _, _, _, .cons r (.cons q .nil) => ⟨_, _, rfl, r, q⟩
variable {pins : List (Addr × Obj)} {σ : St} {H : Hp} {s : Shared}
def Inv.lset {l : Addr} {xs ys : List V} {its its' : List Value} {n : Nat} {f : Array Value -> Array Value} {t' : Nat} (I : Inv X pins σ H s) (hH : H l = some (.lst xs))
  (e : s.heap.get? l = some { cls := .type "list", data := .seq its.toArray n }) (hf : f its.toArray = its'.toArray) (hv : Vals ys its') (hz : ys.length <= sizeLine) :
  Inv X pins σ (upd H l (.lst ys)) { s with heap := s.heap.update l (Obj.mapSeq f), toks := t' } := by
 have q := PySem.IsL.update e f
 rw [hf] at q
 refine I.write (x := l) (e := l) (by rw [hH]; exact trivial) (.inl rfl) (λ b' u hb hu => (Ars s.heap (Obj.mapSeq f) (Aq6 hb)).trans hu) ⟨_, q⟩ ?_
 exact ⟨hz, its', _, hv, q⟩
def Inv.lnew (I : Inv X pins σ H s) (hv : Vals ys its) (hz : ys.length <= sizeLine) :
  Inv X pins σ (upd H s.heap.objs.size (.lst ys)) { s with heap := s.heap.push { cls := .type "list", data := .seq its.toArray }, toks := t' } :=
 I.laid (λ _ _ q => Am5 _ q) (Anh _) ⟨hz, its, 0, hv, Anc _ rfl⟩
theorem Inv.fresh (I : Inv X pins σ H s) : H s.heap.objs.size = none := I.hok.fresh (Anh _)
def Inv.lstM (I : Inv X pins σ H s) (hH : H l = some (.lst xs)) : xs.length <= sizeLine /\ ∃ (its : List Value) (n : Nat), Vals xs its /\ xs.length = its.length /\ s.heap.get? l = some { cls := .type "list", data := .seq its.toArray n } := by
 obtain ⟨z, its, n, r, e⟩ := I.hok l _ hH
 exact ⟨z, its, n, r, r.length, e⟩
def Agp : V -> List V -> Hp -> VK -> Prop := λ x vs H Q => ∃ l xs y, x = .ref l /\ vs = [y] /\ H l = some (.lst xs) /\ xs.length < sizeLine /\ Q .non (upd H l (.lst (xs ++ [y])))
def fb : MtM X "list.append" Agp := by
 intro pins s σ H x vs v us Q I rx rv h
 obtain ⟨l, xs, y, rfl, rfl, hH, hz, q⟩ := h
 cases rx
 obtain ⟨u, rfl, ru⟩ := rv.one
 obtain ⟨z, its, n, r, hl, e⟩ := I.lstM hH
 refine call_meets F.slot_list_append ⟨_, e, rfl⟩ F.entry_list_append (F.args_list_append_2 _ _) (PySem.list_append l its.toArray n u (by rw [Anl]; omega)) ⟨e, ?_⟩
 refine ⟨.non, _, I.lset (its' := its ++ [u]) hH e dks (r.append (.cons ru .nil)) ?_, rfl, q⟩
 rw [Anj, List.length_singleton]
 omega
def Amg : R2 := λ x y H Q => ∃ l b xs zs, x = .ref l /\ y = .ref b /\ H l = some (.lst xs) /\ H b = some (.lst zs) /\ xs.length + zs.length <= sizeLine /\ ∀ p, H p = none -> Q (.ref p) (upd H p (.lst (xs ++ zs)))
def r9 : OpR X (binaryOp .Add) Amg := by
 intro pins s σ H x y v u Q I rx ry h
 obtain ⟨l, b, xs, zs, rfl, rfl, hH, hB, hz, q⟩ := h
 cases rx
 cases ry
 obtain ⟨z, its, n, r, hl, e⟩ := I.lstM hH
 obtain ⟨z2, its2, n2, r2, hl2, e2⟩ := I.lstM hB
 refine PySem.P.add_list e e2 ?_ (by rw [Anl, Anl]; omega)
 have ea : its.toArray ++ its2.toArray = (its ++ its2).toArray := by simp
 rw [ea]
 exact ⟨.ref _, _, I.lnew (t' := s.toks) (r.append r2) (by rw [Anj]; omega), rfl, q _ I.fresh⟩
variable {prog : Program} {w : World} {A : Around} {E : Value -> Shared -> Prop}
end L2
namespace Att
open PySem PySem.W PySem.Calls PyProof.Rows
theorem d6 : ∀ (ns : List Int) (vs : List Value), WellAll P h vs (ns.map WData.int) -> IntsAre vs ns := by
 intro ns
 induction ns with
 |
  nil =>
  intro vs w
  rw [Aqv] at w
  cases w
  exact .nil
 |
  cons n ns ih =>
  intro vs w
  rw [An9] at w
  cases w with
  |
   cons a b =>
   cases a
   exact .cons _ _ (ih _ b)
theorem Abf {l : OpenLaw} {n : Nat} (hn : l.most = some n) {P : Params} {h : Heap} {args : List WData} {vals : List Value}
  (hpre : l.row.toRowW.claim.pre args = true) (hwl : WellAll P h vals args) :
  ∃ a vs ns, vals = [Value.ref a] /\ args = [WData.list (ns.map WData.int)] /\ h.get? a = some { cls := .type "list", data := .seq vs.toArray } /\ IntsAre vs ns /\ ns.length <= n := by
 have hsh : WShape.hasAll [] args [.list .int] = true := (pre_splitW hpre).1
 have hc : l.pre.holds [] { args := args } = true := (pre_splitW hpre).2
 obtain ⟨d, r, rfl, h1, h2⟩ := hasAllW_cons hsh
 obtain rfl := hasAllW_nil h2
 obtain ⟨xs, rfl, h3⟩ := hasW_list h1
 obtain ⟨ns, rfl⟩ := items_int h3
 have hlen : ns.length <= n := by
  unfold OpenLaw.pre at hc
  have h4 : (WTm.not (.lt (.lit (.int (n : Int))) (.len (.arg 0)))).holds [] { args := [.list (ns.map .int)] } = true := by
   have h4 := (holds_andW hc).1
   rw [hn] at h4
   exact h4
  have h5 := condW_of h4 (w_not (w_lt w_lit (w_len_list (w_arg rfl))))
  rw [Am9] at h5
  refine Nat.le_of_not_lt λ q => ?_
  have q' : (n : Int) < ((ns.length : Nat) : Int) := by omega
  first
   | (rw [Am6 q'] at h5; exact absurd h5 dkd)
   | (simp at h5; omega)
 cases hwl with
 |
  cons w1 w2 =>
  cases w2
  cases w1 with
  | list ho hall => exact ⟨_, _, ns, rfl, rfl, ho, d6 ns _ hall, hlen⟩
def Abm (l : OpenLaw) (args : List WData) : l.row.toRowW.claim.post args (.bool true) args = true :=
 postW_of (r := l.row.toRowW) (X := (true == true))
  (show WShape.has [] (.bool true) .bool = true by first | rfl | decide | simp [WShape.has, WShape.arms, WShape.armsAll])
  (show (WTm.eq .res (.lit (.bool true))).value [] { args := args, res := some (.bool true), after := args } = some (.bool (true == true)) from w_eq_bool (w_res rfl) w_lit) rfl
def cw {l : OpenLaw} {n : Nat} {q : Program} {loose : List Str} {XP : (Str -> Option Value) -> Heap -> Prop} {YP : World -> Heap -> Prop} {d : DefRec}
  (hn : l.most = some n) (hdf : d.params.defaults = [])
  (call : ∀ (w : World) (s₀ s₁ : Shared) (mg mb : Str -> Option Value) (fa : Addr) (o : Obj) (pm cd doc : Value) (a : Addr) (vs : List Value) (ns : List Int),
   Ground q loose [] XP w s₀ mg mb s₁.heap -> YP w s₁.heap ->
   s₁.heap.get? fa = some o -> o.data = .func (docDef d.name d.params d.body d.scope pm cd doc) -> s₁.heap.CodeRec cd d.name -> mg d.name = some (.ref fa) ->
   s₁.heap.get? a = some { cls := .type "list", data := .seq vs.toArray } -> IntsAre vs ns -> ns.length <= n -> s₁.gens = #[] ->
   codeAny (model l.prog w) callerA (.call (.ref fa) ⟨[.ref a], []⟩) (λ r s' => r = .ok (.ret (.bool true)) /\ OldK s₁.heap s'.heap /\ s'.os = s₁.os /\ AllBare s'.gens) s₁) :
  WalkO q loose XP YP l.row.toRowW d [] (λ f vs => PySem.call f vs) := by
 intro w s₀ s₁ mg mb G Y fa o pm cd doc dV kV ho hd hcd hD hmg hg args vals as hpre hlay hrd hwl hlo
 obtain rfl : dV = .none := Dflts.none hD hdf
 obtain rfl : kV = .none := Dflts.noKw hD
 obtain ⟨a, vs, ns, rfl, rfl, hobj, hints, hlen⟩ := Abf hn hpre hwl
 refine enter_call (Ao7 (call w s₀ s₁ mg mb fa o pm cd doc a vs ns G Y ho (fd_plain hd) hcd hmg hobj hints hlen hg) λ r s' hq => ?_)
 obtain ⟨rfl, h2, h3, h4⟩ := hq
 exact ⟨.inl ⟨.bool true, .bool true, [], rfl, λ _ => rfl, .bool true, Abm l _, λ _ => ⟨List.Pairwise.nil, λ _ hm => (nomatch hm)⟩⟩, h2, h3, h4⟩
variable {prog : Program} {w : World} {A : Around} {E : Value -> Shared -> Prop} {s : Shared}
def ledger (h : Heap) (L d : Addr) : List (Addr × Obj) := (List.range h.objs.size).filterMap λ a => if a = L ∨ a = d then none else (h.get? a).map λ o => (a, o)
end Att
namespace L2
open PySem PySem.Spec PyProof.Rows
theorem We : ∀ {vs : List Value} {ns : List Int}, IntsAre vs ns -> Vals (ns.map V.int) vs
 | _, _, .nil => .nil
 | _, _, .cons n t h => .cons ⟨t, rfl⟩ (We h)
def Ajn (H : Hp) : Prop := ∀ b, H b = none ∨ ∃ o xs, H b = some (.frz o (.lst xs))
theorem Adu {cm : Bool} {P : Program} {w : World} {K : W.Frag} {mg mb : Str -> Option Value} {CX : CXT} {k : Nat} {fa a : Addr} {fd : FuncData} {x : Str} {sp : Sp} {s₁ : Shared} {vs : List Value} {ns : List Int}
  (KX : K.In s₁.heap) (hns : s₁.heap.Ns mainGlobals mg) (hb : s₁.heap.Ns builtinsNs mb) (hbb : ∀ x : Str, x ≠ "__name__" -> mb x = bootBuiltins x) (hlim : s₁.heap.NoLimit) (hg : s₁.gens = #[])
  (ha : s₁.heap.get? a = some { cls := .type "list", data := .seq vs.toArray }) (hi : IntsAre vs ns) (hl : ns.length <= sizeLine) (hr : Room cm k callerA)
  (F : ∀ base : Heap, K.In base -> base.Ns mainGlobals mg -> FnOk P w K mg base CX cm k fa fd [x] sp) (hbind : ∀ (s : Shared) (u : Value), BindsTo s fd ⟨[u], []⟩ [(x, u)])
  (hsp : ∀ H : Hp, Ajn H -> SqL K H a (ns.map V.int) -> sp [.ref a] H (λ v _ => v = .bl true) λ _ _ _ => False)
  (hCX : ∀ H e s', CX [] H s₁ (λ _ _ _ => False) e s' -> False) :
  codeAny (model P w) callerA (.call (.ref fa) ⟨[.ref a], []⟩) (λ r s' => r = .ok (.ret (.bool true)) /\ OldK s₁.heap s'.heap /\ s'.os = s₁.os /\ AllBare s'.gens) s₁ := by
 have rv := We hi
 have lenV := hi.length
 -- from an abstract heap in which nothing but the script may be tracked
 have core : ∀ H : Hp, Ajn H -> SqL K H a (ns.map V.int) -> HOk P w H s₁.heap -> (∀ b, H b ≠ none -> b = a) -> (H a ≠ none -> K.lookup a = none) ->
   codeAny (model P w) callerA (.call (.ref fa) ⟨[.ref a], []⟩) (λ r s' => r = .ok (.ret (.bool true)) /\ OldK s₁.heap s'.heap /\ s'.os = s₁.os /\ AllBare s'.gens) s₁ := by
  intro H hO hS hok hA hK
  have base_of : ∀ {b : Addr} {o : Obj}, s₁.heap.get? b = some o -> H b = none -> (ub s₁.heap H).get? b = some o := λ e n => vy e n
  have noA : ∀ {b : Addr} {o : Obj} {es : Array DictEntry} {ep : Nat}, s₁.heap.get? b = some o -> o.data = .dict es ep -> H b = none := λ {b o es ep} e d => by
   cases q : H b with
   | none => rfl
   |
    some u =>
    have e' : b = a := hA b (by rw [q]; simp)
    subst e'
    rw [ha] at e; cases e
    have d' : Data.seq vs.toArray _ = Data.dict es ep := d
    cases d'
  have nsK : ∀ {b : Addr} {m : Str -> Option Value}, s₁.heap.Ns b m -> (ub s₁.heap H).Ns b m := λ {b m} ⟨o, es, ep, e, d, r⟩ => ⟨o, es, ep, base_of e (noA e d), d, r⟩
  have hKb : K.In (ub s₁.heap H) := λ b o e => base_of (KX b o e) (by
   cases q : H b with
   | none => rfl
   |
    some u =>
    have e' : b = a := hA b (by rw [q]; simp)
    subst e'
    rw [hK (by rw [q]; simp)] at e; cases e)
  have hM : Mod K mg (ub s₁.heap H) := ⟨hKb, nsK hns, ⟨mb, nsK hb, hbb⟩, let ⟨mc, h1, h2⟩ := hlim; ⟨mc, nsK h1, h2⟩⟩
  have e0 : Env0 P w K mg (ub s₁.heap H) callerA [] s₁ H := ⟨rfl, hM, λ b o e => Aby e, Nat.le_of_eq (sf _ _), trivial, λ b hb => absurd (show b ∈ ([] : List Addr) from hb) dks, hok, .of_eq hg⟩
  refine Ao7 ((F _ hKb (nsK hns)).run callerA [] s₁ H ⟨[.ref a], []⟩ [.ref a] [.ref a] _ _ hr e0 (hbind s₁ (.ref a)) (.cons rfl .nil) (hsp H hO hS)) λ r s' h => ?_
  cases r with
  | error e => exact (hCX H e s' h).elim
  |
   ok fl =>
   cases fl with
   | next => exact False.elim h
   | brk => exact False.elim h
   | cont => exact False.elim h
   |
    ret u =>
    obtain ⟨v, H', os, bare, un, hok', r', q⟩ := h
    have q' : v = .bl true := q
    subst q'
    obtain rfl : u = Value.bool true := r'
    refine ⟨rfl, OldK.of_keep λ b o e => ?_, os, bare⟩
    cases q : H b with
    | none => exact un.keep b o e q (by intro z; exact absurd (show b ∈ ([] : List Addr) from z) dks) dks
    |
     some u =>
     rcases hO b with z | ⟨ob, xs, z⟩
     · rw [q] at z; cases z
     ·
      have z2 := un.frzs b ob _ z
      obtain ⟨e1, _⟩ := hok b _ z
      obtain ⟨e2, _⟩ := hok' b _ z2
      rw [e] at e1; cases e1
      exact e2
 cases hk : K.lookup a with
 |
  some o =>
  -- the script is one of the module's own objects
  have e := KX a o hk
  rw [ha] at e
  cases e
  refine core (λ _ => none) (λ _ => .inl rfl) (.inr ⟨_, vs.toArray, _, hk, rfl, rfl, rfl, by rw [Anl, lenV]; exact hl, by simpa using rv⟩) (λ b u z => by have z' : (none : Option HO) = some u := z; cases z') (λ b z => absurd rfl z) λ z => absurd rfl z
 |
  none =>
  refine core (λ b => if b = a then some (.frz { cls := .type "list", data := .seq vs.toArray } (.lst (ns.map V.int))) else none) (λ b => ?_) (.inl (.inr ⟨{ cls := .type "list", data := .seq vs.toArray }, if_pos rfl⟩)) (λ b u z => ?_) (λ b z => ?_) λ _ => hk
  ·
   by_cases hb : b = a
   · exact .inr ⟨_, _, if_pos hb⟩
   · exact .inl (if_neg hb)
  ·
   by_cases hb : b = a
   ·
    have z' := (if_pos hb).symm.trans z
    cases z'
    subst hb
    exact ⟨ha, by rw [Am9]; exact hl, vs, _, rv, ha⟩
   ·
    have z' := (if_neg hb).symm.trans z
    cases z'
  ·
   by_cases hb : b = a
   · exact hb
   · exact absurd (if_neg hb) z
abbrev KOf {K : W.Frag} {h : Heap} (_ : K.In h) : W.Frag := K
def Ak5 {cm : Bool} {l : W.OpenLaw} {n k : Nat} {q : Program} {loose : List Str} {XP : (Str -> Option Value) -> Heap -> Prop} {YP : World -> Heap -> Prop} {d : DefRec} {K : Params -> W.Frag} {CX : World -> CXT} {sp : World -> Sp} {x : Str}
  (hn : l.most = some n) (hn2 : n <= sizeLine) (hdf : d.params.defaults = []) (hr : Room cm k callerA)
  (hY : ∀ (w : World) (h : Heap), YP w h -> (K w.params).In h)
  (F : ∀ (w : World) (mg : Str -> Option Value) (fa : Addr) (h : Heap), (K w.params).In h -> h.Ns mainGlobals mg -> mg d.name = some (.ref fa) ->
   ∃ fd : FuncData, (∀ (s : Shared) (u : Value), BindsTo s fd ⟨[u], []⟩ [(x, u)]) /\
    ∀ base : Heap, (K w.params).In base -> base.Ns mainGlobals mg -> FnOk l.prog w (K w.params) mg base (CX w) cm k fa fd [x] (sp w))
  (hsp : ∀ (w : World) (H : Hp) (a : Addr) (ns : List Int), ns.length <= n -> Ajn H -> SqL (K w.params) H a (ns.map V.int) -> sp w [.ref a] H (λ v _ => v = .bl true) λ _ _ _ => False)
  (hCX : ∀ (w : World) (H : Hp) (s : Shared) (e : Value) (s' : Shared), CX w [] H s (λ _ _ _ => False) e s' -> False) :
  W.WalkO q loose XP YP l.row.toRowW d [] (λ f vs => PySem.call f vs) := by
 refine Att.cw hn hdf λ w s₀ s₁ mg mb fa o pm cd doc a vs ns G Y ho hd hcd hmg hobj hints hlen hg => ?_
 have KX := hY w _ Y
 obtain ⟨fd, hb, hF⟩ := F w mg fa _ KX G.T.g hmg
 exact Adu KX G.T.g G.T.b G.T.builtins G.T.nolimit hg hobj hints (Anb hlen hn2) hr hF hb (λ H hO hS => hsp w H a ns hlen hO hS) λ H e s' => hCX w H s₁ e s'
def inClass (s : Stmt) (j : Nat) : Stmt := match s with
 | .ClassDef _ _ _ body _ _ _ _ _ _ _ => body.getD j (.Pass ⟨0, 0, 0, 0⟩)
 | _ => .Pass ⟨0, 0, 0, 0⟩
def Bc (s : Stmt) : Arguments := match s with
 | .FunctionDef _ a _ _ _ _ _ _ _ _ => a
 | _ => { posonlyargs := [], args := [], vararg := none, kwonlyargs := [], kw_defaults := [], kwarg := none, defaults := [] }
def Ay (s : Stmt) : List Stmt := match s with
 | .FunctionDef _ _ b _ _ _ _ _ _ _ => b
 | _ => []
def Ah (s : Stmt) : Scope := match s with
 | .FunctionDef _ _ _ _ _ _ sc _ _ _ => sc
 | _ => { kind := .function, names := [], isGenerator := false, isCoroutine := false }
abbrev CX0 : CXT := λ _ _ _ _ _ _ => False
abbrev E0 : XK := λ _ _ _ => False
def Js : Passes CX0 X E0 := λ _ _ _ _ _ _ _ h => h.elim
structure Fun (K : W.Frag) (x qual : Str) (st : Stmt) (f : Addr) (fd : FuncData) : Prop where
 ex : ∃ (oc : Value) (od : Option Addr) (kV doc pm : Value) (an : Option Addr) (cdv ct : Value) (osl : Array (Option Value)),
  fd = W.fnOf x qual (Bc st) (Ay st) (Ah st) .none kV doc pm an cdv ct /\ K.lookup f = some ⟨oc, od, .func fd, osl⟩ /\ W.codeIn K cdv qual = true
 kp : W.keepIn K (.ref f) = true
variable {w : World}
def Fun.ok {P : Program} {K : W.Frag} {mg : Str -> Option Value} {base : Heap} {cm : Bool} {x qual : Str} {st : Stmt} {f : Addr} {fd : FuncData} {N ps : List Str} {k : Nat} {sp : Sp} (F : Fun K x qual st f fd) (S : Aw N ps (Ah st)) (len : ∀ vs H Q E, sp vs H Q E -> vs.length = ps.length)
  (hbody : ∀ (cdv : Value) (A : Around) (outer : List Env) (s : Shared) (H : Hp) (vs : List V) (Q : VK) (E : XK), Room cm k (A.deeper (envOfC qual (Ah st) s.heap.objs.size f cdv)) -> sp vs H Q E ->
   ∃ t, PSs (xn CX0 cm P w K mg base N qual (Ah st) f cdv A outer s H E).nox (Ay st) t /\ t { nx := λ _ H' => Q .non H', rt := λ _ => Q } (start N vs) H) : FnOk P w K mg base CX0 cm (k + 1) f fd ps sp := by
 obtain ⟨oc, od, kV, doc, pm, an, cdv, ct, osl, rfl, lk, hcd⟩ := F.ex
 refine Ah1 lk hcd S len λ A outer s H vs Q E hr hsp => ?_
 obtain ⟨t, h, q⟩ := hbody cdv A outer s H vs Q E hr hsp
 exact ⟨t, h.nox, q⟩
def Fun.binds {K : W.Frag} {x qual : Str} {st : Stmt} {f : Addr} {fd : FuncData} {ps : List Str} (F : Fun K x qual st f fd)
  (h : ∀ (kV doc pm : Value) (an : Option Addr) (cdv ct : Value) (us : List Value), us.length = ps.length -> bindArgs (W.fnOf x qual (Bc st) (Ay st) (Ah st) .none kV doc pm an cdv ct) ⟨us, []⟩ = pure (ps.zip us)) : Binds K fd ps [] := by
 obtain ⟨oc, od, kV, doc, pm, an, cdv, ct, osl, rfl, lk, hcd⟩ := F.ex
 exact .all (h kV doc pm an cdv ct)
def Aah {K : W.Frag} {x qual : Str} {st : Stmt} {f : Addr} {oc : Value} {od an : Option Addr} {osl : Array (Option Value)} {kV doc pm cdv ct : Value} (l : K.lookup f = some ⟨oc, od, .func (W.fnOf x qual (Bc st) (Ay st) (Ah st) .none kV doc pm an cdv ct), osl⟩)
 (c : W.codeIn K cdv qual = true) (k : W.keepIn K (.ref f) = true) : Fun K x qual st f (W.fnOf x qual (Bc st) (Ay st) (Ah st) .none kV doc pm an cdv ct) := ⟨⟨oc, od, kV, doc, pm, an, cdv, ct, osl, rfl, l, c⟩, k⟩
def Abx (hr : Room cm k A) : A.units + 1 < cLine := Aox (Nat.add_le_add_left (by decide : 1 <= 64) _) hr.units
variable {X : Cx}
def Aji {A B : Prop} (h : B) : if false = true then A else B := by
 rw [if_neg Anr]
 exact h
def Ag3 {A B : Prop} (h : A) : if true = true then A else B := by
 rw [if_pos rfl]
 exact h
def Same (H H' : Hp) : Prop := ∀ b o, H b = some o -> H' b = some o
def Same.refl (H : Hp) : Same H H := λ _ _ h => h
abbrev _root_.Ase := @Same.refl
def Same.trans (a : Same H H1) (b : Same H1 H2) : Same H H2 := λ c o h => b c o (a c o h)
theorem Same.free (e : Same H H') (h : H' l = Option.none) : H l = Option.none := by
 cases q : H l with
 | none => rfl
 |
  some o =>
  rw [e l o q] at h
  cases h
def Same.seq {K : W.Frag} {H H' : Hp} {a : Addr} {xs : List V} (e : Same H H') (h : SqL K H a xs) : SqL K H' a xs := by
 rcases h with (h | ⟨o, h⟩) | h
 · exact .inl (.inl (e _ _ h))
 · exact .inl (.inr ⟨o, e _ _ h⟩)
 · exact .inr h
def t4 (env : Env) : List (Str × NameKind) -> List (Str × Addr) -> List (Str × Addr)
 | [], acc => acc
 | (n, k) :: r, acc => if k == .free then t4 env r ((n, (env.cells.lookup n).getD 0) :: acc) else t4 env r acc
theorem oe {env : Env} {x : Str} {c : Addr} : ∀ {ns : List (Str × NameKind)} {acc : List (Str × Addr)}, (∃ c, acc.lookup x = some c) -> ∃ c, (t4 env ns acc).lookup x = some c
 | [], _, h => h
 |
  (n, k) :: r, acc, h => by
  unfold t4
  split
  ·
   refine oe (c := c) ?_
   obtain ⟨c', e⟩ := h
   rw [Ao5]
   cases q : x == n
   · exact ⟨c', e⟩
   · exact ⟨_, rfl⟩
  · exact oe (c := c) h
theorem b8 {env : Env} {x : Str} : ∀ {ns : List (Str × NameKind)} {acc : List (Str × Addr)}, (x, NameKind.free) ∈ ns -> ∃ c, (t4 env ns acc).lookup x = some c
 |
  (n, k) :: r, acc, h => by
  unfold t4
  rcases Anf.mp h with e | h
  ·
   cases e
   rw [if_pos (by rfl)]
   exact oe (c := 0) ⟨_, by rw [Ao5, beq_self_eq_true]⟩
  ·
   split
   · exact b8 h
   · exact b8 h
theorem uv : ∀ {ns : List (Str × NameKind)} {acc : List (Str × Addr)}, (∀ y ∈ ns, y.2 = .free -> ∃ d, env.cells.lookup y.1 = some d) -> (∀ y d, acc.lookup y = some d -> env.cells.lookup y = some d) ->
  (t4 env ns acc).lookup x = some c -> env.cells.lookup x = some c
 | [], _, _, ha, h => ha _ _ h
 |
  (n, k) :: r, acc, hn, ha, h => by
  unfold t4 at h
  have hr : ∀ y ∈ r, y.2 = .free -> ∃ d, env.cells.lookup y.1 = some d := λ y hy => hn y (Ann _ hy)
  split at h
  ·
   rename_i hk
   have hk' : k = .free := by simpa using hk
   obtain ⟨d, hd⟩ := hn (n, k) Ano hk'
   refine uv hr (λ y d' hy => ?_) h
   rw [Ao5] at hy
   cases q : y == n
   ·
    rw [q] at hy
    exact ha y d' hy
   ·
    rw [q] at hy
    have e : y = n := by simpa using q
    subst e
    have hd' : env.cells.lookup y = some d := hd
    rw [hd'] at hy
    rw [hd']
    exact hy
  · exact uv hr ha h
theorem Pp : ∀ {ns : List (Str × NameKind)}, ns.lookup x = some k -> (x, k) ∈ ns
 |
  (n, j) :: r, h => by
  rw [Ao5] at h
  cases q : x == n
  ·
   rw [q] at h
   exact Ann _ (Pp h)
  ·
   rw [q] at h
   have e : x = n := by simpa using q
   subst e
   cases h
   exact Ano
def Fz (X : Cx) (N : List Str) (scope : Scope) (C : Addr) (s : Shared) (H : Hp) (fp : List Addr) : Cx where
 prog := X.prog
 w := X.w
 K := X.K
 mg := X.mg
 base := X.base
 A := X.A
 N := N
 s₀ := s
 H₀ := H
 env := compEnvC scope (t4 X.env scope.names []) C X.env
 outer := X.stack
 stack := X.stack
 ex := fp
 fn := λ _ => false
 calm := X.calm
 pn := []
 xe := λ _ _ => False
def qh (sc scope : Scope) (N0 : List Str) : List (Option Nat) -> List Str -> Bool
 | [], _ => true
 | none :: r, _ :: n => qh sc scope N0 r n
 | some j :: r, x :: n => decide (N0[j]? = some x) && decide (scope.names.lookup x = some .free) && decide (sc.names.lookup x = some .cell) && qh sc scope N0 r n
 | _ :: _, [] => false
theorem qy : ∀ {cap : List (Option Nat)} {N : List Str} {i j : Nat}, qh sc scope N0 cap N = true -> cap[i]? = some (some j) ->
  ∃ x, N[i]? = some x /\ N0[j]? = some x /\ scope.names.lookup x = some .free /\ sc.names.lookup x = some .cell
 | [], _, _, _, _, e => by simp at e
 | o :: _, [], _, _, h, _ => by cases o <;> simp [qh] at h
 |
  o :: r, y :: n, 0, j, h, e => by
  simp at e
  subst e
  unfold qh at h
  simp only [Ani, Ape] at h
  exact ⟨y, rfl, h.1.1.1, h.1.1.2, h.1.2⟩
 |
  o :: r, y :: n, i + 1, j, h, e => by
  have h' : qh sc scope N0 r n = true := by
   cases o with
   | none => exact h
   |
    some k =>
    unfold qh at h
    simp only [Ani] at h
    exact h.2
  obtain ⟨x, a, b⟩ := qy (i := i) (j := j) h' (by simpa using e)
  exact ⟨x, by simpa using a, b⟩
structure Cs (sc scope : Scope) (N0 N : List Str) (cap : List (Option Nat)) : Prop where
 kind : scope.kind = .function
 cell : ∀ y ∈ scope.names, y.2 ≠ .cell
 names : ∀ y ∈ scope.names, y.2 = .local -> scope.names.lookup y.1 = some .local
 free : ∀ y ∈ scope.names, y.2 = .free -> sc.names.lookup y.1 = some .cell
 nd : N.Nodup
 len : cap.length = N.length
 cap : qh sc scope N0 cap N = true
def Us (cap : List (Option Nat)) (σ : St) : St := cap.map λ o => match o with
 | none => none
 | some j => (σ[j]?).join
def rp (hk : env.scope.kind = .function) (hf : ∀ y ∈ scope.names, y.2 = .free -> env.kindOf y.1 = some .cell) (h : scope.names.lookup x = some .free) :
  (relabel scope env).names.lookup x = some .cell := by
 have all : ∀ (ns : List (Str × NameKind)), (∀ y ∈ ns, y.2 = .free -> env.kindOf y.1 = some .cell) -> ns.lookup x = some .free ->
   (ns.map λ (n, k) => if (k == .free && env.scope.kind == .function && env.kindOf n == some .cell) then (n, NameKind.cell) else (n, k)).lookup x = some .cell := by
  intro ns
  induction ns with
  | nil => intro _ h; simp at h
  |
   cons y r ih =>
   obtain ⟨n, k⟩ := y
   intro hf h
   rw [An9]
   rw [Ao5] at h
   cases q : x == n
   ·
    rw [q] at h
    have := ih (λ y hy => hf y (Ann _ hy)) h
    show List.lookup x ((if (k == .free && env.scope.kind == .function && env.kindOf n == some .cell) = true then (n, NameKind.cell) else (n, k)) :: _) = _
    split <;> (rw [Ao5, q]; exact this)
   ·
    rw [q] at h
    cases h
    have e := hf (n, .free) Ano rfl
    show List.lookup x ((if (NameKind.free == .free && env.scope.kind == .function && env.kindOf n == some .cell) = true then (n, NameKind.cell) else (n, NameKind.free)) :: _) = _
    rw [if_pos (by rw [hk, e]; rfl), Ao5, q]
 exact all scope.names hf h
def qk (hc : ∀ y ∈ scope.names, y.2 ≠ .cell) (h : (relabel scope env).names.lookup x = some .cell ∨ (relabel scope env).names.lookup x = some .free) : (x, NameKind.free) ∈ scope.names := by
 have all : ∀ (ns : List (Str × NameKind)), (∀ y ∈ ns, y.2 ≠ .cell) ->
   (∀ k, (k = NameKind.cell ∨ k = NameKind.free) -> (ns.map λ (n, k) => if (k == .free && env.scope.kind == .function && env.kindOf n == some .cell) then (n, NameKind.cell) else (n, k)).lookup x = some k -> (x, NameKind.free) ∈ ns) := by
  intro ns
  induction ns with
  | nil => intro _ k _ h; simp at h
  |
   cons y r ih =>
   obtain ⟨n, j⟩ := y
   intro hc k hk h
   rw [An9] at h
   have hr : ∀ y ∈ r, y.2 ≠ NameKind.cell := λ y hy => hc y (Ann _ hy)
   change List.lookup x ((if (j == .free && env.scope.kind == .function && env.kindOf n == some .cell) = true then (n, NameKind.cell) else (n, j)) :: _) = some k at h
   split at h
   ·
    rename_i hj
    rw [Ani, Ani] at hj
    have hj' : j = .free := by simpa using hj.1.1
    subst hj'
    rw [Ao5] at h
    cases q : x == n
    ·
     rw [q] at h
     exact Ann _ (ih hr k hk h)
    ·
     have e : x = n := by simpa using q
     subst e
     exact Ano
   ·
    rw [Ao5] at h
    cases q : x == n
    ·
     rw [q] at h
     exact Ann _ (ih hr k hk h)
    ·
     rw [q] at h
     cases h
     have e : x = n := by simpa using q
     subst e
     rcases hk with z | z
     · exact absurd z (hc (x, j) Ano)
     · rw [z]; exact Ano
 rcases h with h | h
 · exact all scope.names hc _ (.inl rfl) h
 · exact all scope.names hc _ (.inr rfl) h
variable {pins : List (Addr × Obj)} {σ : St} {H : Hp} {s : Shared}
def kq (S : Cs X.env.scope scope X.N N cap) (I : Inv X pins σ H s) (hf : ∀ b ∈ fp, zk X pins H b) (hlt : ∀ b ∈ fp, b < s.heap.objs.size)
  (hns : h₁.Ns s.heap.objs.size (λ x => ([] : List (Str × Value)).reverse.lookup x)) (keep : ∀ b o, s.heap.get? b = some o -> h₁.get? b = some o) :
  Inv (Fz X N scope s.heap.objs.size s H fp) [] (Us cap σ) H { s with heap := h₁, toks := t' } := by
 have hkf : ∀ y ∈ scope.names, y.2 = .free -> X.env.kindOf y.1 = some .cell := S.free
 have hcell : ∀ y ∈ scope.names, y.2 = .free -> ∃ d, X.env.cells.lookup y.1 = some d := λ y hy e => I.ok.has _ (.inl (hkf y hy e))
 have hcl : ∀ x c, (t4 X.env scope.names []).lookup x = some c -> X.env.cells.lookup x = some c := λ x c h => uv hcell (λ y d h => by simp at h) h
 refine ⟨⟨I.ok.mod, S.kind, I.ok.glob, I.ok.blt, Anh _, λ x y c h1 h2 => I.ok.inj x y c (hcl x c h1) (hcl y c h2), λ x h => b8 (qk S.cell h), (λ x c h => nomatch h), I.ok.hd, I.ok.frames, .inl rfl,
  λ b hb => ⟨Anm (hlt b hb), λ x c h => (hf b hb).2.2.2.2.1 x c (hcl x c h)⟩, I.bs, Anb I.ok.bsz I.sz, λ b o e hb => ?_, λ b hb h => ?_, I.stack, I.stkFree⟩,
  rfl, I.bare, Un.kept keep, ⟨_, hns, λ i x v e1 e2 e3 => ?_⟩, λ x c h => ?_, I.hok.fresh (Anh _), λ x c h => I.freeC x c (hcl x c h), λ p hp => (by simp [Fz] at hp), I.hok.kept keep, ?_⟩
 ·
  rcases (hf b hb).2.2.2.1 with z | z
  · exact I.ok.noex b o e z
  · exact absurd (Anv (Ana (I.ok.bs b o e).1) z) (Aor _)
 ·
  rcases Anf.mp (I.stkSub b h) with z | z
  · exact (hf b hb).2.1 z
  · exact (hf b hb).2.2.1 z
 ·
  have e2' : (Us cap σ)[i]? = some (some v) := e2
  unfold Us at e2'
  rw [Anu] at e2'
  cases q : cap[i]? with
  | none => rw [q] at e2'; cases e2'
  |
   some o =>
   cases o with
   | none => rw [q] at e2'; cases e2'
   |
    some j =>
    rw [q] at e2'
    obtain ⟨y, n1, n2, n3, n4⟩ := qy S.cap q
    have e1' : N[i]? = some x := e1
    rw [n1] at e1'
    cases e1'
    have ej : σ[j]? = some (some v) := by
     have e3 : (σ[j]?).join = some v := An7 e2'
     cases r : σ[j]? with
     | none => rw [r] at e3; cases e3
     | some o => rw [r] at e3; rw [show o = some v from e3]
    obtain ⟨m, hn, hl⟩ := I.loc
    obtain ⟨u, ru, l⟩ := hl j x v n2 ej (.inr (.inl n4))
    refine ⟨u, ru, .inr ⟨.inl (rp I.ok.kind hkf n3), ?_⟩⟩
    rcases l with ⟨hk, _⟩ | ⟨_, c, hc, z⟩
    ·
     have n4' : X.env.kindOf x = some .cell := n4
     rw [n4'] at hk; cases hk
    ·
     obtain ⟨c', hc'⟩ := b8 (env := X.env) (acc := []) (Pp n3)
     have := hcl x c' hc'
     rw [hc] at this
     cases this
     exact ⟨c, hc', z.keeps keep⟩
 ·
  obtain ⟨v, z⟩ := I.cell x c (hcl x c h)
  exact ⟨v, z.keeps keep⟩
 ·
  show (Us cap σ).length = N.length
  unfold Us
  rw [Am9]
  exact S.len
def w6 (I : Inv X pins σ H s) (hf : ∀ b ∈ fp, zk X pins H b) (J : Inv (Fz X N scope s.heap.objs.size s H fp) pins' σ' H' s')
  (sb : Heap.SameBut s.heap.objs.size s'.heap h') : Inv X pins σ H' { s' with heap := h' } := by
 have I1 : Inv X pins σ H' s' := I.call' J.os J.base J.hok J.bare λ b hb => ⟨(hf b hb).2.2.2.1, (hf b hb).2.1, (hf b hb).2.2.2.2.1, (hf b hb).2.2.2.2.2⟩
 have hfree : H' s.heap.objs.size = none := J.free
 refine I1.turned (t' := s'.toks) (it := s.heap.objs.size) (λ b o hb e => (sb.2 b hb).trans e) hfree (Aos I.lt) (.inr I.sz) (λ x c h z => ?_) λ p hp z => ?_
 ·
  obtain ⟨v, q⟩ := I.cell x c h
  have := q.lt
  rw [z] at this
  exact Aor _ this
 ·
  have := Ana (I.pin p hp).1
  rw [z] at this
  exact Aor _ this
def Ajh (X : Cx) (ifs : List Expr) (t : TT) : Prop :=
 ∀ (pins : List (Addr × Obj)) (s : Shared) (σ : St) (H : Hp) (Q : Bool -> Hp -> Prop), Inv X pins σ H s -> t σ H Q ->
  wpAny (model X.prog X.w) X.A (forIn ifs true λ c r => if r = true then do let ok ← isTrue c X.env (eval c X.env); pure (ForInStep.yield ok) else pure (ForInStep.yield r)) (TP X pins σ Q) X.xe s
def Am1 : TT := λ _ H Q => Q true H
def Vi : Ajh X [] Am1 := λ pins s σ H Q I h => wpAny_tests_nil ⟨H, I, h⟩
def ku (h : PT X c t) : Ajh X [c] t := λ pins s σ H Q I hq => wpAny_tests_one (h pins s σ H Q I hq)
variable {prog : Program} {A : Around}
theorem Y3 (
     I : Nat -> Shared -> Prop)
  (turn : ∀ n s, I n s -> wpAny (model prog w) A (pyNext it) (λ r s₁ => match r with
   | none => R (.ok .next) s₁
   | some v => wpAny (model prog w) A (letOwnedTupleGo target it v) (λ _ s₀ => wpAny (model prog w) A (assign target env v) (λ _ s₂ =>
    wpAny (model prog w) A (forIn ifs true λ c r => if r = true then do let ok ← isTrue c env (eval c env); pure (ForInStep.yield ok) else pure (ForInStep.yield r)) (λ ok s₃ =>
     if ok = true then wpAny (model prog w) A (eval elt env) (λ x s₄ =>
      wpAny (model prog w) A (call (.builtin "list.append") [acc, x]) (λ _ s₅ => ∃ m, m < n /\ I m s₅) (λ _ _ => False) s₄) (λ _ _ => False) s₃
     else ∃ m, m < n /\ I m s₃) (λ _ _ => False) s₂) (λ _ _ => False) s₀) (λ _ _ => False) s₁) (λ _ _ => False) s)
  (n : Nat) (h : I n s) : codeAny (model prog w) A (.compLoop (.ListComp elt [⟨target, iter, ifs, 0⟩] scope pos) 0 it acc env) R s := by
 refine codeAny_loop rfl I (λ n s hI => ?_) n h
 show wpAny _ A ((compTurn (.ListComp elt [⟨target, iter, ifs, 0⟩] scope pos) 0 it acc env).onRaise (λ x => do noteFrame x env; theTreesLotGoes x)) _ _ s
 refine wpAny_noted ?_
 rw [compTurn_list]
 refine Am4 (wpAny_standAt (Am4 (Ao3 (turn n s hI) (λ r s₁ h₁ => ?_) λ _ _ h' => h'.elim)))
 cases r with
 | none => exact Am7 h₁
 |
  some v =>
  refine Am4 (Ao3 h₁ (λ _ s₀ h₀ => ?_) λ _ _ h' => h'.elim)
  refine Am4 (Ao3 h₀ (λ _ s₂ h₂ => Am4 (Ao3 h₂ (λ ok s₃ h₃ => ?_) λ _ _ h' => h'.elim)) λ _ _ h' => h'.elim)
  cases ok with
  | false => exact Am7 ⟨rfl, h₃⟩
  |
   true =>
   exact Am4 (Am4 (Ao3 h₃ (λ x s₄ h₄ => Am4 (Ao3 h₄ (λ _ s₅ h₅ => Am7 (Am7 ⟨rfl, h₅⟩)) λ _ _ h' => h'.elim)) λ _ _ h' => h'.elim))
def Rb (J : It) (H1 : Hp) (cap : List (Option Nat)) (g : TG) (tt : TT) (te : TE) (σ : St) (Q : VK) : Prop := ∀ D, H1 D = none ->
 ∃ W : Nat -> Nat -> List V -> St -> Hp -> Prop, (∃ m, W 0 m [] (Us cap σ) (upd H1 D (.lst []))) /\ ∀ i m ys σ' H', W i m ys σ' H' -> H' D = some (.lst ys) /\
  ((
   J.stop i H' /\ Q (.ref D) H') ∨ (J.go i H' /\ ∀ x H2, J.yld i H' x H2 -> g x σ' H2 λ σ2 H3 => tt σ2 H3 λ b H4 =>
   if b = true then te σ2 H4 λ y H5 => H5 D = some (.lst ys) /\ ys.length < sizeLine /\ ∃ m', m' < m /\ W (i + 1) m' (ys ++ [y]) σ2 (upd H5 D (.lst (ys ++ [y])))
   else ∃ m', m' < m /\ W (i + 1) m' ys σ2 H4))
def Ajb (wi : TI) (cap : List (Option Nat)) (g : TG) (tt : TT) (te : TE) : TE := λ σ H Q => wi σ H λ J H1 => Rb J H1 cap g tt te σ Q
def Sy
  (S : Cs X.env.scope scope X.N N cap) (hc : X.calm = true) (hi : PI X tgt iter wi)
  (hb : ∀ (C : Addr) (s : Shared) (H : Hp) (fp : List Addr), PG (Fz X N scope C s H fp) tgt g /\ Ajh (Fz X N scope C s H fp) ifs tt /\ PE (Fz X N scope C s H fp) elt te)
  (hclos : closureFor scope X.env = pure (t4 X.env scope.names []) := by with_unfolding_all rfl) (hs : ∀ x, foldedSetIterable iter X.env x = pure x := by intro _; rfl) :
  PE X (.ListComp elt [⟨tgt, iter, ifs, 0⟩] scope pos) (Ajb wi cap g tt te) := by
 intro pins s σ H Q I h
 rw [eval_ListComp]
 refine wpAny_comprehension_free (use := none) (cl := t4 X.env scope.names []) rfl hs hclos S.kind S.names ?_
 refine thn (hi pins s σ H _ I h) λ v s1 h1 => thn h1 λ itv s2 h2 => ?_
 obtain ⟨it, fp, tn, J, H2, e, I2, T, st2, f2, k⟩ := h2
 subst e
 refine An8 (Ar0 S.cell (by intro y hy; simp at hy) (λ h₁ hns₁ hsb₁ => ?_) S.kind)
 dsimp only at hns₁ hsb₁ ⊢
 have I3 : Inv X pins σ (upd H2 s2.heap.objs.size (.lst [])) { s2 with heap := s2.heap.push { cls := .type "list", dict := none, data := .seq ([] : List Value).toArray } } := I2.lnew (t' := s2.toks) .nil (Aon _)
 obtain ⟨W, ⟨m0, w0⟩, turn⟩ := k s2.heap.objs.size I2.fresh
 generalize hD : s2.heap.objs.size = D at *
 generalize hsD : ({ s2 with heap := s2.heap.push { cls := .type "list", dict := none, data := .seq ([] : List Value).toArray } } : Shared) = sD at *
 have hsz : sD.heap.objs.size = D + 1 := by rw [← hsD, ← hD]; exact Aod ..
 have hheap : s2.heap.push { cls := .type "list", dict := none, data := .seq ([] : List Value).toArray } = sD.heap := by rw [← hsD]
 rw [hheap] at hns₁ hsb₁ ⊢
 have up : ∀ b o, s2.heap.get? b = some o -> sD.heap.get? b = some o := λ b o e => by rw [← hheap]; exact Am5 _ e
 have keep : ∀ b o, sD.heap.get? b = some o -> h₁.get? b = some o := λ b o e => hsb₁.extBut b o (Anm (Ana e)) (Am5 _ e)
 have hfD : D ∉ fp := λ hm => by
  obtain ⟨o, e, _⟩ := T.obj _ _ st2 D hm
  have := Ana e
  rw [hD] at this
  exact Aor _ this
 have f3 : ∀ b ∈ fp, zk X pins (upd H2 D (.lst [])) b := λ b hb => ⟨by rw [An (λ z => hfD (by rw [← z]; exact hb))]; exact (f2 b hb).1, (f2 b hb).2⟩
 have hlt : ∀ b ∈ fp, b < sD.heap.objs.size := λ b hb => by
  obtain ⟨o, e, _⟩ := T.obj _ _ st2 b hb
  exact Ana (up b o e)
 have I4 := kq (t' := s2.toks + ([] : List (Str × Value)).length) S I3 f3 hlt hns₁ keep
 obtain ⟨hg, hif, hel⟩ := hb sD.heap.objs.size sD (upd H2 D (.lst [])) fp
 have st4 : tn 0 h₁ := T.keep _ _ _ st2 λ b hb o e => keep b o (up b o e)
 have stat : ∀ {H' : Hp}, (∀ b ∈ fp, H' b = none) -> ∀ b ∈ fp, zk (Fz X N scope sD.heap.objs.size sD (upd H2 D (.lst [])) fp) [] H' b := λ hn b hb =>
  ⟨hn b hb, (I4.ok.exf b hb).1, I4.ok.exfs b hb, .inl hb, λ x c h z => (I4.ok.exf b hb).2 x c h z, λ p hp => (by simp [Fz] at hp)⟩
 have loop : codeAny (model X.prog X.w) X.A (.compLoop (.ListComp elt [⟨tgt, iter, ifs, 0⟩] scope pos) 0 (.ref it) (.ref D) (compEnvC scope (t4 X.env scope.names []) sD.heap.objs.size X.env))
   (compPost (model X.prog X.w) X.A X.xe none (EP X pins σ Q) (.ref D) sD.heap.objs.size) { sD with heap := h₁, toks := s2.toks + ([] : List (Str × Value)).length } := by
  refine Y3 (λ n s' => ∃ i ys σ' H', Inv (Fz X N scope sD.heap.objs.size sD (upd H2 D (.lst [])) fp) [] σ' H' s' /\ tn i s'.heap /\ (∀ b ∈ fp, H' b = none) /\ W i n ys σ' H') ?_ m0
   ⟨0, [], Us cap σ, _, I4, st4, λ b hb => (f3 b hb).1, w0⟩
  rintro n s5 ⟨i, ys, σ5, H5, I5, st5, fr5, w5⟩
  obtain ⟨hD5, way⟩ := turn i n ys σ5 H5 w5
  rcases way with ⟨stop, q⟩ | ⟨go, step⟩
  ·
   refine thn (T.done (Fz X N scope sD.heap.objs.size sD (upd H2 D (.lst [])) fp) rfl rfl rfl hc i [] s5 σ5 H5 (λ _ _ => False) I5 (stat fr5) st5 stop) λ r s6 ⟨hr, I6⟩ => ?_
   subst hr
   obtain ⟨m, hn, _⟩ := I6.loc
   exact ⟨m, hn, λ h' sb => ⟨.ref D, H5, w6 I3 f3 I6 sb, rfl, q⟩⟩
  ·
   refine thn (T.item (Fz X N scope sD.heap.objs.size sD (upd H2 D (.lst [])) fp) rfl rfl rfl hc i [] s5 σ5 H5 (λ _ _ => False) I5 (stat fr5) st5 go) λ r s6 ⟨u, hr, h6⟩ => ?_
   subst hr
   refine thn h6 λ _ s7 ⟨x, H7, I7, r7, y7, st7, fr7⟩ => ?_
   have I7' := I7.pinned (stat fr7) (T.obj _ _ st7)
   refine thn (hg _ s7 σ5 H7 x u _ I7' r7 (step x H7 y7)) λ _ s8 ⟨σ8, H8, I8, q8⟩ => ?_
   refine thn (hif _ s8 σ8 H8 _ I8 q8) λ b s9 ⟨H9, I9, q9⟩ => ?_
   have back : ∀ {σ' : St} {H' : Hp} {s' : Shared}, Inv (Fz X N scope sD.heap.objs.size sD (upd H2 D (.lst [])) fp) ([] ++ kn fp s7.heap) σ' H' s' -> tn (i + 1) s'.heap /\ ∀ b ∈ fp, H' b = none := λ {σ' H' s'} J' =>
    ⟨T.keep _ _ _ st7 λ b hb o e => (J'.pin (b, o) (Ant _ (Ant _ (Mr hb e)))).1, λ b hb => by
     obtain ⟨o, e, d⟩ := T.obj _ _ st7 b hb
     exact (J'.pin (b, o) (Ant _ (Ant _ (Mr hb e)))).2.1⟩
   cases b with
   |
    false =>
    obtain ⟨m', hm, w9⟩ := (show ∃ m', m' < n /\ W (i + 1) m' ys σ8 H9 from q9)
    exact ⟨m', hm, i + 1, ys, σ8, H9, I9.unpinned, (back I9).1, (back I9).2, w9⟩
   |
    true =>
    refine thn (hel _ s9 σ8 H9 _ I9 (show te σ8 H9 _ from q9)) λ y s10 ⟨v10, H10, I10, r10, q10⟩ => ?_
    obtain ⟨hD10, hz, m', hm, w10⟩ := q10
    refine thn (fb (X := Fz X N scope sD.heap.objs.size sD (upd H2 D (.lst [])) fp) _ s10 σ8 H10 (.ref D) [v10] (.ref D) [y] (λ _ H' => H' = upd H10 D (.lst (ys ++ [v10]))) I10 rfl (.cons r10 .nil) ⟨D, ys, v10, rfl, rfl, hD10, hz, rfl⟩) λ _ s11 ⟨v11, H11, I11, _, e11⟩ => ?_
    subst e11
    exact ⟨m', hm, i + 1, ys ++ [v10], σ8, _, I11.unpinned, (back I11).1, (back I11).2, w10⟩
 subst hsD
 subst hD
 exact codeAny_compStart_list loop (T.self _ 0 _ _ _ st4 loop)
def B8 (hg : Gl X x) (hm : ∃ t, X.mg x = some (.int i t)) (hd : (x == ("__debug__" : Str)) = false := by decide) : PE X (.Name x pos) (tC (.int i)) := by
 obtain ⟨t, e⟩ := hm
 exact zx hg e ⟨t, rfl⟩ hd
def xw (hg : Gl X x) (hm : X.mg x = some (.ref a)) (hd : (x == ("__debug__" : Str)) = false := by decide) : PE X (.Name x pos) (tC (.ref a)) := zx hg hm rfl hd
def Aes : OpR X (compareOp .Is) (λ x y H Q => ∃ a b, x = .bl a /\ y = .bl b /\ Q (.bl (a == b)) H) := by
 intro pins s σ H x y v u Q I rx ry h
 obtain ⟨a, b, rfl, rfl, q⟩ := h
 cases rx; cases ry
 exact is_bool ⟨.bl _, H, I, rfl, q⟩
def ui : J0 X (.builtin "isinstance") (λ xs H Q => ∃ x T t b, xs = [x, .ty T] /\ i3 X.K H x t /\ W.kitOne X.K t (.type T) = some b /\ Q (.bl b) H) := by
 intro pins s σ H xs us Q I r h
 obtain ⟨x, T, t, b, rfl, ty, e, q⟩ := h
 obtain ⟨u, v, rfl, ru, rv⟩ := r.two
 cases rv
 exact Aa3 I ru ty e λ tk => ⟨.bl b, H, I.tok tk, rfl, q⟩
def Ad0 (hc : X.calm = true) : J0 X (.builtin "sum") (λ xs H Q => ∃ (p : Addr) (ns : List Int), xs = [.ref p] /\ SqL X.K H p (ns.map V.int) /\ Q (.int ns.sum) H) := by
 intro pins s σ H xs us Q I r h
 obtain ⟨p, ns, rfl, hq, q⟩ := h
 obtain ⟨u, rfl, ru⟩ := r.one
 cases ru
 obtain ⟨its, rv, pl, hz⟩ := I.list hq
 have hi := intsAre_of rv
 obtain ⟨xs, hx⟩ := hi.allInts.items
 refine sum_intListG (I.ok.hd hc) (hx ▸ pl.isList) λ h' tk t' hk => ?_
 have e1 : ns = xs.toList.map (·.1) := by
  rw [← nums_intItems, ← hx]
  exact (show numsOf its.toArray.toList = ns from hi.numsOf).symm
 have e2 : preSum (numAt xs) xs.size = ns.sum := by
  rw [preSum_eq, List.take_of_length_le dks, e1]
 rw [e2]
 exact ⟨.int _, H, I.kept hk, ⟨_, rfl⟩, q⟩
structure FunD (K : W.Frag) (x qual : Str) (st : Stmt) (f : Addr) (fd : FuncData) : Prop where
 ex : ∃ (oc : Value) (od : Option Addr) (dV kV doc pm : Value) (an : Option Addr) (cdv ct : Value) (osl : Array (Option Value)),
  fd = W.fnOf x qual (Bc st) (Ay st) (Ah st) dV kV doc pm an cdv ct /\ K.lookup f = some ⟨oc, od, .func fd, osl⟩ /\ W.codeIn K cdv qual = true
 kp : W.keepIn K (.ref f) = true
def FunD.ok {P : Program} {K : W.Frag} {mg : Str -> Option Value} {base : Heap} {cm : Bool} {x qual : Str} {st : Stmt} {f : Addr} {fd : FuncData} {N ps : List Str} {k : Nat} {sp : Sp} (F : FunD K x qual st f fd) (S : Aw N ps (Ah st)) (len : ∀ vs H Q E, sp vs H Q E -> vs.length = ps.length)
  (hbody : ∀ (cdv : Value) (A : Around) (outer : List Env) (s : Shared) (H : Hp) (vs : List V) (Q : VK) (E : XK), Room cm k (A.deeper (envOfC qual (Ah st) s.heap.objs.size f cdv)) -> sp vs H Q E ->
   ∃ t, PSs (xn CX0 cm P w K mg base N qual (Ah st) f cdv A outer s H E).nox (Ay st) t /\ t { nx := λ _ H' => Q .non H', rt := λ _ => Q } (start N vs) H) : FnOk P w K mg base CX0 cm (k + 1) f fd ps sp := by
 obtain ⟨oc, od, dV, kV, doc, pm, an, cdv, ct, osl, rfl, lk, hcd⟩ := F.ex
 exact Ah1 lk hcd S len λ A outer s H vs Q E hr h => by
  obtain ⟨t, ht, q⟩ := hbody cdv A outer s H vs Q E hr h
  exact ⟨t, ht.nox, q⟩
def Ka {K : W.Frag} {x qual : Str} {st : Stmt} {f : Addr} {oc : Value} {od an : Option Addr} {osl : Array (Option Value)} {dV kV doc pm cdv ct : Value} (l : K.lookup f = some ⟨oc, od, .func (W.fnOf x qual (Bc st) (Ay st) (Ah st) dV kV doc pm an cdv ct), osl⟩)
  (c : W.codeIn K cdv qual = true) (k : W.keepIn K (.ref f) = true) : FunD K x qual st f (W.fnOf x qual (Bc st) (Ay st) (Ah st) dV kV doc pm an cdv ct) :=
 ⟨⟨oc, od, dV, kV, doc, pm, an, cdv, ct, osl, rfl, l, c⟩, k⟩
def Seq (J : It) (H : Hp) (xs : List V) : Prop := ∀ H', Same H H' -> (∀ (i : Nat) x, xs[i]? = some x -> J.go i H' /\ ∀ x' H2, J.yld i H' x' H2 -> x' = x /\ H2 = H') /\ J.stop xs.length H'
def Lf (lo : Int) (n : Nat) (H : Hp) : Seq (Itr lo n) H ((List.range n).map λ (i : Nat) => V.int (lo + (i : Int))) := λ H' _ => by
 refine ⟨λ i x e => ?_, ?_⟩
 ·
  have hi : i < n := by
   have := (Ang.mp e).1
   simpa using this
  refine ⟨hi, λ x' H2 hy => ?_⟩
  obtain ⟨e1, e2⟩ := hy
  rw [Anu, List.getElem?_range hi] at e
  exact ⟨e2.trans (An7 e), e1⟩
 ·
  show n <= _
  simp
def Qf {K : W.Frag} {H : Hp} {a : Addr} {xs : List V} (h : SqL K H a xs) : Seq (Itl K a) H xs := λ H' s => by
 have h' := s.seq h
 refine ⟨λ i x e => ⟨⟨xs, x, h', e⟩, λ x' H2 hy => ?_⟩, ⟨xs, h', Anh _⟩⟩
 obtain ⟨e1, e2⟩ := hy
 have := e2 xs h'
 rw [e] at this
 exact ⟨(An7 this).symm, e1⟩
def Same.seqT {K : W.Frag} {H H' : Hp} {a : Addr} {xs : List V} (e : Same H H') (h : SqT K H a xs) : SqT K H' a xs := by
 rcases h with (h | ⟨o, h⟩) | h
 · exact .inl (.inl (e _ _ h))
 · exact .inl (.inr ⟨o, e _ _ h⟩)
 · exact .inr h
def Tw {K : W.Frag} {H : Hp} {a : Addr} {xs : List V} (h : SqT K H a xs) : Seq (Itt K a) H xs := λ H' s => by
 have h' := s.seqT h
 refine ⟨λ i x e => ⟨⟨xs, x, h', e⟩, λ x' H2 hy => ?_⟩, ⟨xs, h', Anh _⟩⟩
 obtain ⟨e1, e2⟩ := hy
 have := e2 xs h'
 rw [e] at this
 exact ⟨(An7 this).symm, e1⟩
def Ai (h : H p = none) : Same H (upd H p o) := λ b u e => by rw [An (Aq e h)]; exact e
def Oz {J : It} {xs : List V} {g : TG} {tb : TS} {D : Ends} {σ : St} {H0 H : Hp} (hJ : Seq J H0 xs) (Pv : Nat -> St -> Hp -> Prop) (h0 : Pv 0 σ H) (hsm : ∀ i σ H, i <= xs.length -> Pv i σ H -> Same H0 H)
  (hs : ∀ (i : Nat) x σ H, xs[i]? = some x -> Pv i σ H -> g x σ H λ σ2 H2 => tb { D with nx := Pv (i + 1), ct := Pv (i + 1), bk := D.nx } σ2 H2) (hd : ∀ σ H, Pv xs.length σ H -> D.nx σ H) :
  ∃ W : Nat -> Nat -> St -> Hp -> Prop, (∃ m, W 0 m σ H) /\ ∀ i m σ H, W i m σ H ->
   (J.stop i H /\ D.nx σ H) ∨ (J.go i H /\ ∃ N : St -> Hp -> Prop, (∀ σ' H', N σ' H' -> ∃ m', m' < m /\ W (i + 1) m' σ' H') /\ ∀ x H', J.yld i H x H' -> g x σ H' λ σ2 H2 => tb { D with nx := N, ct := N, bk := D.nx } σ2 H2) := by
 refine ⟨λ i m σ H => m = xs.length - i /\ i <= xs.length /\ Pv i σ H, ⟨xs.length, dks, Aon _, h0⟩, ?_⟩
 rintro i m σ H ⟨rfl, hi, p⟩
 obtain ⟨q1, q2⟩ := hJ H (hsm i σ H hi p)
 by_cases hlt : i < xs.length
 ·
  have e : xs[i]? = some xs[i] := by simp [hlt]
  obtain ⟨go, y⟩ := q1 i _ e
  refine .inr ⟨go, Pv (i + 1), λ σ' H' p' => ⟨xs.length - (i + 1), dkm, rfl, hlt, p'⟩, λ x H' hy => ?_⟩
  obtain ⟨rfl, rfl⟩ := y x H' hy
  exact hs i _ σ _ e p
 ·
  have e : i = xs.length := by omega
  subst e
  exact .inl ⟨q2, hd σ H p⟩
def La (hJ : Seq J H1 xs) (p : V -> Bool) (f : V -> V) (hsz : xs.length <= 100000)
  (hp : ∀ x ∈ xs, ∀ H', Same H1 H' -> ∀ R : Bool -> Hp -> Prop, (∀ H'', Same H' H'' -> R (p x) H'') -> tt ((Us cap σ).set 0 (some x)) H' R)
  (he : ∀ x ∈ xs, p x = true -> ∀ H', Same H1 H' -> ∀ R : VK, (∀ H'', Same H' H'' -> R (f x) H'') -> te ((Us cap σ).set 0 (some x)) H' R)
  (k : ∀ D H', Same H1 H' -> H1 D = none -> H' D = some (.lst ((xs.filter p).map f)) -> Q (.ref D) H') :
  Rb J H1 cap (df 0) tt te σ Q := by
 intro D hD
 refine ⟨λ i m ys σ' H' => m = xs.length - i /\ i <= xs.length /\ (∀ v, σ'.set 0 v = (Us cap σ).set 0 v) /\ H' D = some (.lst ys) /\ Same H1 H' /\ ys = ((xs.take i).filter p).map f,
  ⟨xs.length, dks, Aon _, λ _ => rfl, Ae, Ai hD, dks⟩, ?_⟩
 rintro i m ys σ' H' ⟨rfl, hi, hσ, hl, sm, hys⟩
 refine ⟨hl, ?_⟩
 obtain ⟨q1, q2⟩ := hJ H' sm
 by_cases hlt : i < xs.length
 ·
  have e : xs[i]? = some xs[i] := by simp [hlt]
  obtain ⟨go, y⟩ := q1 i _ e
  refine .inr ⟨go, λ x H2 hy => ?_⟩
  obtain ⟨rfl, rfl⟩ := y x H2 hy
  have hm : xs[i] ∈ xs := Aoz hlt
  have etake : xs.take (i + 1) = xs.take i ++ [xs[i]] := by rw [Ar2, e]; rfl
  show tt (σ'.set 0 (some xs[i])) _ _
  rw [hσ]
  refine hp _ hm _ sm _ λ H4 s4 => ?_
  have hss : ∀ v, ((Us cap σ).set 0 (some xs[i])).set 0 v = (Us cap σ).set 0 v := λ v => by rw [Aqu]
  cases hb : p xs[i] with
  |
   false =>
   refine Aji ⟨xs.length - (i + 1), dkm, rfl, hlt, hss, s4 _ _ hl, sm.trans s4, ?_⟩
   rw [etake, Apt, hys]
   simp [hb]
  |
   true =>
   refine Ag3 ?_
   refine he _ hm hb _ (sm.trans s4) _ λ H5 s5 => ?_
   have hl5 := s5 _ _ (s4 _ _ hl)
   refine ⟨hl5, ?_, xs.length - (i + 1), dkm, rfl, hlt, hss, Ae, λ b o eb => ?_, ?_⟩
   ·
    have h1 : ys.length <= xs.length := by
     rw [hys, Am9]
     exact Anb (Apc _ _) (List.length_take_le' _ _)
    have h2 : (100000 : Nat) < sizeLine := by decide
    omega
   ·
    rw [An (Aq eb hD)]
    exact s5 _ _ (s4 _ _ (sm _ _ eb))
   ·
    rw [etake, Apt, hys]
    simp [hb]
 ·
  have e : i = xs.length := by omega
  subst e
  refine .inl ⟨q2, k D _ sm hD ?_⟩
  rw [hl, hys, Apo]
def Aft {α : Type} {xs : List α} {i : Int} (h0 : 0 <= i) (h1 : i < xs.length) : atI xs i = some (xs[i.toNat]'dkm) := by
 have := Q1 (xs := xs) (j := i.toNat) (v := xs[i.toNat]'dkm) dks
 rw [show ((i.toNat : Nat) : Int) = i by omega] at this
 exact this
def ax {ts : List Int} {i : Int} (h0 : 0 <= i) (h1 : i < ts.length) : ∃ t, t ∈ ts /\ atI (ts.map V.int) i = some (.int t) := by
 refine ⟨ts[i.toNat]'dkm, Aoz _, ?_⟩
 rw [Aft h0 (by simpa using h1)]
 simp
def litOf : Expr -> Option V
 | .Constant (.int i) _ _ => some (.int i)
 | .Constant (.str x) _ _ => some (.str x)
 | .Constant (.bool b) _ _ => some (.bl b)
 | .Constant .none _ _ => some .non
 | .UnaryOp .USub (.Constant (.int i) _ _) _ => some (.int (-i))
 | _ => none
def litsOf : List Expr -> Option (List V)
 | [] => some []
 |
  e :: r => match litOf e, litsOf r with
  | some v, some vs => some (v :: vs)
  | _, _ => none
def Ahl (h : litOf e = some v) : PE X e (tC v) /\ ∀ es : List Expr, starEach (e :: es) X.env = (false, eval e X.env) :: starEach es X.env := by
 unfold litOf at h
 split at h
 · cases h; exact ⟨Ab, λ _ => rfl⟩
 · cases h; exact ⟨Bh, λ _ => rfl⟩
 · cases h; exact ⟨Sv, λ _ => rfl⟩
 · cases h; exact ⟨Gq, λ _ => rfl⟩
 ·
  rename_i i j p q
  cases h
  refine ⟨λ pins s σ H Q I hq => m6 Aex Ab pins s σ H Q I ⟨_, rfl, hq⟩, λ _ => rfl⟩
 · cases h
theorem wq : ∀ {es : List Expr} {vs : List V}, litsOf es = some vs -> PA X es (λ _ H Q => Q vs H)
 | [], vs, h => by cases h; exact Ad
 |
  e :: r, vs, h => by
  unfold litsOf at h
  split at h
  ·
   rename_i v ws h1 h2
   cases h
   have p := Ahl (X := X) h1
   exact Aa p.1 (wq h2) (p.2 r)
  · cases h
def litsAre (es : List Expr) (vs : List V) : Bool := decide (litsOf es = some vs)
def Yx (vs : List V) (h : litsAre es vs = true) : PA X es (λ _ H Q => Q vs H) := wq (Am8 h)
end L2
namespace L2
theorem Nt (m : Int) : ∀ ns : List Int, inV (.int m) (ns.map V.int) = decide (m ∈ ns)
 | [] => rfl
 |
  n :: ns => by
  have ih := Nt m ns
  unfold inV at *
  rw [An9, Aql, ih]
  have e : eqV (.int n) (.int m) = decide (m = n) := by
   show (n == m) = _
   by_cases h : m = n
   · subst h; simp
   · rw [Ane h]; exact Apk.mpr (Aq6 h)
  rw [e, ← Bool.decide_or]
  exact Aop.mpr (by rw [Anf])
end L2
namespace L2
open PySem PySem.Spec PyProof.Rows
variable {X : Cx} {pins : List (Addr × Obj)} {σ : St} {H : Hp} {H' : Hp} {s : Shared}
variable {w : World} {A : Around}
theorem Vals.of_get : ∀ {xs : List V} {us : List Value}, xs.length = us.length -> (∀ (j : Nat) (x : V) (u : Value), xs[j]? = some x -> us[j]? = some u -> RelV x u) -> Vals xs us
 | [], [], _, _ => .nil
 | x :: xs, u :: us, h, k => .cons (k 0 x u rfl rfl) (Vals.of_get (by simpa using h) λ j y w a b => k (j + 1) y w (by simpa using a) (by simpa using b))
end L2
namespace L2
open PySem PySem.Spec PySem.Calls PyProof.Rows Builtin Builtin.ObjectAttr Builtin.Getset_descriptor
variable {prog : Program} {w : World}
variable {X : Cx}
theorem Room.mark (r : Room cm k A) (v : Option Value) : Room false k (A.mark v) := ⟨(λ z => nomatch z), r.dp, r.un⟩
variable {pins : List (Addr × Obj)} {σ : St} {H : Hp} {H' : Hp} {s : Shared}
end L2
namespace L2
open PySem PySem.Spec PyProof.Rows
section
variable {X : Cx} {K : W.Frag} (hK : X.K = K)
include hK
def Ags : IxR X (Alk K) := by subst hK; exact Ah2
def Aco : IxR X (Alj K) := by subst hK; exact Afb
def Ae6 : SlR X (Alc K) := by subst hK; exact Aev
def Mq : OpR X (compareOp .In) (rIn K false) := by subst hK; exact Ab7
def V0 : OpR X (compareOp .NotIn) (rIn K true) := by subst hK; exact qo
def Ds : J0 X (.builtin "len") (λ xs H Q => ∃ p ys, xs = [.ref p] /\ (SqL K H p ys ∨ SqT K H p ys) /\ Q (.int ys.length) H) := by subst hK; exact qt
def Xs : J0 X (.type "list") (λ xs H Q => ∃ p ys, xs = [.ref p] /\ (SqL K H p ys ∨ SqT K H p ys) /\ ∀ l, H l = none -> Q (.ref l) (upd H l (.lst ys))) := by subst hK; exact rj
def B6 : J0 X (.type "tuple") (λ xs H Q => ∃ p ys, xs = [.ref p] /\ ((SqL K H p ys /\ ∀ l, H l = none -> Q (.ref l) (upd H l (.tup ys))) ∨ (SqT K H p ys /\ Q (.ref p) H))) := by subst hK; exact n8
def Er : J0 X (.builtin "isinstance") (λ xs H Q => ∃ x T t b, xs = [x, .ty T] /\ i3 K H x t /\ W.kitOne K t (.type T) = some b /\ Q (.bl b) H) := by subst hK; exact ui
def Abl (hc : X.calm = true) : J0 X (.builtin "sum") (λ xs H Q => ∃ (p : Addr) (ns : List Int), xs = [.ref p] /\ SqL K H p (ns.map V.int) /\ Q (.int ns.sum) H) := by subst hK; exact Ad0 hc
def Rf (hl : PE X l tl) : PI X tg l (Ahf K tl) := by subst hK; exact Af8 hl
def Sw (hl : PE X l tl) : PI X tg l (Ak9 K tl) := by subst hK; exact Aio hl
end
end L2
set_option maxHeartbeats 0
namespace L2
open PySem PySem.W PyProof.Rows
variable {s : Shared}
abbrev RA := Addr × (Int × Int)
def refs (rs : List RA) : List V := rs.map λ x => V.ref x.1
def RowOk (H : Hp) (rs : List RA) : Prop := ∀ x ∈ rs, H x.1 = some (.tup [.int x.2.1, .int x.2.2])
variable {prog : Program} {w : World} {A : Around} {E : Value -> Shared -> Prop}
end L2
namespace L2
open PySem PySem.Spec PyProof.Rows PySem.SeqAt
def sps (rs : List RA) : List (Int × Int) := rs.map (·.2)
def hu2 (hr : Room cm k A) : A.units + 2 < cLine := Aox (Nat.add_le_add_left (by decide : 2 <= 64) _) hr.units
def l8 {rs : List RA} {i : Nat} {x : V} (h : (refs rs)[i]? = some x) : ∃ y, rs[i]? = some y /\ y ∈ rs /\ x = .ref y.1 := by
 unfold refs at h
 rw [Anu] at h
 obtain ⟨y, e, rfl⟩ := Aqb.mp h
 exact ⟨y, e, Aoa e, rfl⟩
def RowOk.up (h : RowOk H rs) (s : Same H H') : RowOk H' rs := λ x hx => s _ _ (h x hx)
def RowOk.nil : RowOk H [] := λ _ h => nomatch h
def Qi (rs : List RA) : (refs rs).length = rs.length := Am9 ..
def Nc (rs : List RA) : (sps rs).length = rs.length := Am9 ..
variable {X : Cx}
def F5 (F : Addr) (H H' : Hp) : Prop := ∀ b o, b ≠ F -> H b = some o -> H' b = some o
end L2
namespace L2
open PySem PySem.Spec PySem.Calls PyProof.Rows Builtin Builtin.Str
variable {X : Cx}
end L2
namespace L2
open PySem PySem.Spec PySem.Calls PyProof.Rows
variable {X : Cx}
structure Ans (X : Cx) (m : Str) (n : Nat) (C : Addr) (R : V -> List V -> Hp -> VK -> Prop) : Prop where
 cls : Cls X.K C
 run : ∃ (f : Addr) (fd : FuncData) (ps : List Str) (ds : List Value) (dvs : List V) (CX : CXT) (cm : Bool) (k : Nat) (sp : Sp) (E : XK), Meth X.K C m f /\ FnOk X.prog X.w X.K X.mg X.base CX cm k f fd ps sp /\ Room cm k X.A /\ Binds X.K fd ps ds /\ Vals dvs ds /\ Passes CX X E /\
  ∀ x vs H Q, vs.length = n -> R x vs H Q -> sp (x :: (vs ++ dvs)) H Q E
def Ahu (m : Str) (n : Nat) (D : Addr -> (V -> List V -> Hp -> VK -> Prop) -> Prop) (ta : TE) (t : TA) : TE := λ σ H Q => ta σ H λ x H1 => ∃ a C dx fs R, x = .ref a /\ H1 a = some (.ins C dx fs) /\ fs.lookup m = none /\ D C R /\
 t σ H1 λ vs H2 => vs.length = n /\ R x vs H2 Q
def Adw (he : PE X o ta) (hD : ∀ C R, D C R -> Ans X m n C R) (ha : PA X (e :: es) t)
  (hst : starEach (e :: es) X.env = (false, eval e X.env) :: starEach es X.env := by rfl) (hpl : (backTo pos (starEach es X.env)).any (·.1) = false := by rfl)
  (ht : eval (.Call (.Attribute o m apos) (e :: es) [] pos) X.env = (do
   let ov ← eval o X.env
   standAt apos.atName
   let (f, first) ← holding [ov] (getMethod ov m pl)
   callWith pos f first (backTo pos (starEach (e :: es) X.env)) (backToKw pos (keywordEach [] X.env))) := by rfl) :
  PE X (.Call (.Attribute o m apos) (e :: es) [] pos) (Ahu m n D ta t) := by
 intro pins s σ H Q I h
 refine W.methodCall_KW (pl := pl) (thn (he pins s σ H _ I h) λ u s1 ⟨x, H1, I1, rx, a, C, dx, fs, R, ex, ea, l, d, q⟩ => ?_) ht
 subst ex
 obtain rfl : u = Value.ref a := rx
 obtain ⟨c, f, fd, ps, ds, dvs, CX, cm, k, sp, E, hm, F, hr, hb, hd, hx, hR⟩ := hD C R d
 refine kz I1 ea c hm l ?_
 refine W.callWith_K (first := [.ref a]) (h₀ := X.base) I.ok.mod.kin hm.kp (thn (ha pos pins s1 σ H1 _ I1 q) λ us s2 ⟨vs, H2, I2, r, hn, q2⟩ => ⟨I2.kIn, ?_⟩) hst hpl
 exact wu (us := .ref a :: us) (vs := .ref a :: vs) F hr hb hd hx I2 (.cons rfl r) (hR _ _ _ _ hn q2)
section
variable {X : Cx} {K : W.Frag} {o e value : Expr} {f : Str} {pos pos' : Pos} {ta tv : TE} (hK : X.K = K)
include hK
def Agc (he : PE X e ta) (hb : attributeBase e f X.env (eval e X.env) = eval e X.env := by rfl) : PE X (.Attribute e f pos) (Alh K ta f) := by subst hK; exact Aip he hb
def Agb (ha : PE X o ta) (hv : PE X value tv) (hs : swapsWith value (some (.Attribute o f pos')) pos.line X.env = pure false := by rfl) : PS X (.Assign [.Attribute o f pos'] value pos) (Ala K ta tv f) := by subst hK; exact Ah0 ha hv hs
end
structure Aim (K : W.Frag) (C : Addr) (m : Str) (f : Addr) : Prop where
 ga : W.specialIn K (.ref C) "__getattribute__" = some (some (.builtin "type.__getattribute__"))
 rd : W.readsIn K C (.type "type") = true
 at_ : W.findCls K (.ref C) (.type "type") m = some (.val (.ref f))
 hi : W.handedIn (.ref f) = true
 kp : W.keepIn K (.ref f) = true
def ll (c : Aim X.K C m f) (F : FnOk X.prog X.w X.K X.mg X.base CX cm k f fd ps sp) (hr : Room cm k X.A) (hg : Gl X x) (hm : X.mg x = some (.ref C)) (hb : Binds X.K fd ps ds) (hd : Vals dvs ds) (hx : Passes CX X E)
  (ha : PA X (e :: es) t) (hdb : (x == ("__debug__" : Str)) = false := by decide) (he : starEach (e :: es) X.env = (false, eval e X.env) :: starEach es X.env := by rfl) (hpl : (backTo pos (starEach es X.env)).any (·.1) = false := by rfl)
  (ht : eval (.Call (.Attribute (.Name x p) m apos) (e :: es) [] pos) X.env = (do
   let ov ← eval (.Name x p) X.env
   standAt apos.atName
   let (f, first) ← holding [ov] (getMethod ov m pl)
   callWith pos f first (backTo pos (starEach (e :: es) X.env)) (backToKw pos (keywordEach [] X.env))) := by rfl) :
  PE X (.Call (.Attribute (.Name x p) m apos) (e :: es) [] pos) (Agx sp dvs E t) := by
 intro pins s σ H Q I h
 refine W.methodCall_KW (pl := pl) (de I hg hm ?_ hdb) ht
 refine W.method_cls I.kIn c.ga ?_
 refine W.cls_value I.kIn c.rd c.at_ c.hi ?_
 refine W.callWith_K (first := []) (h₀ := X.base) I.ok.mod.kin c.kp (thn (ha pos pins _ σ H _ (I.tok _) h) λ us s1 ⟨vs, H1, I1, r, q⟩ => ⟨I1.kIn, ?_⟩) he hpl
 exact wu F hr hb hd hx I1 r q
end L2
namespace L2
open PySem PySem.Spec PyProof.Rows
def Af4 {X : Cx} {K : W.Frag} {es : List Expr} {k : Nat} {t : TGs} {n : Nat} {pos : Pos} (hK : X.K = K) (hc : X.calm = true) (h : PGs X es t)
 (hn : (assignEach es X.env).length = n := by rfl) (hst : (assignEach es X.env).findIdx? (·.1) = none := by rfl) : PG X (.Tuple es k pos) (Aj0 K n t) := by subst hK; exact wj hc h hn hst
def Aao {K : W.Frag} {J : It} {cap : List (Option Nat)} {tt : TT} {te : TE} {σ : St} {H1 : Hp} {Q : VK} {rs : List RA} (hJ : Seq J H1 (refs rs)) (ok : RowOk H1 rs) (p : Int × Int -> Bool) (f : Int × Int -> V) (hsz : rs.length <= 100000)
  (hp : ∀ y ∈ rs, ∀ H', Same H1 H' -> ∀ R : Bool -> Hp -> Prop, (∀ H'', Same H' H'' -> R (p y.2) H'') -> tt (((Us cap σ).set 0 (some (.int y.2.1))).set 1 (some (.int y.2.2))) H' R)
  (he : ∀ y ∈ rs, p y.2 = true -> ∀ H', Same H1 H' -> ∀ R : VK, (∀ H'', Same H' H'' -> R (f y.2) H'') -> te (((Us cap σ).set 0 (some (.int y.2.1))).set 1 (some (.int y.2.2))) H' R)
  (k : ∀ D H', Same H1 H' -> H1 D = none -> H' D = some (.lst (((sps rs).filter p).map f)) -> Q (.ref D) H') :
  Rb J H1 cap (Aj0 K 2 (Ae4 (df 0) (Ae4 (df 1) Alb))) tt te σ Q := by
 intro D hD
 refine ⟨λ i m ys σ' H' => m = rs.length - i /\ i <= rs.length /\ (∀ v w, (σ'.set 0 v).set 1 w = ((Us cap σ).set 0 v).set 1 w) /\ H' D = some (.lst ys) /\ Same H1 H' /\ ys = (((sps rs).take i).filter p).map f,
  ⟨rs.length, dks, Aon _, λ _ _ => rfl, Ae, Ai hD, dks⟩, ?_⟩
 rintro i m ys σ' H' ⟨rfl, hi, hσ, hl, sm, hys⟩
 refine ⟨hl, ?_⟩
 obtain ⟨q1, q2⟩ := hJ H' sm
 by_cases hlt : i < rs.length
 ·
  have e : (refs rs)[i]? = some (.ref (rs[i]).1) := by unfold refs; simp [hlt]
  have es : (sps rs)[i]? = some (rs[i]).2 := by unfold sps; simp [hlt]
  obtain ⟨go, y⟩ := q1 i _ e
  refine .inr ⟨go, λ x H2 hy => ?_⟩
  obtain ⟨rfl, rfl⟩ := y x H2 hy
  have hm : rs[i] ∈ rs := Aoz hlt
  have etake : (sps rs).take (i + 1) = (sps rs).take i ++ [(rs[i]).2] := by rw [Ar2, es]; rfl
  refine ⟨(rs[i]).1, _, rfl, Asd (sm _ _ (ok _ hm)), rfl, _, _, rfl, _, _, rfl, rfl, ?_⟩
  show tt ((σ'.set 0 (some (.int (rs[i]).2.1))).set 1 (some (.int (rs[i]).2.2))) _ _
  rw [hσ]
  refine hp _ hm _ sm _ λ H4 s4 => ?_
  have hss : ∀ v w, ((((Us cap σ).set 0 (some (.int (rs[i]).2.1))).set 1 (some (.int (rs[i]).2.2))).set 0 v).set 1 w = ((Us cap σ).set 0 v).set 1 w := λ v w => by
   rw [List.set_comm _ _ (by decide : (1 : Nat) ≠ 0), Aqu, Aqu]
  cases hb : p (rs[i]).2 with
  |
   false =>
   refine Aji ⟨rs.length - (i + 1), dkm, rfl, hlt, hss, s4 _ _ hl, sm.trans s4, ?_⟩
   rw [etake, Apt, hys]
   simp [hb]
  |
   true =>
   refine Ag3 ?_
   refine he _ hm hb _ (sm.trans s4) _ λ H5 s5 => ?_
   have hl5 := s5 _ _ (s4 _ _ hl)
   refine ⟨hl5, ?_, rs.length - (i + 1), dkm, rfl, hlt, hss, Ae, λ b o eb => ?_, ?_⟩
   ·
    have h1 : ys.length <= rs.length := by
     rw [hys, Am9]
     refine Anb (Apc _ _) ?_
     rw [Aoy, Nc]
     exact Asb _ _
    have h2 : (100000 : Nat) < sizeLine := by decide
    omega
   ·
    rw [An (Aq eb hD)]
    exact s5 _ _ (s4 _ _ (sm _ _ eb))
   ·
    rw [etake, Apt, hys]
    simp [hb]
 ·
  have e : i = rs.length := by omega
  subst e
  have e2 : (refs rs).length = rs.length := Qi rs
  refine .inl ⟨e2 ▸ q2, k D _ sm hD ?_⟩
  rw [hl, hys, ← Nc rs, Apo]
end L2
namespace L2
open PySem PySem.Spec PyProof.Rows PySem.SeqAt
variable {X : Cx}
def Ad3 (hJ : Seq J H1 (refs rs)) (ok : RowOk H1 rs) (p : Int × Int -> Bool) (f : Int × Int -> V) (hsz : rs.length <= 100000)
  (hp : ∀ y ∈ rs, ∀ H', Same H1 H' -> ∀ R : Bool -> Hp -> Prop, (∀ H'', Same H' H'' -> R (p y.2) H'') -> tt ((Us cap σ).set 0 (some (.ref y.1))) H' R)
  (he : ∀ y ∈ rs, p y.2 = true -> ∀ H', Same H1 H' -> ∀ R : VK, (∀ H'', Same H' H'' -> R (f y.2) H'') -> te ((Us cap σ).set 0 (some (.ref y.1))) H' R)
  (k : ∀ D H', Same H1 H' -> H1 D = none -> H' D = some (.lst (((sps rs).filter p).map f)) -> Q (.ref D) H') :
  Rb J H1 cap (df 0) tt te σ Q := by
 intro D hD
 refine ⟨λ i m ys σ' H' => m = rs.length - i /\ i <= rs.length /\ (∀ v, σ'.set 0 v = (Us cap σ).set 0 v) /\ H' D = some (.lst ys) /\ Same H1 H' /\ ys = (((sps rs).take i).filter p).map f,
  ⟨rs.length, dks, Aon _, λ _ => rfl, Ae, Ai hD, dks⟩, ?_⟩
 rintro i m ys σ' H' ⟨rfl, hi, hσ, hl, sm, hys⟩
 refine ⟨hl, ?_⟩
 obtain ⟨q1, q2⟩ := hJ H' sm
 by_cases hlt : i < rs.length
 ·
  have e : (refs rs)[i]? = some (.ref (rs[i]).1) := by unfold refs; simp [hlt]
  have es : (sps rs)[i]? = some (rs[i]).2 := by unfold sps; simp [hlt]
  obtain ⟨go, y⟩ := q1 i _ e
  refine .inr ⟨go, λ x H2 hy => ?_⟩
  obtain ⟨rfl, rfl⟩ := y x H2 hy
  have hm : rs[i] ∈ rs := Aoz hlt
  have etake : (sps rs).take (i + 1) = (sps rs).take i ++ [(rs[i]).2] := by rw [Ar2, es]; rfl
  show tt (σ'.set 0 (some (.ref (rs[i]).1))) _ _
  rw [hσ]
  refine hp _ hm _ sm _ λ H4 s4 => ?_
  have hss : ∀ v, ((Us cap σ).set 0 (some (.ref (rs[i]).1))).set 0 v = (Us cap σ).set 0 v := λ v => by rw [Aqu]
  cases hb : p (rs[i]).2 with
  |
   false =>
   refine Aji ⟨rs.length - (i + 1), dkm, rfl, hlt, hss, s4 _ _ hl, sm.trans s4, ?_⟩
   rw [etake, Apt, hys]
   simp [hb]
  |
   true =>
   refine Ag3 ?_
   refine he _ hm hb _ (sm.trans s4) _ λ H5 s5 => ?_
   have hl5 := s5 _ _ (s4 _ _ hl)
   refine ⟨hl5, ?_, rs.length - (i + 1), dkm, rfl, hlt, hss, Ae, λ b o eb => ?_, ?_⟩
   ·
    have h1 : ys.length <= rs.length := by
     rw [hys, Am9]
     refine Anb (Apc _ _) ?_
     rw [Aoy, Nc]
     exact Asb _ _
    have h2 : (100000 : Nat) < sizeLine := by decide
    omega
   ·
    rw [An (Aq eb hD)]
    exact s5 _ _ (s4 _ _ (sm _ _ eb))
   ·
    rw [etake, Apt, hys]
    simp [hb]
 ·
  have e : i = rs.length := by omega
  subst e
  have e2 : (refs rs).length = rs.length := Qi rs
  refine .inl ⟨e2 ▸ q2, k D _ sm hD ?_⟩
  rw [hl, hys, ← Nc rs, Apo]
end L2
namespace L2
open PySem PySem.Spec PyProof.Rows
variable {X : Cx}
def Amh (t u : TS) : TS := λ D σ H => ∃ P : St -> Hp -> Prop, t { D with nx := P } σ H /\ ∀ σ' H', P σ' H' -> u D σ' H'
theorem J3 {st : Stmt} {rest : List Stmt} {t u : TS} (h1 : PS X st t) (h2 : PSs X rest u) : PSs X (st :: rest) (Amh t u) := by
 intro pins s σ H D I h
 obtain ⟨P, ha, hb⟩ := h
 refine wpAny_execs_cons (thn (h1 pins s σ H { D with nx := P } I ha) λ f s1 q => ?_)
 cases f with
 |
  next =>
  obtain ⟨σ', H', I', q⟩ := q
  exact h2 pins s1 σ' H' D I' (hb σ' H' q)
 | ret v => exact q
 | brk => exact q
 | cont => exact q
end L2
namespace L2
open PySem PySem.Spec PySem.Calls PyProof.Rows
structure MkN (K : W.Frag) (C : Addr) : Prop where
 makes : W.makesIn K C = true
 init : W.findIn K (.ref C) "__init__" = some (some (.builtin "object.__init__"))
 kp : W.keepIn K (.ref C) = true
def Ahy (C : Addr) : TE := λ _ H Q => ∀ x dx, H x = none -> H dx = none -> dx ≠ x -> Q (.ref x) (upd (upd H dx (.own x)) x (.ins C dx []))
variable {X : Cx}
def Ada (M : MkN X.K C) (hg : Gl X x) (hm : X.mg x = some (.ref C)) (hdb : (x == ("__debug__" : Str)) = false := by decide) : PE X (.Call (.Name x p) [] [] pos) (Ahy C) := by
 intro pins s0 σ H Q I0 h
 refine Ao8 (de I0 hg hm ?_ hdb)
 refine W.callWith_K0 I0.kIn M.kp (Aqz ?_)
 have hq := h (s0.heap.objs.size + 1) s0.heap.objs.size (I0.hok.fresh (Aqo _)) (I0.hok.fresh (Anh _)) (Anm (Aoq _))
 have I2 := Inv.made (C := C) I0
 have KX := I0.kIn
 obtain ⟨hh, g, d, t, os⟩ := s0
 have Y := W.makes_of (M := model X.prog X.w) KX M.makes
 refine W.make_core Y (W.looks_findIn KX M.init) (λ self => W.Looks.of_pure (W.oi_bind self)) (.inr ⟨rfl, rfl⟩) ?_
 have e2 : ((hh.push W.emptyDict).push (W.instObj C hh.objs.size)).get? (hh.objs.size + 1) = some (W.instObj C hh.objs.size) := by
  have := Anc (hh.push W.emptyDict) (o := W.instObj C hh.objs.size) rfl
  rwa [Aod] at this
 have t1 : W.Looks (model X.prog X.w) ((hh.push W.emptyDict).push (W.instObj C hh.objs.size)) (typeOf (.ref (hh.objs.size + 1))) (.ref C) := (W.Looks.ld e2).andThen .now
 have t2 : W.Looks (model X.prog X.w) ((hh.push W.emptyDict).push (W.instObj C hh.objs.size)) (isInstance (.ref (hh.objs.size + 1)) (.type "object")) true := t1.andThen (Y.top.keeps λ b o e => Am5 _ (Am5 _ e))
 refine Ap5 W.oi_plain W.entry_oi (@W.check_slot (model X.prog X.w) _ _ _ "object.__init__" "object" "__init__" (.ref (hh.objs.size + 1)) [] [] _ W.oi_kind W.oi_split t2 (W.oi_args (.ref (hh.objs.size + 1))) ?_)
 rw [show ([] ++ [] : List Value) = [] from rfl, W.oi_run]
 exact Am7 (And.intro rfl ⟨V.ref (hh.objs.size + 1), _, I2, rfl, hq⟩)
end L2
namespace L2
open PySem PySem.Spec PyProof.Rows
section
variable (P : Program) (w : World)
end
variable {w : World} {H : Hp} {H' : Hp}
variable {X : Cx} {pins : List (Addr × Obj)} {s : Shared}
variable {σ : St}
variable {E : Value -> Shared -> Prop}
variable {prog : Program} {A : Around}
section
variable {κ : Type} [DecidableEq κ]
def T2 (kvs : List (κ × V)) (k : κ) : Option V := (kvs.find? λ kv => decide (kv.1 = k)).map (·.2)
def putK (kvs : List (κ × V)) (k : κ) (v : V) : List (κ × V) :=
 if (kvs.any λ kv => decide (kv.1 = k)) = true then kvs.map (λ kv => if kv.1 = k then (kv.1, v) else kv) else kvs ++ [(k, v)]
def Je {p : κ × V} {r : List (κ × V)} {k : κ} (e : p.1 = k) : T2 (p :: r) k = some p.2 := by simp [T2, Ap7, e]
def Il {p : κ × V} {r : List (κ × V)} {k : κ} (e : ¬ p.1 = k) : T2 (p :: r) k = T2 r k := by simp [T2, Ap7, e]
theorem a8 (k : κ) : ∀ kvs : List (κ × V), (kvs.any λ kv => decide (kv.1 = k)) = (T2 kvs k).isSome
 | [] => rfl
 |
  p :: r => by
  rw [Aql]
  by_cases e : p.1 = k
  · simp only [Je e, Am6 e, Ark, Option.isSome_some]
  · rw [Il e, Ane e, Bool.false_or]; exact a8 k r
theorem xb (k j : κ) (y : V) : ∀ kvs : List (κ × V), T2 (kvs.map λ kv => if kv.1 = k then (kv.1, y) else kv) j = (T2 kvs j).map λ x => if j = k then y else x
 | [] => rfl
 |
  p :: r => by
  have ih := xb k j y r
  rw [An9]
  by_cases h : p.1 = k
  ·
   rw [if_pos h]
   by_cases e : p.1 = j
   · rw [Je (p := (p.1, y)) e, Je e, Arh, if_pos (e.symm.trans h)]
   · rw [Il (p := (p.1, y)) e, Il e, ih]
  ·
   rw [if_neg h]
   by_cases e : p.1 = j
   · rw [Je (p := p) e, Je e, Arh, if_neg (λ z => h (e.trans z))]
   · rw [Il (p := p) e, Il e, ih]
theorem qz (k j : κ) (y : V) : ∀ kvs : List (κ × V), T2 kvs k = none -> T2 (kvs ++ [(k, y)]) j = if j = k then some y else T2 kvs j
 |
  [], _ => by
  by_cases e : k = j
  · rw [if_pos e.symm]; exact Je (p := (k, y)) e
  · rw [if_neg (λ z => e z.symm)]; exact Il (p := (k, y)) e
 |
  p :: r, hn => by
  rw [List.cons_append]
  have hk : ¬ p.1 = k := λ z => by rw [Je z] at hn; cases hn
  rw [Il hk] at hn
  have ih := qz k j y r hn
  by_cases e : p.1 = j
  · rw [Je e, Je e, if_neg (λ z => hk (e.trans z))]
  · rw [Il e, Il e, ih]
def Qc (kvs : List (κ × V)) (k j : κ) (y : V) : T2 (putK kvs k y) j = if j = k then some y else T2 kvs j := by
 unfold putK
 by_cases a : (kvs.any λ kv => decide (kv.1 = k)) = true
 ·
  rw [if_pos a, xb]
  rw [a8] at a
  by_cases e : j = k
  ·
   obtain ⟨x, hx⟩ := Aq2.mp a
   rw [if_pos e, e, hx, Arh, if_pos rfl]
  ·
   rw [if_neg e]
   cases T2 kvs j with
   | none => rfl
   | some x => rw [Arh, if_neg e]
 ·
  rw [if_neg a]
  refine qz k j y kvs ?_
  rw [a8] at a
  cases q : T2 kvs k with
  | none => rfl
  | some x => rw [q] at a; exact (a rfl).elim
def Vl (kvs : List (κ × V)) (k : κ) (v : V) : (putK kvs k v).length <= kvs.length + 1 := by
 unfold putK
 split
 · rw [Am9]; omega
 · rw [Anj, Aoi, List.length_nil]; omega
theorem RelO.isSome_eq (r : RelO o u) : o.isSome = u.isSome := by
 cases o with
 |
  none => cases u with
  | none => rfl
  | some _ => exact (show False from r).elim
 |
  some _ => cases u with
  | none => exact (show False from r).elim
  | some _ => rfl
theorem KV.val (r : KV kvs vs) (k : κ) : RelO (T2 kvs k) (valueAt vs k) := by
 unfold KV at r
 induction r with
 | nil => exact True.intro
 |
  @cons p q ps qs h t ih =>
  obtain ⟨h1, h2⟩ := h
  by_cases e : p.1 = k
  ·
   have e' : q.1 = k := h1.symm.trans e
   have b : valueAt (q :: qs) k = some q.2 := by simp [valueAt, Ap7, e']
   rw [Je e, b]; exact h2
  ·
   have e' : ¬ q.1 = k := λ z => e (h1.trans z)
   have b : valueAt (q :: qs) k = valueAt qs k := by simp [valueAt, Ap7, e']
   rw [Il e, b]; exact ih
theorem KV.any (r : KV kvs vs) (k : κ) : (kvs.any λ kv => decide (kv.1 = k)) = vs.any λ kv => decide (kv.1 = k) := by
 unfold KV at r
 induction r with
 | nil => rfl
 | cons h t ih => rw [Aql, Aql, ih, h.1]
theorem KV.repl (r : KV kvs vs) (k : κ) (ry : RelV y u) :
  KV (kvs.map λ kv => if kv.1 = k then (kv.1, y) else kv) (vs.map λ kv => if kv.1 = k then (kv.1, u) else kv) := by
 unfold KV at r ⊢
 induction r with
 | nil => exact .nil
 |
  @cons p q ps qs h t ih =>
  rw [An9, An9]
  refine .cons ?_ ih
  obtain ⟨h1, h2⟩ := h
  by_cases e : p.1 = k
  · rw [if_pos e, if_pos (h1.symm.trans e)]; exact ⟨h1, ry⟩
  · rw [if_neg e, if_neg (λ z => e (h1.trans z))]; exact ⟨h1, h2⟩
def KV.put (r : KV kvs vs) (k : κ) (ry : RelV y u) : KV (putK kvs k y) (stored vs k u) := by
 unfold putK stored
 rw [r.any k]
 by_cases e : (vs.any λ kv => decide (kv.1 = k)) = true
 · rw [if_pos e, if_pos e]; exact r.repl k ry
 · rw [if_neg e, if_neg e]; exact Paired.snoc r ⟨rfl, ry⟩
theorem KV.length (r : KV kvs vs) : kvs.length = vs.length := Paired.length r
end
theorem Abw (r : RelV (kV k) u) : (Gj P w).is k u = true := by
 cases k with
 | inl i => obtain ⟨t, e⟩ := (show ∃ t, u = Value.int i t from r); subst e; exact ux P w i t
 | inr x => obtain ⟨t, e⟩ := (show ∃ t, u = Value.str x t from r); subst e; exact u5 P w x t
theorem p9 : ∀ {ks : List Key} {us : List Value}, Vals (ks.map kV) us -> ItemsAre (Gj P w) ks us
 | [], _, r => by rw [Aqv] at r; cases r; exact .nil
 |
  k :: ks, _, r => by
  rw [An9] at r
  cases r with
  | cons h t => exact .cons (Abw h) (p9 t)
abbrev KT (H : Hp) : List (List Key × V) -> List (List Key × Addr × Value) -> Prop := Paired λ p q => p.1 = q.1 /\ H q.2.1 = some (.tup (p.1.map kV)) /\ RelV p.2 q.2.2
theorem KT.val (r : KT H kvs xs) (k : List Key) : RelO (T2 kvs k) ((atKey xs k).map (·.2)) := by
 induction r with
 | nil => exact True.intro
 |
  @cons p q ps qs h t ih =>
  obtain ⟨h1, _, h2⟩ := h
  by_cases e : p.1 = k
  ·
   have e' : q.1 = k := h1.symm.trans e
   have b : atKey (q :: qs) k = some q.2 := by simp [atKey, Ap7, e']
   rw [Je e, b]; exact h2
  ·
   have e' : ¬ q.1 = k := λ z => e (h1.trans z)
   have b : atKey (q :: qs) k = atKey qs k := by simp [atKey, Ap7, e']
   rw [Il e, b]; exact ih
theorem KT.repl (r : KT H kvs xs) (k : List Key) (ry : RelV y u) :
  KT H (kvs.map λ kv => if kv.1 = k then (kv.1, y) else kv) (xs.map (putAt k u)) := by
 induction r with
 | nil => exact .nil
 |
  @cons p q ps qs h t ih =>
  rw [An9, An9]
  refine .cons ?_ ih
  obtain ⟨h1, h2, h3⟩ := h
  unfold putAt
  by_cases e : p.1 = k
  · rw [if_pos e, if_pos (h1.symm.trans e)]; exact ⟨h1, h2, ry⟩
  · rw [if_neg e, if_neg (λ z => e (h1.trans z))]; exact ⟨h1, h2, h3⟩
def KT.put (r : KT H kvs xs) (k : List Key) (hb : H b = some (.tup (k.map kV))) (ry : RelV y u) :
  KT H (putK kvs k y) (storedH xs k b u) := by
 have e : (kvs.any λ kv => decide (kv.1 = k)) = (atKey xs k).isSome := by
  rw [a8, (r.val k).isSome_eq, Option.isSome_map]
 unfold putK storedH
 rw [e]
 by_cases q : (atKey xs k).isSome = true
 · rw [if_pos q, if_pos q]; exact r.repl k ry
 · rw [if_neg q, if_neg q]; exact Paired.snoc r ⟨rfl, hb, ry⟩
def KT.keeps (r : KT H kvs xs) (ht : ∀ b ys, H b = some (.tup ys) -> H' b = some (.tup ys)) : KT H' kvs xs :=
 Paired.mapP r λ _ _ z => ⟨z.1, ht _ _ z.2.1, z.2.2⟩
def Ahk (ok : HOk P w H h) (e : Rd H a u) : ObjOk P w H h a u := e.ok ok
def Adx (ok : HOk P w H h) (e : Rd H a (.dK kvs)) : kvs.length <= sizeLine /\ (a == sysModules) = false /\ ∃ vs, KV kvs vs /\ h.DictOf (Gj P w) a vs :=
 show ObjOk P w H h a (.dK kvs) from Ahk ok e
def Aib (ok : HOk P w H h) (e : H a = some (.dK kvs)) : kvs.length <= sizeLine /\ (a == sysModules) = false /\ ∃ vs, KV kvs vs /\ h.DictOf (Gj P w) a vs := Adx ok (.inl e)
def xv (ok : HOk P w H h) (e : H a = some (.tup (ks.map kV))) : (tupleKind (Gj P w)).is h ks a := by
 obtain ⟨_, its, r, o, h1, h2, n, h3⟩ := (show ObjOk P w H h a (.tup (ks.map kV)) from ok a _ e)
 exact ⟨o, its.toArray, n, h1, h2, h3, by simpa using p9 r⟩
def Acn (ok : HOk P w H h) (e : Rd H a (.dT kvs)) : kvs.length <= sizeLine /\ (a == sysModules) = false /\
  ∃ xs, KT H kvs xs /\ h.DictOfH (tupleKind (Gj P w)) a xs := by
 obtain ⟨z, y, xs, r, o, es, ep, h1, h2, h3, h4, h5⟩ := (show ObjOk P w H h a (.dT kvs) from Ahk ok e)
 refine ⟨z, y, xs, r, o, es, ep, h1, h2, h3, h4, λ x hx => ?_, h5⟩
 have all : ∀ {l : List (List Key × V)} {m : List (List Key × Addr × Value)}, KT H l m -> ∀ x ∈ m, (tupleKind (Gj P w)).is h x.1 x.2.1 := by
  intro l m q
  induction q with
  | nil => intro x hx; exact nomatch hx
  |
   @cons p q ps qs hq t ih =>
   intro x hx
   rcases Anf.mp hx with e | hx
   ·
    subst e
    exact xv ok (by rw [← hq.1]; exact hq.2.1)
   · exact ih x hx
 exact all r x hx
def Akg (ok : HOk P w H h) (e : H a = some (.dT kvs)) : kvs.length <= sizeLine /\ (a == sysModules) = false /\
 ∃ xs, KT H kvs xs /\ h.DictOfH (tupleKind (Gj P w)) a xs := Acn ok (.inl e)
def DGet (H : Hp) (a : Addr) (y : V) (r : Option V) : Prop :=
 (∃ kvs k, Rd H a (.dK kvs) /\ y = kV k /\ r = T2 kvs k) ∨ ∃ kvs k b, Rd H a (.dT kvs) /\ y = .ref b /\ H b = some (.tup (k.map kV)) /\ r = T2 kvs k
def DPut (H : Hp) (a : Addr) (y v : V) (H' : Hp) : Prop :=
 (∃ kvs k, H a = some (.dK kvs) /\ y = kV k /\ kvs.length < sizeLine /\ H' = upd H a (.dK (putK kvs k v))) ∨
 ∃ kvs k b, H a = some (.dT kvs) /\ y = .ref b /\ H b = some (.tup (k.map kV)) /\ kvs.length < sizeLine /\ H' = upd H a (.dT (putK kvs k v))
theorem DGet.k {H : Hp} {a : Addr} {kvs : List (Key × V)} {k : Key} (e : H a = some (.dK kvs)) : DGet H a (kV k) (T2 kvs k) := .inl ⟨kvs, k, .inl e, rfl, rfl⟩
theorem DPut.k {H : Hp} {a : Addr} {kvs : List (Key × V)} {k : Key} {v : V} (e : H a = some (.dK kvs)) (hl : kvs.length < sizeLine) : DPut H a (kV k) v (upd H a (.dK (putK kvs k v))) := .inl ⟨kvs, k, e, rfl, hl, rfl⟩
def Inv.big (I : Inv X pins σ H s) : sysModules < s.heap.objs.size := by
 have h : mainGlobals < s.heap.objs.size := (I.mod.glob.keeps I.bk).lt
 exact Nat.lt_trans dkd h
def z6 (hu : A.units + 1 < cLine) (I : Inv X pins σ H s) (g : DGet H a y (some v)) (ry : RelV y u) (h : ∀ w' s', Inv X pins σ H s' -> RelV v w' -> Q w' s') :
  wpAny (model X.prog X.w) A (getItem (.ref a) u) Q E s := by
 rcases g with ⟨kvs, k, e, ey, l⟩ | ⟨kvs, k, b, e, ey, eb, l⟩
 ·
  subst ey
  obtain ⟨z, hd, vs, rel, dd⟩ := Adx I.hok e
  obtain ⟨w', hw, rw'⟩ := RelO.some_of (v := v) (o := valueAt vs k) (by rw [l]; exact rel.val k)
  exact wpAny_getItem_of (Abw ry) dd.mapOf hw (h w' _ (I.tok _) rw')
 ·
  subst ey
  cases (show u = Value.ref b from ry)
  obtain ⟨z, hd, xs, rel, dd⟩ := Acn I.hok e
  obtain ⟨w', hw, rw'⟩ := RelO.some_of (v := v) (o := (atKey xs k).map (·.2)) (by rw [l]; exact rel.val k)
  obtain ⟨p, hp, hp2⟩ := Aqb.mp hw
  refine wpAny_getItem_heap (tupleKind_room_in1 hu) (xv I.hok eb) dd hp ?_
  rw [hp2]
  exact h w' _ (I.tok _) rw'
def Ae5 (hu : A.units + 1 < cLine) (I : Inv X pins σ H s) (g : DGet H a y o) (ry : RelV y u) (h : ∀ s', Inv X pins σ H s' -> Q (.bool (!o.isSome)) s') :
  wpAny (model X.prog X.w) A (compareOp .NotIn u (.ref a)) Q E s := by
 rcases g with ⟨kvs, k, e, ey, l⟩ | ⟨kvs, k, b, e, ey, eb, l⟩
 ·
  subst ey
  obtain ⟨z, hd, vs, rel, dd⟩ := Adx I.hok e
  refine wpAny_notIn_of (Abw ry) hd dd.mapOf ?_
  rw [← (rel.val k).isSome_eq, ← l]
  exact h _ (I.tok _)
 ·
  subst ey
  cases (show u = Value.ref b from ry)
  obtain ⟨z, hd, xs, rel, dd⟩ := Acn I.hok e
  refine wpAny_notIn_heap (tupleKind_room_in1 hu) (xv I.hok eb) hd dd ?_
  have q := (rel.val k).isSome_eq
  rw [Option.isSome_map] at q
  rw [← q, ← l]
  exact h _ (I.tok _)
def vi (I : Inv X pins σ H s) (mu : Mut (H a)) (hs : Heap.SameBut a s.heap h') (he : ∃ q, h'.get? a = some q) (new : ObjOk X.prog X.w (upd H a ob) h' a ob) :
  Inv X pins σ (upd H a ob) { s with heap := h', toks := t' } :=
 I.write (x := a) (e := a) mu (.inl rfl) (λ b q hb z => (hs.2 b hb).trans z) he new
def Aeu (z : kvs.length <= sizeLine) (hd : (a == sysModules) = false) (rel : KV kvs vs) (dd : h'.DictOf (Gj P w) a vs) :
 ObjOk P w H' h' a (.dK kvs) := ⟨z, hd, vs, rel, dd⟩
def Aa2 (hu : A.units + 1 < cLine) (I : Inv X pins σ H s) (g : DPut H a y v H') (ry : RelV y u) (rv : RelV v r) (h : ∀ s', Inv X pins σ H' s' -> Q () s') :
  wpAny (model X.prog X.w) A (setItem (.ref a) u r) Q E s := by
 rcases g with ⟨kvs, k, e, ey, l, eH⟩ | ⟨kvs, k, b, e, ey, eb, l, eH⟩
 ·
  subst ey eH
  obtain ⟨z, hd, vs, rel, dd⟩ := Aib I.hok e
  have hz : vs.length <= sizeLine := by rw [← rel.length]; exact z
  have hl : (putK kvs k v).length <= sizeLine := by have := Vl kvs k v; omega
  refine wpAny_setItem_pairs (hsz := hz) (Abw ry) dd λ h' dd' hs => h _ ?_
  have he : ∃ q, h'.get? a = some q := let ⟨q, _, _, hq, _⟩ := dd'; ⟨q, hq⟩
  exact vi I (by rw [e]; exact True.intro) hs he (Aeu hl hd (rel.put k rv) dd')
 ·
  subst ey eH
  cases (show u = Value.ref b from ry)
  obtain ⟨z, hd, xs, rel, dd⟩ := Akg I.hok e
  have hz : xs.length <= sizeLine := by rw [← Paired.length rel]; exact z
  have hl : (putK kvs k v).length <= sizeLine := by have := Vl kvs k v; omega
  refine wpAny_setItem_heap (hsz := hz) (tupleKind_room_in1 hu) (xv I.hok eb) dd λ h' dd' hs => h _ ?_
  obtain ⟨q, es, ep, hq, h2, h3, h4, _, h5⟩ := dd'
  refine vi I (by rw [e]; exact True.intro) hs ⟨q, hq⟩ ⟨hl, hd, _, (rel.put k eb rv).keeps λ c ys ec => ?_, q, es, ep, hq, h2, h3, h4, h5⟩
  rw [An (Ajv ec e (λ z => nomatch z))]
  exact ec
def Alr (i : Expr) : Prop := ∀ ov iv, subscripted i false ov iv = operate [ov, iv] (getItem ov iv)
def Afx {prog : Program} {w : World} {A : Around} {E : Value -> Shared -> Prop} {s : Shared} {env : Env} {value slice : Expr} {pos : Pos} {T id : String} {Q : Value -> Shared -> Prop}
  (hl : typeLookup (.type T) "__getitem__" = pure (some (.builtin id))) (hs : Alr slice)
  (h : wpAny (model prog w) A (eval value env) (λ o s₁ => wpAny (model prog w) A (eval slice env) (λ i s₂ => s₂.TypeIs o T /\ wpAny (model prog w) A (getItem o i) Q E s₂) E s₁) E s) :
  wpAny (model prog w) A (eval (.Subscript value slice pos) env) Q E s := by
 refine Subscript_ (Ao3 h (λ o s₁ h₁ => Ao3 h₁ (λ i s₂ h₂ => ?_) λ _ _ x => x) λ _ _ x => x)
 obtain ⟨hT, h₂⟩ := h₂
 unfold subscriptTail
 refine Am4 ?_
 rw [getitemInPython_of_ne hT.not_modules]
 refine Am4 (Arw hT hl ?_)
 have fin : wpAny (model prog w) A (subscripted slice false o i) (λ r s₃ => wpAny (model prog w) A (letTemporaryGo value o r >>= λ _ => pure r) Q E s₃) E s₂ := by
  rw [hs o i]
  exact wpAny_operating (Ao3 h₂ (λ r s₃ h₃ => Am4 (wpAny_letTemporaryGo (Am7 h₃))) λ _ _ x => x)
 first
  | exact Am7 (Am4 fin)
  | exact Am4 (Am7 (Am4 fin))
  | exact Am4 fin
def ur (I : Inv X pins σ H s) (g : DGet H a y o) : s.TypeIs (.ref a) "dict" := by
 rcases g with ⟨kvs, k, e, _, _⟩ | ⟨kvs, k, b, e, _, _, _⟩
 ·
  obtain ⟨_, _, vs, _, dd⟩ := Adx I.hok e
  exact dd.typeIs
 ·
  obtain ⟨_, _, xs, _, dd⟩ := Acn I.hok e
  exact dd.typeIs
def Ajs (td ty : TE) : TE := λ σ H Q => td σ H λ x H1 => ty σ H1 λ y H2 => ∃ a v, x = .ref a /\ DGet H2 a y (some v) /\ Q v H2
def Agl (ty td : TE) : TE := λ σ H Q => ty σ H λ y H1 => td σ H1 λ x H2 => ∃ a o, x = .ref a /\ DGet H2 a y o /\ Q (.bl (!o.isSome)) H2
def Akw (td ty tv : TE) : TS := λ D σ H => tv σ H λ v H1 => td σ H1 λ x H2 => ty σ H2 λ y H3 => ∃ a H4, x = .ref a /\ DPut H3 a y v H4 /\ D.nx σ H4
def Af1 (hu : X.A.units + 1 < cLine) (ho : PE X o td) (hi : PE X i ty) (hs : Alr i) : PE X (.Subscript o i pos) (Ajs td ty) := by
 intro pins s σ H Q I h
 refine Afx PySem.F.slot_dict_getitem.lookup hs (thn (ho pins s σ H _ I h) λ u s1 ⟨x, H1, I1, rx, q1⟩ => thn (hi pins s1 σ H1 _ I1 q1) λ iv s2 ⟨y, H2, I2, ry, a, v, ex, g, q2⟩ => ?_)
 subst ex
 obtain rfl : u = Value.ref a := rx
 exact ⟨ur I2 g, z6 hu I2 g ry λ w' s3 I3 rw' => ⟨v, H2, I3, rw', q2⟩⟩
def qd (hu : X.A.units + 1 < cLine) (hi : PE X i ty) (ho : PE X o td) : PC X .NotIn i o (Agl ty td) := by
 intro pins s σ H Q I h
 refine thn (hi pins s σ H _ I h) λ iv s1 ⟨y, H1, I1, ry, q1⟩ => thn (ho pins s1 σ H1 _ I1 q1) λ u s2 ⟨x, H2, I2, rx, a, ov, ex, g, q2⟩ => ?_
 subst ex
 obtain rfl : u = Value.ref a := rx
 exact Ae5 hu I2 g ry λ s3 I3 => ⟨.bl (!ov.isSome), H2, I3, rfl, q2⟩
def Aa0 (hu : X.A.units + 1 < cLine) (ho : PE X o td) (hi : PE X i ty) (hv : PE X value tv) (hs : swapsWith value (some (.Subscript o i pos')) pos.line X.env = pure false) :
  PS X (.Assign [.Subscript o i pos'] value pos) (Akw td ty tv) := by
 intro pins s σ H D I h
 refine wpAny_Assign_Subscript (thn (hv pins s σ H _ I h) λ r s1 ⟨v, H1, I1, rv, q1⟩ => thn (ho pins s1 σ H1 _ I1 q1) λ u s2 ⟨x, H2, I2, rx, q2⟩ => thn (hi pins s2 σ H2 _ I2 q2) λ iv s3 ⟨y, H3, I3, ry, a, H4, ex, g, q3⟩ => ?_) hs
 subst ex
 obtain rfl : u = Value.ref a := rx
 exact Aa2 hu I3 g ry rv λ s4 I4 => ⟨σ, H4, I4, q3⟩
def xq (h : Heap) (hb : sysModules < h.objs.size) : ObjOk P w H (h.push { cls := .type "dict", data := .dict #[] }) h.objs.size (.dK []) :=
 ⟨Aon _, Apk.mpr (Aq6 (Anm hb)), [], .nil, Heap.DictOf.new h⟩
def Ai6 : TE := λ _ H Q => ∀ p, H p = none -> Q (.ref p) (upd H p (.dK []))
def Adt : PE X (.Dict [] [] pos) Ai6 := λ pins s σ H Q I h =>
 wpAny_Dict_empty ⟨.ref s.heap.objs.size, _, I.laid (a := s.heap.objs.size) (o := .dK []) (t' := s.toks) (λ _ _ q => Am5 _ q) (Anh _) (xq s.heap I.big), rfl, h _ (I.hok.fresh (Anh _))⟩
def zu : List (TE × TE) -> St -> Hp -> (List (V × V) -> Hp -> Prop) -> Prop
 | [], _, H, Q => Q [] H
 | (tk, tv) :: r, σ, H, Q => tk σ H λ x H1 => tv σ H1 λ y H2 => zu r σ H2 λ ps H3 => Q ((x, y) :: ps) H3
abbrev VV : List (V × V) -> List (Value × Value) -> Prop := Paired λ p q => RelV p.1 q.1 /\ RelV p.2 q.2
def PPs (X : Cx) (pos : Pos) (keys : List (Option Expr)) (values : List Expr) (trs : List (TE × TE)) : Prop :=
 ∀ (pins : List (Addr × Obj)) (s : Shared) (σ : St) (H : Hp) (Q : List (V × V) -> Hp -> Prop), Inv X pins σ H s -> zu trs σ H Q ->
  wpAny (model X.prog X.w) X.A (evalPairs (pairTrees keys values X.env pos)) (λ vs s' => ∃ ps H', Inv X pins σ H' s' /\ VV ps vs /\ Q ps H') X.xe s
def Afv : PPs X pos [] [] [] := λ pins s σ H Q I h => pairTrees_nil_walk ⟨[], H, I, .nil, h⟩
def mf (hk : PE X k tk) (hv : PE X v tv) (hr : PPs X pos ks vs trs) :
  PPs X pos (some k :: ks) (v :: vs) ((tk, tv) :: trs) := λ pins s σ H Q I h =>
 pairTrees_cons_walk (thn (hk pins s σ H _ I h) λ u s1 ⟨x, H1, I1, rx, q1⟩ => thn (hv pins s1 σ H1 _ I1 q1) λ w2 s2 ⟨y, H2, I2, ry, q2⟩ =>
  thn (hr pins s2 σ H2 _ I2 q2) λ ws s3 ⟨ps, H3, I3, rel, q3⟩ => ⟨(x, y) :: ps, H3, I3, .cons ⟨rx, ry⟩ rel, q3⟩)
def Ze (kvs more : List (Key × V)) : List (Key × V) := more.foldl (λ acc kv => putK acc kv.1 kv.2) kvs
theorem KV.merge : ∀ {more : List (Key × V)} {rs : List (Key × Value)} {kvs : List (Key × V)} {vs : List (Key × Value)}, KV more rs -> KV kvs vs -> KV (Ze kvs more) (merged vs rs) := by
 intro more rs kvs vs r
 unfold KV at r
 induction r generalizing kvs vs with
 | nil => intro q; exact q
 |
  @cons p q ps qs h t ih =>
  intro r0
  have e : KV (putK kvs p.1 p.2) (stored vs q.1 q.2) := by
   have := r0.put p.1 h.2
   rw [← h.1]; exact this
  exact ih e
theorem Xk : ∀ (more kvs : List (Key × V)), (Ze kvs more).length <= kvs.length + more.length
 | [], kvs => by show kvs.length <= kvs.length + 0; omega
 |
  p :: r, kvs => by
  have h1 := Xk r (putK kvs p.1 p.2)
  have h2 := Vl kvs p.1 p.2
  show (Ze (putK kvs p.1 p.2) r).length <= _
  rw [Aoi]; omega
theorem lb {P : Program} {w : World} : ∀ {kvs : List (Key × V)} {ws : List (Value × Value)}, VV (kvs.map λ kv => (kV kv.1, kv.2)) ws -> ∃ rs, Carries (Gj P w) ws rs /\ KV kvs rs
 | [], _, r => by rw [Aqv] at r; cases r; exact ⟨[], True.intro, .nil⟩
 |
  p :: kvs, _, r => by
  rw [An9] at r
  cases r with
  |
   @cons a b as bs h t =>
   obtain ⟨rs, c, q⟩ := lb (P := P) (w := w) t
   obtain ⟨b1, b2⟩ := b
   exact ⟨(p.1, b2) :: rs, ⟨Abw h.1, rfl, c⟩, .cons ⟨rfl, h.2⟩ q⟩
def Aks (trs : List (TE × TE)) : TE := λ σ H Q => ∀ p, H p = none -> zu trs σ (upd H p (.dK [])) λ ps H2 => H2 p = some (.dK []) /\ ∃ kvs : List (Key × V), ps = kvs.map (λ kv => (kV kv.1, kv.2)) /\ kvs.length <= 15 /\ Q (.ref p) (upd H2 p (.dK (Ze [] kvs)))
def Af6 (h : PPs X pos keys values trs) (hall : keys.all (·.isSome) = true) (hl : keys.length = values.length) (h0 : keys ≠ [])
  (h15 : keys.length <= 15) : PE X (.Dict keys values pos) (Aks trs) := by
 intro pins s σ H Q I q
 have hn := I.hok.fresh (Anh s.heap.objs.size)
 have I1 := I.laid (a := s.heap.objs.size) (o := .dK []) (h' := s.heap.push { cls := .type "dict", data := .dict #[] }) (t' := s.toks) (λ _ _ q => Am5 _ q) (Anh _) (xq s.heap I.big)
 refine wpAny_Dict_walk (knd := Gj X.prog X.w) hall hl h0 h15 (thn (h pins _ σ _ _ I1 (q _ hn)) λ ws s2 ⟨ps, H2, I2, rel, e, kvs, ep, lk, q2⟩ => ?_)
 subst ep
 obtain ⟨rs, c, rk⟩ := lb (P := X.prog) (w := X.w) rel
 obtain ⟨z, hd, vs0, r0, dd⟩ := Aib I2.hok e
 cases r0
 refine ⟨rs, c, dd, λ h' dd' hs => ⟨.ref s.heap.objs.size, _, ?_, rfl, q2⟩⟩
 have hz : (Ze [] kvs).length <= sizeLine := by
  have h1 := Xk kvs []
  rw [List.length_nil] at h1
  rw [Aro]; omega
 have he : ∃ q, h'.get? s.heap.objs.size = some q := let ⟨q, _, _, hq, _⟩ := dd'; ⟨q, hq⟩
 exact vi I2 (by rw [e]; exact True.intro) hs he (Aeu hz hd (rk.merge .nil) dd')
end L2
namespace Att
open PySem PySem.W PySem.Calls PyProof.Rows
variable {prog : Program} {w : World} {A : Around} {E : Value -> Shared -> Prop} {s : Shared}
end Att
namespace L2
open PySem PySem.Spec PyProof.Rows
variable {w : World}
variable {X : Cx}
section
variable {κ : Type} [DecidableEq κ]
end
end L2
namespace L2
open PySem PySem.Spec PyProof.Rows PySem.Calls
def Ph (hN0 : X.N.Nodup) (hi0 : X.N[i0]? = some x0) (hx0 : X.env.scope.names.lookup x0 = some .local)
  (S : Cs X.env.scope scope X.N N cap) (hc : X.calm = true) (hi : PI X tgt iter wi)
  (hb : ∀ (C : Addr) (s : Shared) (H : Hp) (fp : List Addr), PG (Fz X N scope C s H fp) tgt g /\ Ajh (Fz X N scope C s H fp) ifs tt /\ PE (Fz X N scope C s H fp) elt te)
  (hclos : closureFor scope X.env = pure (t4 X.env scope.names []) := by with_unfolding_all rfl) (hs : ∀ x, foldedSetIterable iter X.env x = pure x := by intro _; rfl)
  (hsw : swapsWith (.ListComp elt [⟨tgt, iter, ifs, 0⟩] scope pos) (some (.Name x0 pos')) spos.line X.env = pure true := by with_unfolding_all rfl) :
  PS X (.Assign [.Name x0 pos'] (.ListComp elt [⟨tgt, iter, ifs, 0⟩] scope pos) spos) (Ajl (Ajb wi cap g tt te) (df i0)) := by
 intro pins s σ H D0 I h
 rw [exec_Assign_Name_used _ _ _ _ hsw]
 refine Am4 (wpAny_standAt (Am4 ?_))
 show wpAny (model X.prog X.w) X.A (comprehension (.ListComp elt [⟨tgt, iter, ifs, 0⟩] scope pos) scope X.env (firstIterPos [⟨tgt, iter, ifs, 0⟩] pos) (newList []) (firstAsync [⟨tgt, iter, ifs, 0⟩]) (firstIter [⟨tgt, iter, ifs, 0⟩] X.env) (some (assign (.Name x0 pos') X.env)) >>= λ _ => pure ()) _ _ _
 refine Am4 (Ao3 (Q := λ _ s' => SP X pins D0 .next s') ?main (λ _ s' z => Am7 (Am7 z)) λ _ _ z => z)
 refine wpAny_comprehension_free (use := some (assign (.Name x0 pos') X.env)) (cl := t4 X.env scope.names []) rfl hs hclos S.kind S.names ?_
 refine thn (hi pins s σ H _ I h) λ v s1 h1 => thn h1 λ itv s2 h2 => ?_
 obtain ⟨it, fp, tn, J, H2, e, I2, T, st2, f2, k⟩ := h2
 subst e
 refine An8 (Ar0 S.cell (by intro y hy; simp at hy) (λ h₁ hns₁ hsb₁ => ?_) S.kind)
 dsimp only at hns₁ hsb₁ ⊢
 have I3 : Inv X pins σ (upd H2 s2.heap.objs.size (.lst [])) { s2 with heap := s2.heap.push { cls := .type "list", dict := none, data := .seq ([] : List Value).toArray } } := I2.lnew (t' := s2.toks) .nil (Aon _)
 obtain ⟨W, ⟨m0, w0⟩, turn⟩ := k s2.heap.objs.size I2.fresh
 generalize hD : s2.heap.objs.size = D at *
 generalize hsD : ({ s2 with heap := s2.heap.push { cls := .type "list", dict := none, data := .seq ([] : List Value).toArray } } : Shared) = sD at *
 have hsz : sD.heap.objs.size = D + 1 := by rw [← hsD, ← hD]; exact Aod ..
 have hheap : s2.heap.push { cls := .type "list", dict := none, data := .seq ([] : List Value).toArray } = sD.heap := by rw [← hsD]
 rw [hheap] at hns₁ hsb₁ ⊢
 have up : ∀ b o, s2.heap.get? b = some o -> sD.heap.get? b = some o := λ b o e => by rw [← hheap]; exact Am5 _ e
 have keep : ∀ b o, sD.heap.get? b = some o -> h₁.get? b = some o := λ b o e => hsb₁.extBut b o (Anm (Ana e)) (Am5 _ e)
 have hfD : D ∉ fp := λ hm => by
  obtain ⟨o, e, _⟩ := T.obj _ _ st2 D hm
  have := Ana e
  rw [hD] at this
  exact Aor _ this
 have f3 : ∀ b ∈ fp, zk X pins (upd H2 D (.lst [])) b := λ b hb => ⟨by rw [An (λ z => hfD (by rw [← z]; exact hb))]; exact (f2 b hb).1, (f2 b hb).2⟩
 have hlt : ∀ b ∈ fp, b < sD.heap.objs.size := λ b hb => by
  obtain ⟨o, e, _⟩ := T.obj _ _ st2 b hb
  exact Ana (up b o e)
 have I4 := kq (t' := s2.toks + ([] : List (Str × Value)).length) S I3 f3 hlt hns₁ keep
 obtain ⟨hg, hif, hel⟩ := hb sD.heap.objs.size sD (upd H2 D (.lst [])) fp
 have st4 : tn 0 h₁ := T.keep _ _ _ st2 λ b hb o e => keep b o (up b o e)
 have stat : ∀ {H' : Hp}, (∀ b ∈ fp, H' b = none) -> ∀ b ∈ fp, zk (Fz X N scope sD.heap.objs.size sD (upd H2 D (.lst [])) fp) [] H' b := λ hn b hb =>
  ⟨hn b hb, (I4.ok.exf b hb).1, I4.ok.exfs b hb, .inl hb, λ x c h z => (I4.ok.exf b hb).2 x c h z, λ p hp => (by simp [Fz] at hp)⟩
 have loop : codeAny (model X.prog X.w) X.A (.compLoop (.ListComp elt [⟨tgt, iter, ifs, 0⟩] scope pos) 0 (.ref it) (.ref D) (compEnvC scope (t4 X.env scope.names []) sD.heap.objs.size X.env))
   (compPost (model X.prog X.w) X.A X.xe (some (assign (.Name x0 pos') X.env)) (λ _ s' => SP X pins D0 .next s') (.ref D) sD.heap.objs.size) { sD with heap := h₁, toks := s2.toks + ([] : List (Str × Value)).length } := by
  refine Y3 (λ n s' => ∃ i ys σ' H', Inv (Fz X N scope sD.heap.objs.size sD (upd H2 D (.lst [])) fp) [] σ' H' s' /\ tn i s'.heap /\ (∀ b ∈ fp, H' b = none) /\ W i n ys σ' H') ?_ m0
   ⟨0, [], Us cap σ, _, I4, st4, λ b hb => (f3 b hb).1, w0⟩
  rintro n s5 ⟨i, ys, σ5, H5, I5, st5, fr5, w5⟩
  obtain ⟨hD5, way⟩ := turn i n ys σ5 H5 w5
  rcases way with ⟨stop, q⟩ | ⟨go, step⟩
  ·
   refine thn (T.done (Fz X N scope sD.heap.objs.size sD (upd H2 D (.lst [])) fp) rfl rfl rfl hc i [] s5 σ5 H5 (λ _ _ => False) I5 (stat fr5) st5 stop) λ r s6 ⟨hr, I6⟩ => ?_
   subst hr
   obtain ⟨m, hn, _⟩ := I6.loc
   have hn' : s6.heap.Ns sD.heap.objs.size m := hn
   have J6 : Inv X pins σ H5 s6 := w6 I3 f3 I6 (Heap.SameBut.refl _ _)
   have cellNe : ∀ x c, X.env.cells.lookup x = some c -> c ≠ sD.heap.objs.size := λ x c h z => by
    obtain ⟨v, q⟩ := I3.cell x c h
    have := q.lt
    rw [z] at this
    exact Aor _ this
   refine wpAny_assign_Name (tm J6 hN0 hi0 (.inl hx0) (v := .ref D) rfl (λ s7 I7 ⟨a7, sb7, ha7⟩ => ⟨m, hn'.sameBut sb7 (λ z => ?_), λ h' sb => ?_⟩) (.inr hx0))
   ·
    rcases ha7 with e | e
    · exact absurd (z.trans e) (Aos I3.lt)
    · exact cellNe _ _ e z.symm
   ·
    refine ⟨_, H5, I7.turned (t' := s7.toks) (it := sD.heap.objs.size) (λ b o hb e => (sb.2 b hb).trans e) I6.free (Aos I3.lt) (.inr I3.sz) cellNe λ p hp z => ?_, q⟩
    have := Ana (I3.pin p hp).1
    rw [z] at this
    exact Aor _ this
  ·
   refine thn (T.item (Fz X N scope sD.heap.objs.size sD (upd H2 D (.lst [])) fp) rfl rfl rfl hc i [] s5 σ5 H5 (λ _ _ => False) I5 (stat fr5) st5 go) λ r s6 ⟨u, hr, h6⟩ => ?_
   subst hr
   refine thn h6 λ _ s7 ⟨x, H7, I7, r7, y7, st7, fr7⟩ => ?_
   have I7' := I7.pinned (stat fr7) (T.obj _ _ st7)
   refine thn (hg _ s7 σ5 H7 x u _ I7' r7 (step x H7 y7)) λ _ s8 ⟨σ8, H8, I8, q8⟩ => ?_
   refine thn (hif _ s8 σ8 H8 _ I8 q8) λ b s9 ⟨H9, I9, q9⟩ => ?_
   have back : ∀ {σ' : St} {H' : Hp} {s' : Shared}, Inv (Fz X N scope sD.heap.objs.size sD (upd H2 D (.lst [])) fp) ([] ++ kn fp s7.heap) σ' H' s' -> tn (i + 1) s'.heap /\ ∀ b ∈ fp, H' b = none := λ {σ' H' s'} J' =>
    ⟨T.keep _ _ _ st7 λ b hb o e => (J'.pin (b, o) (Ant _ (Ant _ (Mr hb e)))).1, λ b hb => by
     obtain ⟨o, e, d⟩ := T.obj _ _ st7 b hb
     exact (J'.pin (b, o) (Ant _ (Ant _ (Mr hb e)))).2.1⟩
   cases b with
   |
    false =>
    obtain ⟨m', hm, w9⟩ := (show ∃ m', m' < n /\ W (i + 1) m' ys σ8 H9 from q9)
    exact ⟨m', hm, i + 1, ys, σ8, H9, I9.unpinned, (back I9).1, (back I9).2, w9⟩
   |
    true =>
    refine thn (hel _ s9 σ8 H9 _ I9 (show te σ8 H9 _ from q9)) λ y s10 ⟨v10, H10, I10, r10, q10⟩ => ?_
    obtain ⟨hD10, hz, m', hm, w10⟩ := q10
    refine thn (fb (X := Fz X N scope sD.heap.objs.size sD (upd H2 D (.lst [])) fp) _ s10 σ8 H10 (.ref D) [v10] (.ref D) [y] (λ _ H' => H' = upd H10 D (.lst (ys ++ [v10]))) I10 rfl (.cons r10 .nil) ⟨D, ys, v10, rfl, rfl, hD10, hz, rfl⟩) λ _ s11 ⟨v11, H11, I11, _, e11⟩ => ?_
    subst e11
    exact ⟨m', hm, i + 1, ys ++ [v10], σ8, _, I11.unpinned, (back I11).1, (back I11).2, w10⟩
 subst hsD
 subst hD
 exact codeAny_compStart_list loop (T.self _ 0 _ _ _ st4 loop)
end L2
namespace L2
end L2
namespace L2
open PySem PyProof.Rows
variable {A : Around} {E : Value -> Shared -> Prop} {s : Shared}
variable {prog : Program} {w : World}
section lo
end lo
section hi
end hi
def kb {O : KeyOrd} (key : Keyed -> O.α) (p : Array Keyed) (i : Nat) : O.α := key (p.getD i (Value.none, Value.none))
end L2
namespace L2
open PySem PySem.W PyProof.Rows
variable {prog : Program} {w : World} {A : Around} {E : Value -> Shared -> Prop} {s : Shared}
variable {X : Cx}
def uy (S : KdlSrc prog w T r d n P OK) (hh : A.handled = none) (hok : OK s.heap) (hn : n <= sizeLine)
  (h : ∀ h' tk (acc : Array Value), (∀ b o, s.heap.get? b = some o -> h'.get? b = some o) -> s.heap.objs.size <= h'.objs.size -> ItemsOf P acc n -> Q acc.toList { s with heap := h', toks := tk }) : wpAny (model prog w) A (collect (.ref r)) Q E s := by
 unfold collect
 refine Am4 (Ar4 (Aom entry_proto_collect' ?_))
 show wpAny _ _ (do again (.builtin "list.__iadd__" ⟨[← newList [], .ref r], []⟩)) _ _ s
 refine Am4 (wpAny_newList (Am7 ⟨Apx _ dkk, Aom entry_list_iadd' ?_⟩))
 show wpAny _ _ (Builtin.List.listExtendWith (.ref s.heap.objs.size) (.ref r) (.ref s.heap.objs.size)) _ _ { s with heap := s.heap.push (seqObj "list" #[] 0) }
 have hS : (s.heap.push (seqObj "list" #[] 0)).get? s.heap.objs.size = some { cls := .type "list", data := .seq #[] 0 } := Anc _ rfl
 rw [Ao0 PySem.F.plain_list_iadd _]
 refine kdl_extend (A := A) (R := λ r s' => match r with
   |
    Except.ok (Flow.ret v) => wpAny (model prog w) A (match v with
    |
     .ref a => do match (← load a).data with
     | .seq xs _ => pure xs.toList
     | _ => unsupported "internal:collect"
    | _ => unsupported "internal:collect") Q E s'
   | Except.ok _ => False
   | Except.error e => E e s') (s := { s with heap := s.heap.push (seqObj "list" #[] 0) }) S hh (S.keep _ _ hok λ b _ o e => Am5 _ e) s.heap.objs.size (Aos (S.there _ hok).1) (Aos (S.there _ hok).2) (.ref s.heap.objs.size) 0 hS (λ h' tk acc c' hk hS' hacc => ?_) hn
 show wpAny (model prog w) A (do
   let o ← load s.heap.objs.size
   match o.data with
   | .seq xs _ => pure xs.toList
   | _ => unsupported "internal:collect") Q E { s with heap := h', toks := tk }
 refine Am4 (Apv hS' ?_)
 exact Am7 (h h' tk acc (λ b o e => hk b o (Anm (Ana e)) (Am5 _ e)) (Apj (Ana hS')) hacc)
def Ajj : Value -> Int
 | .int i _ => i
 | _ => 0
def Rises (xs : List Nat) : Prop := xs.Pairwise (· < ·)
def Rises.le {xs : Array Nat} (h : Rises xs.toList) {i k x y : Nat} (hi : xs[i]? = some x) (hk : xs[k]? = some y) (l : i <= k) : x <= y := by
 rcases Aqt i k with l' | l'
 ·
  rw [← Aoo] at hi hk
  obtain ⟨a, rfl⟩ := Ang.mp hi
  obtain ⟨b, rfl⟩ := Ang.mp hk
  exact Apj (Apz.mp h i k a b l')
 ·
  have e : i = k := by omega
  subst e
  rw [hi] at hk
  have := An7 hk
  omega
theorem Acp {xs : Array Nat} (hx : Rises xs.toList) {j : Nat} : ∀ (f lo hi : Nat), lo <= hi -> hi <= xs.size -> hi - lo <= f -> (∀ i x, i < lo -> xs[i]? = some x -> x < j) -> (∀ i x, hi <= i -> xs[i]? = some x -> j <= x) ->
  (SetTable.below.go xs j f lo hi) <= xs.size /\ (∀ i x, i < SetTable.below.go xs j f lo hi -> xs[i]? = some x -> x < j) /\ (∀ i x, SetTable.below.go xs j f lo hi <= i -> xs[i]? = some x -> j <= x) := by
 intro f
 induction f with
 |
  zero =>
  intro lo hi h1 h2 h3 a b
  have e : lo = hi := by omega
  subst e
  exact ⟨h2, a, b⟩
 |
  succ f ih =>
  intro lo hi h1 h2 h3 a b
  unfold SetTable.below.go
  split
  ·
   rename_i hl
   have hm : (lo + hi) / 2 < xs.size := by omega
   have em : xs[(lo + hi) / 2]? = some (xs[(lo + hi) / 2]) := An0 hm
   have eg : xs.getD ((lo + hi) / 2) j = xs[(lo + hi) / 2] := by unfold Array.getD; rw [dif_pos hm]; rfl
   dsimp only
   rw [eg]
   split
   ·
    rename_i hj
    refine ih _ _ dkm h2 dkm (λ i x hi' hxx => ?_) b
    exact Aox (hx.le hxx em dkm) hj
   ·
    rename_i hj
    refine ih _ _ dkm dkm dkm a (λ i x hi' hxx => ?_)
    have := hx.le em hxx hi'
    omega
  ·
   have e : lo = hi := by omega
   subst e
   exact ⟨h2, a, b⟩
def below_at (hx : Rises xs.toList) (j : Nat) : SetTable.below xs j <= xs.size /\ (∀ i x, i < SetTable.below xs j -> xs[i]? = some x -> x < j) /\ (∀ i x, SetTable.below xs j <= i -> xs[i]? = some x -> j <= x) := by
 unfold SetTable.below
 refine Acp hx _ _ _ (Aon _) (Anh _) (Anh _) (λ i x h => absurd h (Apu _)) (λ i x h e => ?_)
 rw [Aqc h] at e
 cases e
def x9 (hx : Rises xs.toList) (h : xs[i]? = some p) : SetTable.below xs (p + 1) = i + 1 := by
 obtain ⟨b0, b1, b2⟩ := below_at hx (p + 1)
 rcases Nat.lt_trichotomy (SetTable.below xs (p + 1)) (i + 1) with l | l | l
 ·
  have := b2 i p dkm h
  omega
 · exact l
 ·
  have hs : i + 1 < xs.size := by omega
  have e1 := An0 hs
  have := b1 (i + 1) _ l e1
  have hi : i < xs.size := by omega
  have e0 := An0 hi
  rw [e0] at h
  have hp := An7 h
  have hlt : xs[i] < xs[i + 1] := by
   have := Apz.mp hx i (i + 1) (by simpa using hi) (by simpa using hs) (Aoq _)
   simpa using this
  omega
def yd (hx : Rises xs.toList) : SetTable.below xs 0 = 0 := by
 obtain ⟨b0, b1, b2⟩ := below_at hx 0
 rcases Nat.eq_zero_or_pos (SetTable.below xs 0) with e | e
 · exact e
 ·
  have hs : 0 < xs.size := by omega
  exact absurd (b1 0 _ e (An0 hs)) (Apu _)
def qp {t : SetTable} (ht : Rises t.place.toList) {j : Nat} (h : ∀ i, t.slot j ≠ .live i) : j ∉ t.place.toList := by
 intro hm
 obtain ⟨i, hi⟩ := Aob hm
 rw [Aoo] at hi
 obtain ⟨b0, b1, b2⟩ := below_at ht j
 have hbi : SetTable.below t.place j <= i := by
  rcases Aqt i (SetTable.below t.place j) with l | l
  · exact absurd (b1 i j l hi) (Aor _)
  · exact l
 have his : i < t.place.size := by
  rcases Aqt i t.place.size with l | l
  · exact l
  · rw [Aqc l] at hi; cases hi
 have eb := An0 (show SetTable.below t.place j < t.place.size by omega)
 have e1 := b2 _ _ (Anh _) eb
 have e2 := ht.le eb hi hbi
 refine h (SetTable.below t.place j) ?_
 unfold SetTable.slot
 dsimp only
 rw [eb, show t.place[SetTable.below t.place j] = j from by omega]
 simp
def Ai2 {t : SetTable} (ht : Rises t.place.toList) {j : Nat} (h : j ∉ t.place.toList) : Rises (t.put j).1.place.toList := by
 show Rises (SetTable.insertAt t.place (SetTable.below t.place j) j).toList
 rw [SetTable.toList_insertAt]
 obtain ⟨b0, b1, b2⟩ := below_at ht j
 have lo : ∀ x ∈ t.place.toList.take (SetTable.below t.place j), x < j := λ x hx => by
  obtain ⟨i, hi⟩ := Aob hx
  rw [Arz] at hi
  split at hi
  ·
   rename_i hl
   rw [Aoo] at hi
   exact b1 i x hl hi
  · cases hi
 have hi : ∀ x ∈ t.place.toList.drop (SetTable.below t.place j), j < x := λ x hx => by
  have hm := List.mem_of_mem_drop hx
  obtain ⟨i, hi⟩ := Aob hx
  rw [Aqw, Aoo] at hi
  have := b2 _ x (Arb _ _) hi
  rcases Aqt j x with l | l
  · exact l
  · exact absurd (show j = x by omega) (λ z => h (by rw [z]; exact hm))
 have e : Rises (t.place.toList.take (SetTable.below t.place j) ++ t.place.toList.drop (SetTable.below t.place j)) := by rw [Ari]; exact ht
 obtain ⟨e1, e2, _⟩ := List.pairwise_append.mp e
 refine List.pairwise_append.mpr ⟨e1, List.pairwise_cons.mpr ⟨hi, e2⟩, λ a ha b hb => ?_⟩
 rcases Anf.mp hb with rfl | hb
 · exact lo a ha
 · exact Nat.lt_trans (lo a ha) (hi b hb)
theorem ye : ∀ (f : Nat) (p : SetTable.Probe), (∀ d, p.dummy = some d -> t.slot d = .dummy) -> ∀ j dm, SetTable.probe.go t (λ _ => h + 1) h f p = some (.empty j dm) -> t.slot j = .empty /\ ∀ d, dm = some d -> t.slot d = .dummy := by
 intro f
 induction f with
 | zero => intro p _ j dm e; cases e
 |
  succ f ih =>
  intro p hp j dm e
  have adv : ∀ (q : SetTable.Probe), (t.advance q).dummy = q.dummy := λ q => by unfold SetTable.advance; split <;> rfl
  unfold SetTable.probe.go at e
  split at e
  ·
   rename_i hs
   injection e with e
   injection e with e1 e2
   subst e1; subst e2
   exact ⟨hs, hp⟩
  ·
   rename_i hs
   refine ih _ (λ d hd => ?_) j dm e
   rw [adv] at hd
   injection hd with hd
   rw [← hd]
   exact hs
  ·
   rw [if_neg (by simp; omega)] at e
   refine ih _ (λ d hd => ?_) j dm e
   rw [adv] at hd
   exact hp d hd
def nj {t : SetTable} (ht : Rises t.place.toList) {h : Int} {j : Nat} {b : Bool} (e : t.freeSlot h = some (j, b)) : j ∉ t.place.toList := by
 unfold SetTable.freeSlot at e
 split at e
 ·
  rename_i j0 dm hp
  injection e with e
  obtain ⟨s1, s2⟩ := ye _ _ (λ d hd => by cases hd) _ _ hp
  injection e with e1 e2
  cases dm with
  |
   none =>
   have e1' : j0 = j := e1
   subst e1'
   exact qp ht λ i z => by rw [s1] at z; cases z
  |
   some d =>
   have e1' : d = j := e1
   subst e1'
   exact qp ht λ i z => by rw [s2 d rfl] at z; cases z
 · cases e
def Aea (b : Bool) (t : SetTable) : Prop := Rises t.place.toList /\ t.led = b
def Ac7 : ∀ n, Rises (Array.range n).toList := λ n => by
 rw [Array.toList_range]
 exact List.pairwise_lt_range
def N9 (n : Nat) (h : Aea b t) : Aea b (t.standIn n) := ⟨Ac7 n, h.2⟩
def jt (n : Nat) (h : Aea b t) : Aea b (t.orStandIn n) := by
 unfold SetTable.orStandIn
 split
 · exact h
 · exact N9 n h
def vw (h : Aea b t) (es : Array (Int × Value)) (k : Int) (x : Value) : Aea b (layNew t es k x).2.1 := by
 unfold layNew
 split
 ·
  rename_i j wd hf
  exact jt _ ⟨Ai2 h.1 (nj h.1 hf), h.2⟩
 · exact N9 _ h
theorem Agj {f : Nat -> Option Nat} : ∀ (n : Nat), Rises (((List.range n).filterMap λ j => (f j).map (j, ·)).map (·.1)) := by
 intro n
 have hr : (List.range n).Pairwise (· < ·) := List.pairwise_lt_range
 generalize List.range n = l at hr
 induction l with
 | nil => exact .nil
 |
  cons a l ih =>
  obtain ⟨h1, h2⟩ := Aps.mp hr
  cases hf : f a with
  | none => rw [List.filterMap_cons_none (by rw [hf]; rfl)]; exact ih h2
  |
   some v =>
   rw [List.filterMap_cons_some (b := (a, v)) (by rw [hf]; rfl), An9]
   refine List.pairwise_cons.mpr ⟨λ x hx => ?_, ih h2⟩
   obtain ⟨⟨y, z⟩, hy, rfl⟩ := Anx.mp hx
   obtain ⟨c, hc, e⟩ := List.mem_filterMap.mp hy
   obtain ⟨_, _, e⟩ := Aqb.mp e
   injection e with e1 e2
   subst e1
   exact h1 _ hc
def nu (h : Aea b t) (es : Array (Int × Value)) (k : Nat) : Aea b (relayAll t es k).2.1 := by
 unfold relayAll
 split
 ·
  rename_i t' order hr
  dsimp only
  split
  ·
   unfold SetTable.relaid SetTable.laid at hr
   obtain ⟨ow, _, e⟩ := Option.bind_eq_some_iff.mp hr
   have e' := An7 e
   have e1 := Apw Prod.fst e'
   dsimp only at e1
   rw [← e1]
   exact ⟨Agj _, h.2⟩
  · exact N9 _ h
 · exact N9 _ h
def jm (w : World) : Bool := !w.params.followText "set-order"
section
variable (prog : Program) (w : World)
structure SetP (es : Array (Int × Value)) (t : SetTable) (ds : List Int) : Prop where
 el : ElemsOf (intKind prog w) es.toList
 ks : (es.toList.map λ e => Ajj e.2).Perm ds
 nd : ds.Nodup
 sz : es.size < scanBound
 ft : t.fits es.size = true
 tb : Aea (jm w) t
def Cf (es : Array (Int × Value)) (ep : Nat) (t : SetTable) : Obj := { cls := .type "set", dict := none, data := .set es ep t }
def SetI (a : Addr) (ds : List Int) (h : Heap) : Prop := ∃ es ep t, h.get? a = some (Cf es ep t) /\ SetP prog w es t ds
end
def SetP.len (h : SetP prog w es t ds) : ds.length = es.size := by rw [← h.ks.length_eq, Am9, An4]
def SetP.ints (h : SetP prog w es t ds) : ∀ e ∈ es.toList, ∃ k u, e.2 = .int k u := λ e he => by
 obtain ⟨⟨k, hk, _⟩, _⟩ := h.el e he
 obtain ⟨u, e⟩ := Value.isInt_shape (show Value.isInt k e.2 = true from hk)
 exact ⟨k, u, e⟩
def SetP.has (h : SetP prog w es t ds) (k : Int) : (∃ e ∈ es.toList, (intKind prog w).is k e.2 = true) ↔ k ∈ ds := by
 rw [← h.ks.mem_iff, Anx]
 constructor
 ·
  rintro ⟨e, he, hk⟩
  refine ⟨e, he, ?_⟩
  obtain ⟨u, e'⟩ := Value.isInt_shape (show Value.isInt k e.2 = true from hk)
  rw [e']; rfl
 ·
  rintro ⟨e, he, hk⟩
  refine ⟨e, he, ?_⟩
  obtain ⟨m, u, e'⟩ := h.ints e he
  rw [e'] at hk ⊢
  have hk' : m = k := hk
  rw [hk']
  exact intKind_is prog w k u
def SetP.more (h : SetP prog w es t ds) (u : Tok) (hk : k ∉ ds) (hr : ds.length + 1 < scanBound) : SetP prog w (layNew t es (hashInt k) (.int k u)).1 (layNew t es (hashInt k) (.int k u)).2.1 (ds ++ [k]) := by
 have hp := layNew_perm t es (hashInt k) (.int k u)
 rw [Array.toList_push] at hp
 have hl := h.len
 refine ⟨(h.el.push (k := k) (intKind_is prog w k u) rfl).perm hp, ?_, ?_, ?_, layNew_fits .., vw h.tb ..⟩
 ·
  refine (hp.map _).trans ?_
  rw [Apg]
  exact h.ks.append_right _
 ·
  refine List.nodup_append.mpr ⟨h.nd, List.nodup_cons.mpr ⟨Ao4, .nil⟩, λ x hx y hy => ?_⟩
  rw [An3] at hy
  subst hy
  exact λ z => hk (by rw [← z]; exact hx)
 ·
  rw [← An4, hp.length_eq, Anj, An4]
  show es.size + 1 < scanBound
  omega
def SetP.relay (h : SetP prog w es t ds) (n : Nat) : SetP prog w (relayAll t es n).1 (relayAll t es n).2.1 ds := by
 have hp := relayAll_perm t es n
 refine ⟨h.el.perm hp, (hp.map _).trans h.ks, h.nd, ?_, relayAll_fits .., nu h.tb ..⟩
 rw [← An4, hp.length_eq, An4]
 exact h.sz
theorem SetP.fresh : SetP prog w #[] (.fresh 0 0 (jm w)) [] := by
 refine ⟨λ e z => by simp at z, List.Perm.nil, List.Pairwise.nil, dkd, rfl, List.Pairwise.nil, rfl⟩
def stored {es : Array (Int × Value)} {t : SetTable} {a : Addr} {h : Heap} {ep : Nat} {es' : Array (Int × Value)} {t' : SetTable} (ho : h.get? a = some (Cf es ep t)) : (h.update a (Obj.putSet es' t')).get? a = some (Cf es' (ep + 1) t') :=
 Anq (Obj.putSet es' t') ho rfl
theorem yq {ds : List Int} {a : Addr} {k : Int} {u : Tok} {Q : Bool -> Shared -> Prop} (hS : SetI prog w a ds s.heap) (hr : ds.length + 1 < scanBound)
  (h : ∀ h', Heap.SameBut a s.heap h' -> SetI prog w a (if k ∈ ds then ds else ds ++ [k]) h' -> Q (decide (k ∉ ds)) { s with heap := h' }) :
  wpAny (model prog w) A (setAddHashed a (.int k u) (hashInt k)) Q E s := by
 obtain ⟨es, ep, t, ho, P⟩ := hS
 have hk : (intKind prog w).is k (.int k u) = true := intKind_is prog w k u
 unfold setAddHashed setAddHashedIn
 refine Aou (Am4 (Ap2 ho rfl P.ft ?_))
 dsimp only
 rw [if_pos (byScan_of (knd := intKind prog w) rfl P.sz P.el)]
 unfold setAddByScan
 refine Am4 (Am4 (Aqk (Am4 (wpAny_setScan_of (knd := intKind prog w) hk ho rfl P.ft P.el ?_))))
 cases hf : es.toList.findIdx? (λ e => (intKind prog w).is k e.2) with
 |
  some j =>
  obtain ⟨hj, hpj, _⟩ := List.findIdx?_eq_some_iff_getElem.mp hf
  have hm : k ∈ ds := (P.has k).mp ⟨_, Aoz hj, hpj⟩
  refine Am7 (Am7 ?_)
  have z := h s.heap (Heap.SameBut.refl a s.heap) ⟨es, ep, t, ho, by rw [if_pos hm]; exact P⟩
  rw [Ane (λ c => c hm)] at z
  exact z
 |
  none =>
  have hm : k ∉ ds := λ z => by
   obtain ⟨e, he, w'⟩ := (P.has k).mpr z
   have := List.findIdx?_eq_none_iff.mp hf e he
   rw [w'] at this
   cases this
  have P1 := P.more u hm hr
  dsimp only
  generalize layNew t es (hashInt k) (.int k u) = L at P1 ⊢
  obtain ⟨es1, t1, wd, gv⟩ := L
  dsimp only at P1 ⊢
  have fin : ∀ h', Heap.SameBut a s.heap h' -> SetI prog w a (ds ++ [k]) h' -> Q true { s with heap := h' } := λ h' sb S' => by
   have z := h h' sb (by rw [if_neg hm]; exact S')
   rw [Am6 hm] at z
   exact z
  refine Am4 (Ao3 (Q := λ _ s' => s' = s) (E := E) (by cases gv <;> first | exact Am7 rfl | exact Aqk rfl) (λ _ s' e => ?_) λ _ _ z => z)
  subst e
  refine Apm (λ _ => Am4 (Am7 ?_)) (λ _ => Am4 (Am7 ?_))
  all_goals
   simp only [↓reduceIte]
   refine Am4 (wpAny_storeSet_of ho rfl ?_ (Ard P1.sz))
   have o1 := stored (es' := es1) (t' := t1) ho
   have sb1 := Anp s'.heap a (Obj.putSet es1 t1)
   split
   ·
    have P2 := P1.relay (SetTable.grown es1.size)
    generalize relayAll t1 es1 (SetTable.grown es1.size) = L at P2 ⊢
    obtain ⟨es2, t2, gv2⟩ := L
    dsimp only at P2 ⊢
    refine Am4 (Ao3 (Q := λ _ s2 => s2 = { s' with heap := s'.heap.update a (Obj.putSet es1 t1) }) (E := E) (by cases gv2 <;> first | exact Am7 rfl | exact Aqk rfl) (λ _ s2 e => ?_) λ _ _ z => z)
    subst e
    refine Am4 (wpAny_storeSet_of o1 rfl ?_ (Ard P2.sz))
    refine Am7 (Am7 ?_)
    exact fin _ (sb1.trans (Anp _ a _)) ⟨_, _, _, stored o1, P2⟩
   ·
    refine Am7 (Am7 ?_)
    exact fin _ sb1 ⟨_, _, _, o1, P1⟩
def ins (ds : List Int) (k : Int) : List Int := if k ∈ ds then ds else ds ++ [k]
def Agq (ds : List Int) (k : Int) : (ins ds k).length <= ds.length + 1 := by
 unfold ins
 split
 · exact Aqo _
 · rw [Anj]; exact Anh _
def Ae7 : x ∈ ins ds k ↔ x ∈ ds ∨ x = k := by
 unfold ins
 split
 ·
  rename_i h
  exact ⟨.inl, λ z => z.elim id λ e => by rw [e]; exact h⟩
 · rw [Aog, An3]
theorem ez : ∀ (ns ds : List Int), x ∈ ns.foldl ins ds ↔ x ∈ ds ∨ x ∈ ns
 | [], ds => by simp
 |
  n :: ns, ds => by
  rw [List.foldl_cons, ez ns, Ae7, Anf]
  constructor
  ·
   rintro ((h | h) | h)
   · exact .inl h
   · exact .inr (.inl h)
   · exact .inr (.inr h)
  ·
   rintro (h | h | h)
   · exact .inl (.inl h)
   · exact .inl (.inr h)
   · exact .inr h
def SetI.at' (x : SetI prog w a ds h) (k : ∀ o, h.get? a = some o -> h'.get? a = some o) : SetI prog w a ds h' :=
 let ⟨es, ep, t, ho, P⟩ := x
 ⟨es, ep, t, k _ ho, P⟩
theorem ri {R : Result -> Shared -> Prop} {I : Addr} {fp wr : List Addr} {G : Array GenState -> Array GenState -> Prop} {n : Nat} {P : Nat -> Value -> Prop} {St : Nat -> Shared -> Prop} (W : WalksS prog w A.in1 I fp wr G n P St) (S : Addr) (hSf : S ∉ fp) : ∀ (rest : List Int) (i : Nat) (ds : List Int) (s : Shared), i + rest.length = n -> (∀ j k, rest[j]? = some k -> ∀ v, P (i + j) v -> ∃ t, v = .int k t) -> ds.length + rest.length < scanBound -> St i s -> SetI prog w S ds s.heap ->
  (∀ s', Moved (S :: wr) G s s' -> SetI prog w S (rest.foldl ins ds) s'.heap -> R (.ok (.ret .none)) s') -> codeAny (model prog w) A (.builtin "set.update.loop" ⟨[.ref S, .ref I], []⟩) R s := by
 have off : S ∉ wr := λ z => hSf (W.sub _ z)
 have sub : ∀ b ∈ wr, b ∈ S :: wr := λ b hb => Ann _ hb
 intro rest
 induction rest with
 |
  nil =>
  intro i ds s hi _ _ st hS hR
  have e : i = n := hi
  subst e
  refine Aom F.entry_set_update_loop ?_
  rw [Ao0 Ar6 _]
  show wpAny _ A.in1 (pyNext (.ref I) >>= _) _ _ s
  refine Am4 (W.done s _ _ st λ s' m => ?_)
  exact Am7 (hR s' (m.mono sub) (hS.at' λ o e => m.heap S o off e))
 |
  cons k rest ih =>
  intro i ds s hi hv hz st hS hR
  have hlt : i < n := by simp at hi; omega
  refine Aom F.entry_set_update_loop ?_
  rw [Ao0 Ar6 _]
  show wpAny _ A.in1 (pyNext (.ref I) >>= _) _ _ s
  refine Am4 (W.item i s _ _ hlt st λ v s' hP st' m => ?_)
  obtain ⟨t, rfl⟩ := hv 0 k rfl v hP
  have S1 : SetI prog w S ds s'.heap := hS.at' λ o e => m.heap S o off e
  show wpAny _ A.in1 (holding [Value.int k t] (setAdd S (.int k t)) >>= _) _ _ s'
  refine Am4 (Aou ?_)
  unfold setAdd
  refine Aou (Am4 ((intKind prog w).pyHash (k := k) (intKind_is _ _ _ _) ?_))
  refine yq (s := { s' with toks := s'.toks + 1 }) S1 (by rw [Aoi] at hz; omega) λ h' sb S2 => ?_
  refine Am7 ⟨Aqf Ar6 _, ih (i + 1) (ins ds k) _ (by rw [Aoi] at hi; omega) (λ j k' hj v' hp => hv (j + 1) k' hj v' (by rw [show i + (j + 1) = i + 1 + j by omega]; exact hp)) (by have := Agq ds k; rw [Aoi] at hz; omega) (W.frame _ s' _ _ st' (Aqo _) λ b hb o e => ?_) S2 λ s'' m2 S3 => ?_⟩
  · rw [sb.2 b (λ z => hSf (by rw [← z]; exact hb))]; exact e
  ·
   refine hR s'' (Moved.trans W.gtrans ((m.mono sub).then_heap (Aqo _) λ b o hb e => ?_) m2) S3
   rw [sb.2 b (λ z => hb (by rw [z]; exact Ano))]; exact e
def zq (a : Value) (h : Q₁ (.ref s.heap.objs.size) { s with heap := s.heap.push (Cf #[] 0 (.fresh 0 0 (jm w))) }) :
  codeAny (model prog w) A (.call (.builtin "set.__new__") ⟨[.type "set", a], []⟩) (wants Q₁ E) s := by
 refine Aqg ?_
 show wpAny _ A.in1 (do checkBuiltinCall "set.__new__" ⟨[.type "set", a], []⟩; again (.builtin "set.__new__" ⟨[.type "set", a], []⟩)) _ _ s
 refine Am4 (wpAny_of_eq (F.newCall_set_1 a) (Am7 ⟨Aqf F.plain_set_new _, Aom F.entry_set_new ?_⟩))
 rw [Ao0 F.plain_set_new _]
 unfold Builtin.«set.__new__» Builtin.Frozenset.newClass
 have hsub := sub_set_self
 obtain ⟨hp, g, d, tk, os⟩ := s
 dsimp only
 wp_walk
 refine Ap9 (Am7 ?_)
 dsimp only
 simp only [newObj]
 refine Am4 (wpAny_alloc (Am7 ?_))
 exact Am7 h
theorem Adf {l : Addr} {items : Array Value} {ns : List Int} {Q : Value -> Shared -> Prop} (hh : A.handled = none) (hl : s.heap.IsList l items) (hi : IntsAre items.toList ns) (hb : ns.length < scanBound)
  (h : ∀ h' tk, SetI prog w s.heap.objs.size (ns.foldl ins []) h' -> (∀ b o, s.heap.get? b = some o -> h'.get? b = some o) -> Q (.ref s.heap.objs.size) { s with heap := h', toks := tk }) :
  wpAny (model prog w) A (call (.type "set") [.ref l]) Q E s := by
 obtain ⟨c, tl, hmro⟩ := F.called_set.mro
 have m1 := F.called_set.made
 have m2 := F.called_set.sub
 have m3 := F.called_set.notType
 have m4 := F.called_set.canCreate
 have m5 := F.typeCall_set_1 (.ref l)
 refine Aqz (Aqg ?_)
 show wpAny _ _ (callAny (.type "set") _) _ _ _
 refine Am7 ⟨Apx _ dkk, Aom Are ?_⟩
 rw [Ara (Aqm "set" [.ref l] []) rfl]
 repeat (any_goals (first | assumption | wp_step))
 refine Ao7 (zq (.ref l) (E := E) (Q₁ := λ v s1 => v = .ref s.heap.objs.size /\ s1 = { s with heap := s.heap.push (Cf #[] 0 (.fresh 0 0 (jm w))) }) ⟨rfl, rfl⟩) λ r s1 hr => ?_
 rcases r with e | f
 · exact hr
 cases f with
 |
  ret v =>
  obtain ⟨rfl, rfl⟩ := hr
  have hS : (s.heap.push (Cf #[] 0 (.fresh 0 0 (jm w)))).get? s.heap.objs.size = some (Cf #[] 0 (.fresh 0 0 (jm w))) := Anc _ rfl
  have hT : Shared.TypeIs { s with heap := s.heap.push (Cf #[] 0 (.fresh 0 0 (jm w))) } (.ref s.heap.objs.size) "set" := ⟨_, hS, rfl⟩
  have i1 := F.called_set.init.lookup
  have i2 := F.called_set.init.bind (.ref s.heap.objs.size)
  repeat (any_goals (first | assumption | wp_step))
  refine Ao7 (Ap5 (R := wants (λ r s2 => r = .none /\ ∃ h' tk, s2 = { s with heap := h', toks := tk } /\ SetI prog w s.heap.objs.size (ns.foldl ins []) h' /\ ∀ b o, s.heap.get? b = some o -> h'.get? b = some o) E) F.called_set.init.plain F.entry_set_init (check_set_init_1 hT ?_)) λ r2 s2 h2 => ?_
  ·
   obtain ⟨ol, e1, e2, k, e3⟩ := hl
   obtain ⟨oc, od, oda, osl⟩ := ol
   simp only at e2 e3
   subst e2; subst e3
   have e1' := Am5 (Cf #[] 0 (.fresh 0 0 (jm w))) e1
   have j1 := F.sub_list_set
   have j2 := F.sub_list_frozenset
   have j3 : (Value.type "list" == Value.type "dict") = false := by decide
   have hl1 : (s.heap.push (Cf #[] 0 (.fresh 0 0 (jm w)))).IsList l items := ⟨_, e1', rfl, k, rfl⟩
   unfold Cf at *
   unfold Builtin.«set.__init__» noKeywords Builtin.Frozenset.updateFrom
   generalize hPI : pyIter = PI
   wp_walk
   subst hPI
   refine wpAny_pyIter_list hl1 (Am4 (Ar4 ?_))
   have hlS : l < s.heap.objs.size := Ana e1
   have hn : items.size = ns.length := by rw [← IntsAre.length hi, An4]
   refine ri (G := _) ((Walks.list (by simp [hh]) _ l (by rw [Aod]; exact Anm (Ao1 hlS)) items).toS) s.heap.objs.size (by rw [Aod]; simp only [Anf, Ao4, Aqd, not_or]; exact ⟨Anm (Aoq _), Aos hlS⟩) ns 0 [] _ (by rw [hn]; omega) (λ j x hj v hv => ?_) (by simpa using hb) ⟨⟨_, Anc _ rfl, rfl, rfl⟩, hl1.push _⟩ ⟨#[], 0, _, Am5 _ hS, SetP.fresh⟩ λ s' m S' => ?_
   ·
    obtain ⟨t, e⟩ := IntsAre.int_at hi j v (by rw [Aoo]; have := hv; rw [Nat.zero_add] at this; exact this)
    refine ⟨t, ?_⟩
    rw [e, List.getD_eq_getElem?_getD, hj]
    rfl
   ·
    obtain ⟨h', g', d', tk', os'⟩ := s'
    have q1 : g' = s.gens := m.gens
    have q2 : d' = s.drawn := m.drawn
    have q3 : os' = s.os := m.os
    subst q1; subst q2; subst q3
    show wpAny _ _ _ _ _ _
    refine Am7 ?_
    show wpAny _ _ (ret Value.none) _ _ _
    refine Am7 ⟨rfl, h', tk', rfl, S', λ b o e => ?_⟩
    have hb0 := Ana e
    refine m.heap b o ?_ (Am5 _ (Am5 _ e))
    rw [Aod]
    simp only [Anf, Ao4, Aqd, not_or]
    exact ⟨Anm hb0, Anm (Ao1 hb0)⟩
  ·
   rcases r2 with e | f2
   · exact h2
   cases f2 with
   |
    ret r =>
    obtain ⟨rfl, h', tk, rfl, S', kp⟩ := h2
    repeat (any_goals (first | assumption | wp_step))
    exact h _ _ S' kp
   | _ => exact h2.elim
 | _ => exact hr.elim
def Aef : Manifest.owners.lookup (String.ofList ['r', 'o', 't', 'a', 'r', 'e', 't', 'i', '_', 't', 'e', 's'].reverse) = some Manifest.sig_set_iterator := by kernel_rfl
def Ia : Slot "set_iterator" "__next__" "set_iterator.__next__" :=
 .of (owner := "set_iterator") (n := "__next__") (by rw [Ary, Aqn]; kernel_rfl) dkk dkk dkk (.inl dkk) (by rw [isSubtype_type]; kernel_rfl)
def Xa : entryFor table "set_iterator.__next__" = some Builtin.«set_iterator.__next__» := entryFor_of_tree (by kernel_rfl)
def zb : entryFor table "set.__iter__" = some Builtin.«frozenset.__iter__» := entryFor_alias (id' := "frozenset.__iter__") (by kernel_rfl) rfl dkk (by kernel_rfl)
def az (a : Value) : argsOk "set_iterator.__next__" ⟨[a], []⟩ := by
 unfold argsOk
 rw [signature?_of (id := "set_iterator.__next__") (n := ['_', '_', 't', 'x', 'e', 'n', '_', '_']) (o := ['r', 'o', 't', 'a', 'r', 'e', 't', 'i', '_', 't', 'e', 's']) (by kernel_rfl) Aef]
 kernel_rfl
def xp {α : Type} {l : List α} {i : Nat} (h : i < l.length) : l.Perm (l[i] :: l.eraseIdx i) := by
 rw [List.eraseIdx_eq_take_drop_succ]
 refine List.Perm.trans ?_ List.perm_middle
 rw [← List.drop_eq_getElem_cons h, Ari]
theorem z8 (f : Nat -> Nat) : ∀ (n k : Nat) (l : List α) (out : Array α), l.length = n -> (pickOrder.go f n k l out).toList.Perm (out.toList ++ l)
 |
  0, k, l, out, h => by
  cases l with
  | nil => unfold pickOrder.go; rw [Aoc]
  | cons _ _ => cases h
 |
  n + 1, k, l, out, h => by
  have hl : f k % l.length < l.length := Nat.mod_lt _ dkm
  unfold pickOrder.go
  rw [An6 hl]
  dsimp only
  refine (z8 f n (k + 1) _ _ (by rw [List.length_eraseIdx_of_lt hl]; omega)).trans ?_
  rw [Array.toList_push, List.append_assoc]
  refine List.Perm.append_left _ ?_
  exact (xp hl).symm
def ro (f : Nat -> Nat) (xs : Array α) : (pickOrder f xs).toList.Perm xs.toList := by
 unfold pickOrder
 have := z8 f xs.size 0 xs.toList #[] (by rw [An4])
 simpa using this
def wp_choose (hn : n ≠ 0) (h : ∀ i dr, i < n -> Q i { s with drawn := dr }) : wpAny (model prog w) A (choose src n) Q E s :=
 λ _ _ _ => ⟨hn, h _ _ (Nat.mod_lt _ (Nat.pos_of_ne_zero hn))⟩
theorem Acd : ∀ (n : Nat) (xs : List α) (s : Shared) {Q : List α -> Shared -> Prop}, xs.length = n -> (∀ ys dr, ys.Perm xs -> Q ys { s with drawn := dr }) -> wpAny (model prog w) A (drawOrder n xs) Q E s
 | 0, [], s, Q, _, h => Am7 (h [] s.drawn (.refl _))
 |
  n + 1, x :: xs, s, Q, hl, h => by
  unfold drawOrder
  refine Am4 (wp_choose dks λ i dr hi => ?_)
  have hi' : i < (x :: xs).length := hi
  rw [An6 hi']
  dsimp only
  refine Am4 (Acd n _ _ (by rw [List.length_eraseIdx_of_lt hi']; omega) λ ys dr2 hp => Am7 ?_)
  exact h _ dr2 ((hp.cons _).trans (xp hi').symm)
 | 0, _ :: _, _, _, hl, _ => nomatch hl
 | _ + 1, [], _, _, hl, _ => nomatch hl
def J4 (f : Value) (i : Nat) (a : Addr) (n ep : Nat) : Obj := { cls := .type "set_iterator", data := .fields #[f, .int i 0, .ref a, .int n 0, .int ep 0] }
def Ac4 {a : Addr} {es : Array (Int × Value)} {ep : Nat} {t : SetTable} {ds : List Int} {slot given ep' : Nat} {Q : Option (Value × Nat) -> Shared -> Prop} (ho : s.heap.get? a = some (Cf es ep t)) (P : SetP prog w es t ds) (hb : jm w = true) (hd : ¬ (t.plain = false /\ 1 < es.size))
  (h : Q (match es[SetTable.below t.place slot]?, t.place[SetTable.below t.place slot]? with | some (_, x), some j => some (x, j + 1) | _, _ => none) s) : wpAny (model prog w) A (setNext a slot given ep') Q E s := by
 have hb' : w.params.followText "set-order" = false := by unfold jm at hb; simpa using hb
 unfold setNext
 refine Am4 (Ap2 ho rfl P.ft ?_)
 dsimp only
 unfold setsByText
 refine Am4 (Am4 (Ap9 (Am7 ?_)))
 show wpAny _ _ (if w.params.followText "set-order" = true then _ else _) _ _ _
 rw [if_neg (by rw [hb']; decide)]
 show wpAny _ _ (if (!t.plain && decide (es.size > 1)) = true then _ else _) _ _ _
 rw [if_neg (by intro z; simp at z; exact hd z)]
 refine Am4 ?_
 show wpAny _ _ (if (!t.led && !es.isEmpty) = true then _ else pure ()) _ _ _
 rw [if_neg (by rw [P.tb.2, hb]; simp)]
 exact Am7 (Am7 h)
def Ad4 {a : Addr} {es : Array (Int × Value)} {ep : Nat} {t : SetTable} {ds : List Int} {slot given : Nat} {Q : Option (Value × Nat) -> Shared -> Prop} (ho : s.heap.get? a = some (Cf es ep t)) (P : SetP prog w es t ds) (hb : jm w = false)
  (h : Q (((pickOrder (w.params.setOrder a ep) es)[given]?).map λ e => (e.2, slot)) s) : wpAny (model prog w) A (setNext a slot given ep) Q E s := by
 have hb' : w.params.followText "set-order" = true := by unfold jm at hb; simpa using hb
 unfold setNext
 refine Am4 (Ap2 ho rfl P.ft ?_)
 dsimp only
 unfold setsByText
 refine Am4 (Am4 (Ap9 (Am7 ?_)))
 show wpAny _ _ (if w.params.followText "set-order" = true then _ else _) _ _ _
 rw [if_pos hb', if_neg dks]
 refine Am4 ?_
 unfold setWalk
 refine Am4 (Ap2 ho rfl P.ft ?_)
 dsimp only
 unfold setsByText
 refine Am4 (Am4 (Ap9 (Am7 ?_)))
 show wpAny _ _ (if w.params.followText "set-order" = true then _ else _) _ _ _
 rw [if_pos hb']
 refine Am4 (Ap9 (Am7 (Am7 h)))
def siT (hit : s.heap.get? it = some (J4 f i a n ep)) : s.TypeIs (.ref it) "set_iterator" := ⟨_, hit, rfl⟩
def Ac6 {a it : Addr} {es : Array (Int × Value)} {ep : Nat} {t : SetTable} {ds : List Int} {slot i nx : Nat} {x : Value} {Q : Option Value -> Shared -> Prop} (hit : s.heap.get? it = some (J4 (.int slot 0) i a es.size ep)) (ho : s.heap.get? a = some (Cf es ep t)) (P : SetP prog w es t ds)
  (hx : ∀ (A' : Around) (Q' : Option (Value × Nat) -> Shared -> Prop) (E' : Value -> Shared -> Prop), Q' (some (x, nx)) s -> wpAny (model prog w) A' (setNext a slot i ep) Q' E' s)
  (hQ : ∀ h', h'.get? it = some (J4 (.int nx 0) (i + 1) a es.size ep) -> Heap.SameBut it s.heap h' -> Q (some x) { s with heap := h' }) : wpAny (model prog w) A (pyNext (.ref it)) Q E s := by
 unfold pyNext
 refine Am4 (Ap3 (wpAny_callSpecial?_slot (name := Str.ofString "__next__") (siT hit) Ia (Aoh Ia (siT hit) Xa ?_ (az _))))
 unfold Builtin.«set_iterator.__next__»
 refine Am4 (Am7 ?_)
 refine Am4 (Ar5 hit rfl ?_)
 dsimp only
 refine Am4 (Aqa ho rfl P.ft ?_)
 rw [if_neg dks]
 rw [Aoe, Aoe, Aoe]
 refine Am4 (hx _ _ _ ?_)
 dsimp only
 refine Am4 (Aot hit rfl dks ?_)
 have g1 : (s.heap.update it (Obj.mapFields (·.setIfInBounds 0 (rawInt (nx : Int))))).get? it = some (J4 (.int nx 0) i a es.size ep) := Anq _ hit rfl
 refine Am4 (Aot g1 rfl dks ?_)
 have g2 : ((s.heap.update it (Obj.mapFields (·.setIfInBounds 0 (rawInt (nx : Int))))).update it (Obj.mapFields (·.setIfInBounds 1 (rawInt ((i : Int) + 1))))).get? it = some (J4 (.int nx 0) (i + 1) a es.size ep) := Anq _ g1 rfl
 exact Am7 ⟨_, rfl, Am7 (hQ _ g2 ((Anp ..).trans (Anp ..)))⟩
def qi (hh : A.handled = none) (hit : s.heap.get? it = some (J4 f i a n ep)) (hk : k < 5)
  (hQ : ∀ h', Heap.ExtBut it s.heap h' -> Q none { s with heap := h' }) :
  wpAny (model prog w) A.in1 (do setField (.ref it) k v; raiseNew (← newExc (.type "StopIteration") [])) (λ fin s' => ∃ u, fin = Fin.done (Flow.ret u) /\ wpAny (model prog w) A (pure (some u)) Q E s')
   (λ e s' => wpAny (model prog w) A (do if ← isInstance e (.type "StopIteration") then pure none else throw e) Q E s') s := by
 refine Am4 (Aot hit rfl (by simpa using hk) ?_)
 refine Am4 ?_
 simp only [newExc, newTuple]
 refine Am4 (An8 ?_ (by size_fits))
 refine Am4 (m := firstArgMember _ _) (wpAny_of_eq (a := Value.none) (by first | rfl | (simp only [firstArgMember]; rfl)) ?_)
 refine An8 ?_ (by size_fits)
 simp only [raiseNew]
 refine Am4 (wpAny_handled ?_)
 rw [show A.in1.handled = none from hh]
 refine Am4 (Am7 (wpAny_throw ?_))
 refine Am4 (Arp (T := "StopIteration") (b := true) ⟨_, Anc _ rfl, rfl⟩ isSubtype_stop ?_)
 exact Am7 (hQ _ (((Anp ..).extBut.push _).push _))
def Aaz {a it : Addr} {es : Array (Int × Value)} {ep : Nat} {t : SetTable} {ds : List Int} {slot i : Nat} {Q : Option Value -> Shared -> Prop} (hh : A.handled = none) (hit : s.heap.get? it = some (J4 (.int slot 0) i a es.size ep)) (ho : s.heap.get? a = some (Cf es ep t)) (P : SetP prog w es t ds)
  (hx : ∀ (A' : Around) (Q' : Option (Value × Nat) -> Shared -> Prop) (E' : Value -> Shared -> Prop), Q' none s -> wpAny (model prog w) A' (setNext a slot i ep) Q' E' s)
  (hQ : ∀ h', Heap.ExtBut it s.heap h' -> Q none { s with heap := h' }) : wpAny (model prog w) A (pyNext (.ref it)) Q E s := by
 unfold pyNext
 refine Am4 (Ap3 (wpAny_callSpecial?_slot (name := Str.ofString "__next__") (siT hit) Ia (Aoh Ia (siT hit) Xa ?_ (az _))))
 unfold Builtin.«set_iterator.__next__»
 refine Am4 (Am7 (Am4 (Ar5 hit rfl ?_)))
 dsimp only
 refine Am4 (Aqa ho rfl P.ft ?_)
 rw [if_neg dks, Aoe, Aoe, Aoe]
 refine Am4 (hx _ _ _ ?_)
 exact qi hh hit dkd hQ
def Ac9 {a it : Addr} {es : Array (Int × Value)} {ep : Nat} {t : SetTable} {ds : List Int} {T : Addr} {js : Array Value} {i j : Nat} {x : Value} {hsh : Int} {Q : Option Value -> Shared -> Prop} (hit : s.heap.get? it = some (J4 (.ref T) i a es.size ep)) (ho : s.heap.get? a = some (Cf es ep t)) (P : SetP prog w es t ds)
  (hT : ∀ (A' : Around) (Q' : Option (Array Value) -> Shared -> Prop) (E' : Value -> Shared -> Prop), Q' (some js) s -> wpAny (model prog w) A' (seqItems? (.ref T)) Q' E' s) (hj : js[i]? = some (.int j 0)) (hx : es[j]? = some (hsh, x))
  (hQ : ∀ h', h'.get? it = some (J4 (.ref T) (i + 1) a es.size ep) -> Heap.SameBut it s.heap h' -> Q (some x) { s with heap := h' }) : wpAny (model prog w) A (pyNext (.ref it)) Q E s := by
 unfold pyNext
 refine Am4 (Ap3 (wpAny_callSpecial?_slot (name := Str.ofString "__next__") (siT hit) Ia (Aoh Ia (siT hit) Xa ?_ (az _))))
 unfold Builtin.«set_iterator.__next__»
 refine Am4 (Am7 (Am4 (Ar5 hit rfl ?_)))
 dsimp only
 refine Am4 (Aqa ho rfl P.ft ?_)
 rw [if_neg dks]
 refine Am4 (hT _ _ _ ?_)
 dsimp only
 rw [Aoe, hj]
 dsimp only
 unfold setNextDrawn
 rw [Aoe, Aoe]
 refine Am4 (Am4 (Ap2 ho rfl P.ft ?_))
 dsimp only
 rw [if_neg dks, hx]
 dsimp only
 refine Am7 (Am4 (Aot hit rfl dks ?_))
 have g1 : (s.heap.update it (Obj.mapFields (·.setIfInBounds 1 (rawInt ((i : Int) + 1))))).get? it = some (J4 (.ref T) (i + 1) a es.size ep) := Anq _ hit rfl
 exact Am7 ⟨_, rfl, Am7 (hQ _ g1 (Anp ..))⟩
def Aau (hh : A.handled = none) (hit : s.heap.get? it = some (J4 (.ref T) i a es.size ep)) (ho : s.heap.get? a = some (Cf es ep t)) (P : SetP prog w es t ds)
  (hT : ∀ (A' : Around) (Q' : Option (Array Value) -> Shared -> Prop) (E' : Value -> Shared -> Prop), Q' (some js) s -> wpAny (model prog w) A' (seqItems? (.ref T)) Q' E' s) (hj : js[i]? = none)
  (hQ : ∀ h', Heap.ExtBut it s.heap h' -> Q none { s with heap := h' }) : wpAny (model prog w) A (pyNext (.ref it)) Q E s := by
 unfold pyNext
 refine Am4 (Ap3 (wpAny_callSpecial?_slot (name := Str.ofString "__next__") (siT hit) Ia (Aoh Ia (siT hit) Xa ?_ (az _))))
 unfold Builtin.«set_iterator.__next__»
 refine Am4 (Am7 (Am4 (Ar5 hit rfl ?_)))
 dsimp only
 refine Am4 (Aqa ho rfl P.ft ?_)
 rw [if_neg dks]
 refine Am4 (hT _ _ _ ?_)
 dsimp only
 rw [Aoe, hj]
 dsimp only
 refine Am4 (Aot hit rfl dks ?_)
 have g1 : (s.heap.update it (Obj.mapFields (·.setIfInBounds 0 (rawInt 0)))).get? it = some (J4 (rawInt 0) i a es.size ep) := Anq _ hit rfl
 exact qi (s := { s with heap := s.heap.update it (Obj.mapFields (·.setIfInBounds 0 (rawInt 0))) }) hh g1 dkd λ h' x => hQ h' λ b o hb e => x b o hb ((Anp ..).extBut b o hb e)
def w8 : Slot "set_iterator" "__iter__" "set_iterator.__iter__" :=
 .of (owner := "set_iterator") (n := "__iter__") (by rw [Ary, Aqn]; kernel_rfl) dkk dkk dkk (.inl dkk) (by rw [isSubtype_type]; kernel_rfl)
def Aa4 : entryFor table "set_iterator.__iter__" = some Builtin.«dict_keyiterator.__iter__» := entryFor_alias (id' := "dict_keyiterator.__iter__") (by kernel_rfl) rfl dkk (by kernel_rfl)
def Acs (a : Value) : argsOk "set_iterator.__iter__" ⟨[a], []⟩ := by
 unfold argsOk
 rw [signature?_of (id := "set_iterator.__iter__") (n := ['_', '_', 'r', 'e', 't', 'i', '_', '_']) (o := ['r', 'o', 't', 'a', 'r', 'e', 't', 'i', '_', 't', 'e', 's']) (by kernel_rfl) Aef]
 kernel_rfl
def Aab (hit : s.heap.get? it = some (J4 f i a n ep)) (h : Q (.ref it) s) : wpAny (model prog w) A (pyIter (.ref it)) Q E s := by
 refine wpAny_pyIter_slot (siT hit) w8 (Aoh w8 (siT hit) Aa4 ?_ (Acs _))
 show wpAny _ _ (ret (.ref it)) _ _ s
 exact Am7 ⟨_, rfl, "set_iterator", _, siT hit, Ia.lookup, h⟩
def Ajm (ho : s.heap.get? a = some (Cf es ep t)) : s.TypeIs (.ref a) "set" := ⟨_, ho, rfl⟩
def wc (hT : s.TypeIs (.ref a) "set") (h : Q false s) : wpAny (model prog w) A (Builtin.List.listLengthHint (.ref a)) Q E s := by
 unfold Builtin.List.listLengthHint
 refine Am4 (Arw hT PySem.F.slot_set_len.lookup ?_)
 generalize hid : ("set.__len__" : String) = id0
 wp_delta
 rw [show splitId id0 = some ("set", "__len__") from by subst hid; decide +kernel]
 subst hid
 refine Am4 (Arp (T := "set") (b := true) hT (by rw [isSubtype_type]; kernel_rfl) ?_)
 refine Apm (λ z => absurd z dkd) (λ _ => ?_)
 refine Apm (λ _ => ?_) (λ z => absurd dkk z)
 refine Am4 (Aq8 hT ?_)
 exact Am7 h
def Drawn (w : World) (es : Array (Int × Value)) (t : SetTable) : Prop := jm w = true /\ t.plain = false /\ 1 < es.size
def wz (ho : s.heap.get? a = some (Cf es ep t)) (P : SetP prog w es t ds)
  (h1 : ¬ Drawn w es t -> Q (.ref s.heap.objs.size) { s with heap := s.heap.push (J4 (.int 0 0) 0 a es.size ep) })
  (h2 : Drawn w es t -> ∀ (js : List Nat) dr, js.Perm (List.range es.size) -> Q (.ref (s.heap.objs.size + 1)) { s with heap := (s.heap.push { cls := .type "tuple", data := .seq (js.map λ (i : Nat) => rawInt i).toArray }).push (J4 (.ref s.heap.objs.size) 0 a es.size ep), drawn := dr }) :
  wpAny (model prog w) A (pyIter (.ref a)) Q E s := by
 refine wpAny_pyIter_slot (Ajm ho) PySem.F.slot_set_iter (Aoh PySem.F.slot_set_iter (Ajm ho) zb ?_ (PySem.F.args_set_iter_1 _))
 unfold Builtin.«frozenset.__iter__»
 refine Am4 (Am7 ?_)
 refine Am4 (Am4 (Aqa ho rfl P.ft (Am7 ?_)))
 refine Am4 ?_
 unfold setDrawn
 refine Am4 (Ap2 ho rfl P.ft ?_)
 dsimp only
 unfold setsByText
 refine Am4 (Am4 (Ap9 (Am7 (Am7 ?_))))
 show wpAny _ _ (if (!w.params.followText "set-order" && (!t.plain && decide (es.size > 1))) = true then _ else _) _ _ _
 refine Apm (λ z => ?_) (λ z => ?_)
 ·
  rw [Ani, Ani] at z
  have hD : Drawn w es t := ⟨z.1, by simpa using z.2.1, Am8 z.2.2⟩
  refine Am4 (Acd es.size _ _ An5 λ js dr hp => Am4 (wpAny_newTuple ?_ ?_))
  ·
   refine Am4 (wpAny_setEpoch_of (Am5 _ ho) rfl P.ft ?_)
   have hs : (s.heap.push { cls := .type "tuple", data := .seq (js.map λ (i : Nat) => rawInt i).toArray }).objs.size = s.heap.objs.size + 1 := Aod ..
   refine Am4 (An8 (Am7 ⟨_, rfl, "set_iterator", _, ⟨_, Anc _ rfl, rfl⟩, Ia.lookup, ?_⟩))
   have q := h2 hD js dr hp
   rw [← hs] at q
   exact q
  ·
   rw [Am9, hp.length_eq, An5]
   exact Ard P.sz
 ·
  refine Am4 (Am7 ?_)
  refine Am4 (wpAny_setEpoch_of ho rfl P.ft ?_)
  refine Am4 (An8 (Am7 ⟨_, rfl, "set_iterator", _, ⟨_, Anc _ rfl, rfl⟩, Ia.lookup, ?_⟩))
  refine h1 λ hD => z ?_
  rw [Ani, Ani]
  exact ⟨hD.1, by rw [hD.2.1]; rfl, Am6 hD.2.2⟩
def Adi (hh : A.handled = none) (I : Addr) (hne : a ≠ I) (P : SetP prog w es t ds) (xs : Array (Int × Value)) (sl : Nat -> Nat) (hz : xs.size = es.size)
  (hnx : ∀ (s' : Shared) (i : Nat), s'.heap.get? a = some (Cf es ep t) -> i <= es.size -> ∀ (A' : Around) (Q' : Option (Value × Nat) -> Shared -> Prop) (E' : Value -> Shared -> Prop), Q' ((xs[i]?).map λ e => (e.2, sl (i + 1))) s' -> wpAny (model prog w) A' (setNext a (sl i) i ep) Q' E' s') :
  Walks prog w A I [I, a] [I] es.size (λ i v => ∃ e, xs[i]? = some e /\ v = e.2) (λ i h => h.get? I = some (J4 (.int (sl i) 0) i a es.size ep) /\ h.get? a = some (Cf es ep t)) where
 sub := λ b hb => by simp at hb; simp [hb]
 frame := λ _ _ _ st hk => ⟨hk I dks _ st.1, hk a dks _ st.2⟩
 item := λ i s Q E hi st hQ => by
  have hx : xs[i]? = some (xs[i]'dkm) := An0 dkm
  refine Ac6 (x := (xs[i]'dkm).2) (nx := sl (i + 1)) st.1 st.2 P (λ A' Q' E' q => hnx s i st.2 dkm A' Q' E' (by rw [hx]; exact q)) λ h' g sb => ?_
  exact hQ _ h' s.toks ⟨_, hx, rfl⟩ ⟨g, (sb.2 a hne).trans st.2⟩ λ b o hb e => (sb.2 b (λ z => hb (by simp [z]))).trans e
 done := λ s Q E st hQ => Aaz hh st.1 st.2 P (λ A' Q' E' q => hnx s es.size st.2 (Anh _) A' Q' E' (by rw [Aqc dkm]; exact q)) λ h' x => hQ h' s.toks λ b o hb e => x b o (λ z => hb (by simp [z])) e
 self := λ _ _ _ _ st hQ => Aab st.1 hQ
def Alp (t : SetTable) : Nat -> Nat
 | 0 => 0
 | k + 1 => t.place.getD k 0 + 1
theorem Age (P : SetP prog w es t ds) (hD : ¬ Drawn w es t) : ∃ xs : Array (Int × Value), xs.toList.Perm es.toList /\ KdlSrc prog w "set" a a es.size (λ i v => ∃ e, xs[i]? = some e /\ v = e.2) (λ h => h.get? a = some (Cf es ep t)) := by
 have mk : ∀ (xs : Array (Int × Value)) (sl : Nat -> Nat), sl 0 = 0 -> xs.toList.Perm es.toList ->
   (∀ (s' : Shared) (i : Nat), s'.heap.get? a = some (Cf es ep t) -> i <= es.size -> ∀ (A' : Around) (Q' : Option (Value × Nat) -> Shared -> Prop) (E' : Value -> Shared -> Prop), Q' ((xs[i]?).map λ e => (e.2, sl (i + 1))) s' -> wpAny (model prog w) A' (setNext a (sl i) i ep) Q' E' s') ->
   KdlSrc prog w "set" a a es.size (λ i v => ∃ e, xs[i]? = some e /\ v = e.2) (λ h => h.get? a = some (Cf es ep t)) := λ xs sl h0 hp hnx =>
  {
   type := λ s h => Ajm h
   there := λ h e => ⟨Ana e, Ana e⟩
   keep := λ h h' e k => k a (.inl rfl) _ e
   notList := by decide
   notTuple := by decide
   hint := λ A E s Q h q => wc (Ajm h) q
   iter := λ A s hh h => ⟨J4 (.int 0 0) 0 a es.size ep, _, λ E Q q => wz h P (λ _ => q) (λ z => absurd z hD), Adi hh _ (Anm (Ana h)) P xs sl (by rw [← An4, hp.length_eq, An4]) hnx, by rw [h0]; exact Anc _ rfl, Am5 _ h⟩ }
 cases hb : jm w with
 |
  false =>
  refine ⟨_, ro (w.params.setOrder a ep) es, mk _ (λ _ => 0) rfl (ro _ es) λ s' i ho hi A' Q' E' q => Ad4 ho P hb q⟩
 |
  true =>
  have hf := P.ft
  simp only [SetTable.fits, Ani, beq_iff_eq, Ape] at hf
  refine ⟨es, .refl _, mk es (Alp t) rfl (.refl _) λ s' i ho hi A' Q' E' q => Ac4 ho P hb (λ z => hD ⟨hb, z⟩) ?_⟩
  have hbl : SetTable.below t.place (Alp t i) = i := by
   cases i with
   | zero => exact yd P.tb.1
   |
    succ k =>
    have hk : k < t.place.size := by omega
    have e : t.place[k]? = some (t.place[k]) := An0 hk
    have eg : t.place.getD k 0 = t.place[k] := by unfold Array.getD; rw [dif_pos hk]; rfl
    show SetTable.below t.place (t.place.getD k 0 + 1) = k + 1
    rw [eg]
    exact x9 P.tb.1 e
  rw [hbl]
  rcases Aqt i es.size with hl | hl
  ·
   have hk : i < t.place.size := by omega
   have eg : t.place.getD i 0 = t.place[i] := by unfold Array.getD; rw [dif_pos hk]; rfl
   rw [An0 hl] at q ⊢
   rw [An0 hk]
   have q' : Q' (some ((es[i]).2, t.place.getD i 0 + 1)) s' := q
   rw [eg] at q'
   exact q'
  ·
   rw [Aqc hl] at q ⊢
   exact q
def Rn (js : List Nat) : Obj := { cls := .type "tuple", data := .seq (js.map λ (i : Nat) => rawInt i).toArray }
def Adj (hh : A.handled = none) (I T : Addr) (hne : a ≠ I) (hnT : T ≠ I) (P : SetP prog w es t ds) (hp : js.Perm (List.range es.size)) :
  Walks prog w A I [I, a, T] [I] es.size (λ i v => ∃ j e, js[i]? = some j /\ es[j]? = some e /\ v = e.2) (λ i h => h.get? I = some (J4 (.ref T) i a es.size ep) /\ h.get? a = some (Cf es ep t) /\ h.get? T = some (Rn js)) where
 sub := λ b hb => by simp at hb; simp [hb]
 frame := λ _ _ _ st hk => ⟨hk I dks _ st.1, hk a dks _ st.2.1, hk T dks _ st.2.2⟩
 item := λ i s Q E hi st hQ => by
  have hl : js.length = es.size := by rw [hp.length_eq, An5]
  have hj : js[i]? = some (js[i]'dkm) := An6 dkm
  have hm : js[i]'dkm < es.size := Ao9.mp (hp.mem_iff.mp (Aoz _))
  have hx : es[js[i]'dkm]? = some (es[js[i]'dkm]) := An0 hm
  refine Ac9 (js := (js.map λ (i : Nat) => rawInt i).toArray) (j := js[i]'dkm) (x := (es[js[i]'dkm]).2) (hsh := (es[js[i]'dkm]).1) st.1 st.2.1 P (λ A' Q' E' q => wpAny_seqItems st.2.2 rfl q) ?_ hx λ h' g sb => ?_
  ·
   rw [List.getElem?_toArray, Anu, hj]
   rfl
  · exact hQ _ h' s.toks ⟨_, _, hj, hx, rfl⟩ ⟨g, (sb.2 a hne).trans st.2.1, (sb.2 T hnT).trans st.2.2⟩ λ b o hb e => (sb.2 b (λ z => hb (by simp [z]))).trans e
 done := λ s Q E st hQ => by
  have hl : js.length = es.size := by rw [hp.length_eq, An5]
  refine Aau (js := (js.map λ (i : Nat) => rawInt i).toArray) hh st.1 st.2.1 P (λ A' Q' E' q => wpAny_seqItems st.2.2 rfl q) ?_ λ h' x => hQ h' s.toks λ b o hb e => x b o (λ z => hb (by simp [z])) e
  rw [List.getElem?_toArray, Anu, Arj dkm]
  rfl
 self := λ _ _ _ _ st hQ => Aab st.1 hQ
theorem Vg {xs : List (Int × Value)} (h : ∀ e ∈ xs, ∃ k u, e.2 = .int k u) : IntsAre (xs.map (·.2)) (xs.map λ e => Ajj e.2) := by
 induction xs with
 | nil => exact .nil
 |
  cons e xs ih =>
  obtain ⟨k, u, hk⟩ := h e (Ano ..)
  rw [An9, An9, hk]
  exact .cons k u (ih λ e he => h e (Ann _ he))
def Ab5 {acc : Array Value} {n : Nat} {xs : List (Int × Value)} (hn : xs.length = n) (h : ItemsOf (λ i v => ∃ e, xs[i]? = some e /\ v = e.2) acc n) : acc.toList = xs.map (·.2) := by
 apply List.ext_getElem?
 intro i
 rw [Anu]
 have hz : acc.toList.length = n := by rw [An4]; exact h.1
 rcases Aqt i n with hi | hi
 ·
  have e1 : acc.toList[i]? = some (acc.toList[i]'dkm) := An6 dkm
  obtain ⟨e, he, hv⟩ := h.2 i _ (by rw [← Aoo]; exact e1)
  rw [e1, he, hv]
  rfl
 ·
  rw [Arj dkm, Arj dkm]
  rfl
theorem Ace {es : Array (Int × Value)} : ∀ {js : List Nat}, (∀ j ∈ js, j < es.size) -> ∃ xs : List (Int × Value), xs = js.filterMap (λ j => es[j]?) /\ xs.length = js.length /\ ∀ (i j : Nat), js[i]? = some j -> xs[i]? = es[j]?
 | [], _ => ⟨[], rfl, rfl, λ i j h => by cases h⟩
 |
  k :: js, h => by
  obtain ⟨xs, e, hl, hx⟩ := Ace (js := js) λ j hj => h j (Ann _ hj)
  have hk : es[k]? = some (es[k]'(h k (Ano ..))) := An0 _
  refine ⟨es[k]'(h k (Ano ..)) :: xs, by rw [List.filterMap_cons_some hk, e], by rw [Aoi, Aoi, hl], λ i j hj => ?_⟩
  cases i with
  |
   zero =>
   have : k = j := An7 hj
   subst this
   exact hk.symm
  | succ i => exact hx i j hj
def vq {a : Addr} {ds : List Int} {Q : List Value -> Shared -> Prop} (hS : SetI prog w a ds s.heap) (hh : A.handled = none)
  (h : ∀ h' tk dr (vs : List Value) (ns : List Int), (∀ b o, s.heap.get? b = some o -> h'.get? b = some o) -> s.heap.objs.size <= h'.objs.size -> IntsAre vs ns -> ns.Perm ds -> Q vs { s with heap := h', toks := tk, drawn := dr }) : wpAny (model prog w) A (collect (.ref a)) Q E s := by
 obtain ⟨es, ep, t, ho, P⟩ := hS
 have hz : es.size <= sizeLine := Ard P.sz
 by_cases hD : Drawn w es t
 ·
  unfold collect
  refine Am4 (Ar4 (Aom entry_proto_collect' ?_))
  show wpAny _ _ (do again (.builtin "list.__iadd__" ⟨[← newList [], .ref a], []⟩)) _ _ s
  refine Am4 (wpAny_newList (Am7 ⟨Apx _ dkk, Aom entry_list_iadd' ?_⟩))
  show wpAny _ _ (Builtin.List.listExtendWith (.ref s.heap.objs.size) (.ref a) (.ref s.heap.objs.size)) _ _ { s with heap := s.heap.push (seqObj "list" #[] 0) }
  have hS0 : (s.heap.push (seqObj "list" #[] 0)).get? s.heap.objs.size = some { cls := .type "list", data := .seq #[] 0 } := Anc _ rfl
  have ho1 : (s.heap.push (seqObj "list" #[] 0)).get? a = some (Cf es ep t) := Am5 _ ho
  have haS : s.heap.objs.size ≠ a := Aos (Ana ho)
  rw [Ao0 PySem.F.plain_list_iadd _]
  unfold Builtin.List.listExtendWith
  refine Am4 (Aq8 (T := "set") ⟨_, ho1, rfl⟩ ?_)
  have e1 : Builtin.List.listSameRef (.ref s.heap.objs.size) (.ref a) = false := by simp [Builtin.List.listSameRef, haS]
  have e2 : (Value.type "set" == Value.type "list") = false := by decide
  have e3 : (Value.type "set" == Value.type "tuple") = false := by decide
  simp only [e1, e2, e3, Bool.or_false, Bool.false_eq_true, if_false]
  refine Am4 (wz ho1 P (λ z => absurd hD z) λ _ js dr hp => ?_)
  have hsz : (s.heap.push (seqObj "list" #[] 0)).objs.size = s.heap.objs.size + 1 := Aod ..
  rw [hsz]
  have hI : s.heap.objs.size + 1 + 1 = s.heap.objs.size + 2 := rfl
  have hT1 : ((s.heap.push (seqObj "list" #[] 0)).push (Rn js)).get? (s.heap.objs.size + 1) = some (Rn js) := by rw [← hsz]; exact Anc _ rfl
  have hsz2 : ((s.heap.push (seqObj "list" #[] 0)).push (Rn js)).objs.size = s.heap.objs.size + 1 + 1 := by rw [Aod, hsz]
  have hI1 : (((s.heap.push (seqObj "list" #[] 0)).push (Rn js)).push (J4 (.ref (s.heap.objs.size + 1)) 0 a es.size ep)).get? (s.heap.objs.size + 1 + 1) = some (J4 (.ref (s.heap.objs.size + 1)) 0 a es.size ep) := by rw [← hsz2]; exact Anc _ rfl
  have hla := Ana ho
  have W := Adj (prog := prog) (w := w) (A := A.in1) (ep := ep) hh (s.heap.objs.size + 1 + 1) (s.heap.objs.size + 1) (a := a) (Anm (Ao1 (Ao1 hla))) (Anm (Aoq _)) P hp
  have hSf : s.heap.objs.size ∉ [s.heap.objs.size + 1 + 1, a, s.heap.objs.size + 1] := by
   simp only [Anf, Ao4, Aqd, not_or]
   exact ⟨Anm (Ao1 (Aoq _)), haS, Anm (Aoq _)⟩
  have key : ∀ (R : Result -> Shared -> Prop), (∀ h' tk (acc : Array Value) c', (∀ b o, s.heap.get? b = some o -> h'.get? b = some o) -> h'.get? s.heap.objs.size = some { cls := .type "list", dict := none, data := .seq acc c', slots := #[] } -> ItemsOf (λ i v => ∃ j e, js[i]? = some j /\ es[j]? = some e /\ v = e.2) acc es.size -> R (.ok (.ret (.ref s.heap.objs.size))) { s with heap := h', toks := tk, drawn := dr }) ->
    ∀ (hp' : Heap) (c₁ tk : Nat), (hp'.get? (s.heap.objs.size + 1 + 1) = some (J4 (.ref (s.heap.objs.size + 1)) 0 a es.size ep) /\ hp'.get? a = some (Cf es ep t) /\ hp'.get? (s.heap.objs.size + 1) = some (Rn js)) -> (∀ b o, s.heap.get? b = some o -> hp'.get? b = some o) ->
    hp'.get? s.heap.objs.size = some { cls := .type "list", data := .seq #[] c₁ } -> codeAny (model prog w) A (.builtin "list.extend.loop" ⟨[.ref s.heap.objs.size, .ref (s.heap.objs.size + 1 + 1), .ref s.heap.objs.size], []⟩) R { s with heap := hp', toks := tk, drawn := dr } := by
   intro R hR hp' c₁ tk st kp hS₁
   refine codeAny_extend_loopS W.toS hz s.heap.objs.size hSf _ es.size 0 _ #[] c₁ rfl (Aon _) st hS₁ (ItemsOf.nil _) λ s' acc' c' hm hS' hacc => ?_
   rw [Moved.eq_with hm]
   refine hR s'.heap s'.toks acc' c' (λ b o e => hm.heap b o (λ hmem => ?_) (kp b o e)) hS' hacc
   have hb := Ana e
   rcases Anf.mp hmem with e' | hmem
   · exact absurd hb (by rw [e']; exact Aor _)
   · exact absurd hb (by rw [An3.mp hmem]; exact Aq3.mpr (Nat.le_succ_of_le (Aqo _)))
  have fin : ∀ h' tk (acc : Array Value) c', (∀ b o, s.heap.get? b = some o -> h'.get? b = some o) -> h'.get? s.heap.objs.size = some { cls := .type "list", dict := none, data := .seq acc c', slots := #[] } -> ItemsOf (λ i v => ∃ j e, js[i]? = some j /\ es[j]? = some e /\ v = e.2) acc es.size -> Q acc.toList { s with heap := h', toks := tk, drawn := dr } := by
   intro h' tk acc c' kp hS' ia
   obtain ⟨xs, e, hl, hx⟩ := Ace (es := es) (js := js) λ j hj => Ao9.mp (hp.mem_iff.mp hj)
   have hjl : js.length = es.size := by rw [hp.length_eq, An5]
   have hpx : xs.Perm es.toList := by
    rw [e]
    refine (hp.filterMap _).trans ?_
    rw [filterMap_getElem?_range]
   have ea := Ab5 (hl.trans hjl) ⟨ia.1, λ i v hv => by obtain ⟨j, e, hj, he, z⟩ := ia.2 i v hv; exact ⟨e, by rw [hx i j hj]; exact he, z⟩⟩
   exact h h' tk dr acc.toList (xs.map λ e => Ajj e.2) kp (Apj (Ana hS')) (by rw [ea]; exact Vg λ x hx => P.ints x (hpx.mem_iff.mp hx)) ((hpx.map _).trans P.ks)
  have kp2 : ∀ b o, s.heap.get? b = some o -> (((s.heap.push (seqObj "list" #[] 0)).push (Rn js)).push (J4 (.ref (s.heap.objs.size + 1)) 0 a es.size ep)).get? b = some o := λ b o e => Am5 _ (Am5 _ (Am5 _ e))
  have hS2 : (((s.heap.push (seqObj "list" #[] 0)).push (Rn js)).push (J4 (.ref (s.heap.objs.size + 1)) 0 a es.size ep)).get? s.heap.objs.size = some { cls := .type "list", data := .seq #[] 0 } := Am5 _ (Am5 _ hS0)
  show wpAny (model prog w) A.in1 _ _ _ { s with heap := ((s.heap.push (seqObj "list" #[] 0)).push (Rn js)).push (J4 (.ref (s.heap.objs.size + 1)) 0 a es.size ep), drawn := dr }
  refine Am4 (Aou (wc ⟨_, kp2 _ _ ho, rfl⟩ ?_))
  have all : ∀ (
        hp' : Heap) (c₁ tk : Nat), (hp'.get? (s.heap.objs.size + 1 + 1) = some (J4 (.ref (s.heap.objs.size + 1)) 0 a es.size ep) /\ hp'.get? a = some (Cf es ep t) /\ hp'.get? (s.heap.objs.size + 1) = some (Rn js)) -> (∀ b o, s.heap.get? b = some o -> hp'.get? b = some o) ->
    hp'.get? s.heap.objs.size = some { cls := .type "list", data := .seq #[] c₁ } -> codeAny (model prog w) A (.builtin "list.extend.loop" ⟨[.ref s.heap.objs.size, .ref (s.heap.objs.size + 1 + 1), .ref s.heap.objs.size], []⟩) (λ r s' =>
      match r with
      |
       Except.ok (Flow.ret v) =>
       wpAny (model prog w) A (match v with
        |
         .ref a => do match (← load a).data with
         | .seq xs _ => pure xs.toList
         | _ => unsupported "internal:collect"
        | _ => unsupported "internal:collect") Q E s'
      | Except.ok _ => False
      | Except.error e => E e s') { s with heap := hp', toks := tk, drawn := dr } := key _ λ h' tk acc c' kp hS' ia => by
    show wpAny (model prog w) A (do
     let o ← load s.heap.objs.size
     match o.data with
     | .seq xs _ => pure xs.toList
     | _ => unsupported "internal:collect") Q E { s with heap := h', toks := tk, drawn := dr }
    exact Am4 (Apv hS' (Am7 (fin h' tk acc c' kp hS' ia)))
  refine Apm (λ _ => ?_) (λ _ => Am7 ⟨Aqf PySem.F.plain_extend_loop _, all _ 0 s.toks ⟨hI1, kp2 _ _ ho, Am5 _ hT1⟩ kp2 hS2⟩)
  refine Am4 (Aqk (Am4 ?_))
  show wpAny _ _ (updateSeq s.heap.objs.size (·.push .none) >>= λ _ => updateSeq s.heap.objs.size (·.pop)) _ _ _
  refine Am4 (Aqe hS2 rfl ?_)
  have g2 := Anq (Obj.mapSeq (·.push Value.none)) hS2 rfl
  refine Aqe (hz := by seq_fits) g2 rfl ?_
  have g3 := Anq (Obj.mapSeq (·.pop)) g2 rfl
  have oth : ∀ b o, b ≠ s.heap.objs.size -> (((s.heap.push (seqObj "list" #[] 0)).push (Rn js)).push (J4 (.ref (s.heap.objs.size + 1)) 0 a es.size ep)).get? b = some o -> (((((s.heap.push (seqObj "list" #[] 0)).push (Rn js)).push (J4 (.ref (s.heap.objs.size + 1)) 0 a es.size ep)).update s.heap.objs.size (Obj.mapSeq (·.push Value.none))).update s.heap.objs.size (Obj.mapSeq (·.pop))).get? b = some o :=
   λ b o hb e => (Ars _ _ (Aq6 hb)).trans ((Ars _ _ (Aq6 hb)).trans e)
  refine Am7 ⟨Aqf PySem.F.plain_extend_loop _, all _ _ s.toks ⟨oth _ _ (Aos (Ao1 (Aoq _))) hI1, oth _ _ haS.symm (kp2 _ _ ho), oth _ _ (Aos (Aoq _)) (Am5 _ hT1)⟩ (λ b o e => oth b o (Anm (Ana e)) (kp2 b o e)) g3⟩
 ·
  obtain ⟨xs, hp, K⟩ := Age (a := a) (ep := ep) P hD
  refine uy K hh ho hz λ h' tk acc kp hge ia => ?_
  have hl : xs.toList.length = es.size := by rw [hp.length_eq, An4]
  have e := Ab5 hl ⟨ia.1, λ i v hv => by obtain ⟨e, he, z⟩ := ia.2 i v hv; exact ⟨e, by rw [Aoo]; exact he, z⟩⟩
  have q := h h' tk s.drawn acc.toList (xs.toList.map λ e => Ajj e.2) kp hge (by rw [e]; exact Vg λ x hx => P.ints x (hp.mem_iff.mp hx)) ((hp.map _).trans P.ks)
  exact q
def Inv.drew (I : Inv X pins σ H s) (dr : PySem.Drawn) : Inv X pins σ H { s with drawn := dr } :=
 ⟨I.ok, I.os, I.bare, I.base, I.loc, I.cell, I.free, I.freeC, I.pin, I.hok, I.len⟩
def p0 (hc : X.calm = true) : J0 X (.type "set") (λ xs H Q => ∃ (p : Addr) (ns : List Int), xs = [.ref p] /\ H p = some (.lst (ns.map V.int)) /\ ns.length < 4096 /\
  ∀ (D : Addr) (ds : List Int), H D = none -> (∀ x, x ∈ ds ↔ x ∈ ns) -> ds.Nodup -> Q (.ref D) (upd H D (.ext (SetI X.prog X.w D ds)))) := by
 intro pins s σ H xs us Q I r h
 obtain ⟨p, ns, rfl, hp, hz, q⟩ := h
 obtain ⟨u, rfl, ru⟩ := vals1 r
 cases ru
 obtain ⟨its, rv, pl, hl⟩ := I.list (Asf (K := X.K) hp)
 have hi := intsAre_of rv
 refine Adf (I.ok.hd hc) pl.isList hi hz λ h' tk S kp => ?_
 have hD : H s.heap.objs.size = none := I.hok.fresh (Anh _)
 have nd : (ns.foldl ins []).Nodup := by obtain ⟨_, _, _, _, P⟩ := S; exact P.nd
 refine ⟨.ref s.heap.objs.size, _, I.laid (t' := tk) (o := .ext (SetI X.prog X.w s.heap.objs.size (ns.foldl ins []))) kp (Anh _) ?_, rfl, q _ _ hD (λ x => by rw [ez]; simp) nd⟩
 refine ⟨S, ?_, λ h1 h2 a b => a.at' b⟩
 obtain ⟨es, ep, t, ho, _⟩ := S
 exact ⟨_, ho⟩
theorem Abn {l : Addr} {items : Array Value} {ns : List Int} {Q : Value -> Shared -> Prop} (hh : A.handled = none) (hl : IsTup s.heap l items) (hi : IntsAre items.toList ns) (hb : ns.length < scanBound)
  (h : ∀ h' tk, SetI prog w s.heap.objs.size (ns.foldl ins []) h' -> (∀ b o, s.heap.get? b = some o -> h'.get? b = some o) -> Q (.ref s.heap.objs.size) { s with heap := h', toks := tk }) :
  wpAny (model prog w) A (call (.type "set") [.ref l]) Q E s := by
 obtain ⟨c, tl, hmro⟩ := F.called_set.mro
 have m1 := F.called_set.made
 have m2 := F.called_set.sub
 have m3 := F.called_set.notType
 have m4 := F.called_set.canCreate
 have m5 := F.typeCall_set_1 (.ref l)
 refine Aqz (Aqg ?_)
 show wpAny _ _ (callAny (.type "set") _) _ _ _
 refine Am7 ⟨Apx _ dkk, Aom Are ?_⟩
 rw [Ara (Aqm "set" [.ref l] []) rfl]
 repeat (any_goals (first | assumption | wp_step))
 refine Ao7 (zq (.ref l) (E := E) (Q₁ := λ v s1 => v = .ref s.heap.objs.size /\ s1 = { s with heap := s.heap.push (Cf #[] 0 (.fresh 0 0 (jm w))) }) ⟨rfl, rfl⟩) λ r s1 hr => ?_
 rcases r with e | f
 · exact hr
 cases f with
 |
  ret v =>
  obtain ⟨rfl, rfl⟩ := hr
  have hS : (s.heap.push (Cf #[] 0 (.fresh 0 0 (jm w)))).get? s.heap.objs.size = some (Cf #[] 0 (.fresh 0 0 (jm w))) := Anc _ rfl
  have hT : Shared.TypeIs { s with heap := s.heap.push (Cf #[] 0 (.fresh 0 0 (jm w))) } (.ref s.heap.objs.size) "set" := ⟨_, hS, rfl⟩
  have i1 := F.called_set.init.lookup
  have i2 := F.called_set.init.bind (.ref s.heap.objs.size)
  repeat (any_goals (first | assumption | wp_step))
  refine Ao7 (Ap5 (R := wants (λ r s2 => r = .none /\ ∃ h' tk, s2 = { s with heap := h', toks := tk } /\ SetI prog w s.heap.objs.size (ns.foldl ins []) h' /\ ∀ b o, s.heap.get? b = some o -> h'.get? b = some o) E) F.called_set.init.plain F.entry_set_init (check_set_init_1 hT ?_)) λ r2 s2 h2 => ?_
  ·
   obtain ⟨ol, e1, e2, k, e3⟩ := hl
   obtain ⟨oc, od, oda, osl⟩ := ol
   simp only at e2 e3
   subst e2; subst e3
   have e1' := Am5 (Cf #[] 0 (.fresh 0 0 (jm w))) e1
   have j1 := F.sub_tuple_set
   have j2 := F.sub_tuple_frozenset
   have j3 : (Value.type "tuple" == Value.type "dict") = false := by decide
   have hl1 : IsTup (s.heap.push (Cf #[] 0 (.fresh 0 0 (jm w)))) l items := ⟨_, e1', rfl, k, rfl⟩
   unfold Cf at *
   unfold Builtin.«set.__init__» noKeywords Builtin.Frozenset.updateFrom
   generalize hPI : pyIter = PI
   wp_walk
   subst hPI
   refine Aq9 hl1 (Am4 (Ar4 ?_))
   have hlS : l < s.heap.objs.size := Ana e1
   have hn : items.size = ns.length := by rw [← IntsAre.length hi, An4]
   refine ri (G := _) ((Walks.tuple (by simp [hh]) _ l (by rw [Aod]; exact Anm (Ao1 hlS)) items).toS) s.heap.objs.size (by rw [Aod]; simp only [Anf, Ao4, Aqd, not_or]; exact ⟨Anm (Aoq _), Aos hlS⟩) ns 0 [] _ (by rw [hn]; omega) (λ j x hj v hv => ?_) (by simpa using hb) ⟨⟨_, Anc _ rfl, rfl, rfl⟩, hl1.push _⟩ ⟨#[], 0, _, Am5 _ hS, SetP.fresh⟩ λ s' m S' => ?_
   ·
    obtain ⟨t, e⟩ := IntsAre.int_at hi j v (by rw [Aoo]; have := hv; rw [Nat.zero_add] at this; exact this)
    refine ⟨t, ?_⟩
    rw [e, List.getD_eq_getElem?_getD, hj]
    rfl
   ·
    obtain ⟨h', g', d', tk', os'⟩ := s'
    have q1 : g' = s.gens := m.gens
    have q2 : d' = s.drawn := m.drawn
    have q3 : os' = s.os := m.os
    subst q1; subst q2; subst q3
    show wpAny _ _ _ _ _ _
    refine Am7 ?_
    show wpAny _ _ (ret Value.none) _ _ _
    refine Am7 ⟨rfl, h', tk', rfl, S', λ b o e => ?_⟩
    have hb0 := Ana e
    refine m.heap b o ?_ (Am5 _ (Am5 _ e))
    rw [Aod]
    simp only [Anf, Ao4, Aqd, not_or]
    exact ⟨Anm hb0, Anm (Ao1 hb0)⟩
  ·
   rcases r2 with e | f2
   · exact h2
   cases f2 with
   |
    ret r =>
    obtain ⟨rfl, h', tk, rfl, S', kp⟩ := h2
    repeat (any_goals (first | assumption | wp_step))
    exact h _ _ S' kp
   | _ => exact h2.elim
 | _ => exact hr.elim
def Abj (hc : X.calm = true) : J0 X (.type "set") (λ xs H Q => ∃ (p : Addr) (ns : List Int), xs = [.ref p] /\ H p = some (.tup (ns.map V.int)) /\ ns.length < 4096 /\
  ∀ (D : Addr) (ds : List Int), H D = none -> (∀ x, x ∈ ds ↔ x ∈ ns) -> ds.Nodup -> Q (.ref D) (upd H D (.ext (SetI X.prog X.w D ds)))) := by
 intro pins s σ H xs us Q I r h
 obtain ⟨p, ns, rfl, hp, hz, q⟩ := h
 obtain ⟨u, rfl, ru⟩ := vals1 r
 cases ru
 obtain ⟨its, rv, pl, hl⟩ := I.tuple (Asd (K := X.K) hp)
 have hi := intsAre_of rv
 refine Abn (I.ok.hd hc) pl hi hz λ h' tk S kp => ?_
 have hD : H s.heap.objs.size = none := I.hok.fresh (Anh _)
 have nd : (ns.foldl ins []).Nodup := by obtain ⟨_, _, _, _, P⟩ := S; exact P.nd
 refine ⟨.ref s.heap.objs.size, _, I.laid (t' := tk) (o := .ext (SetI X.prog X.w s.heap.objs.size (ns.foldl ins []))) kp (Anh _) ?_, rfl, q _ _ hD (λ x => by rw [ez]; simp) nd⟩
 refine ⟨S, ?_, λ h1 h2 a b => a.at' b⟩
 obtain ⟨es, ep, t, ho, _⟩ := S
 exact ⟨_, ho⟩
def Qz (hc : X.calm = true) : J0 X (.builtin "sorted") (λ xs H Q => ∃ (p : Addr) (ds : List Int), xs = [.ref p] /\ H p = some (.ext (SetI X.prog X.w p ds)) /\ ds.length < 64 /\
  ∀ (D : Addr) (ms : List Int), H D = none -> ms.Perm ds -> ms.Pairwise (· < ·) -> Q (.ref D) (upd H D (.lst (ms.map V.int)))) := by
 intro pins s σ H xs us Q I r h
 obtain ⟨p, ds, rfl, hp, h64, q⟩ := h
 obtain ⟨u, rfl, ru⟩ := vals1 r
 cases ru
 have S : SetI X.prog X.w p ds s.heap := (I.hok _ _ hp).1
 have hds : ds.Nodup := by
  obtain ⟨es, _, _, _, P⟩ := S
  exact P.nd
 refine Calls.call_function_entry kind_sorted plain_sorted entry_sorted (args_sorted1 _) ?_
 unfold Builtin.«sorted»
 refine Am4 (m := checkCount "sorted" 1 1 _) (Am7 (Am4 (vq S (I.ok.hd hc) λ h1 tk dr vs ns kp hge hi hpm => ?_)))
 have hl := hi.length
 have hn : vs.length < 64 := by rw [hl, hpm.length_eq]; exact h64
 refine Am4 (wpAny_newList ?_ (by rw [Aro]; omega))
 have hoL : (h1.push (seqObj "list" vs.toArray 0)).get? h1.objs.size = some (seqObj "list" vs.toArray 0) := Anc _ rfl
 have keep : ∀ b o, s.heap.get? b = some o -> (h1.push (seqObj "list" vs.toArray 0)).get? b = some o := λ b o q => Am5 _ (kp b o q)
 have ne : ∀ b o, s.heap.get? b = some o -> b ≠ h1.objs.size := λ b o q => Anm (Ana (kp b o q))
 show wpAny _ _ _ _ _ { s with heap := h1.push (seqObj "list" vs.toArray 0), toks := tk, drawn := dr }
 refine Am4 (Aou (Aoh slot_list_sort ⟨_, hoL, rfl⟩ entry_list_sort (list_sort_tree hoL hi dkm λ out ms a1 a2 a3 => ⟨_, rfl, Am7 ⟨_, rfl, ?_⟩⟩) (args_list_sort _)))
 obtain ⟨e, he⟩ := sortedHeap_at (out := out) hoL
 have j3 := a2.trans hpm
 refine ⟨.ref h1.objs.size, _, (I.drew dr).laid (t' := tk) (o := .lst (ms.map V.int)) (λ b o q => by rw [sortedHeap_old (ne b o q) (Ana (keep b o q))]; exact keep b o q) hge ?_, rfl, q _ _ (I.hok.fresh hge) j3 ?_⟩
 · exact ⟨by rw [Am9, j3.length_eq, Aro]; omega, out.toList, e, We a1, by rw [Array.toArray_toList]; exact he⟩
 · exact (a3.and (j3.nodup_iff.mpr hds)).imp λ {a b} h => by have := h.1; have := h.2; omega
theorem ex1 (h : us.length = 1) : ∃ a, us = [a] := by
 match us, h with
 | [a], _ => exact ⟨a, rfl⟩
theorem ex2 (h : us.length = 2) : ∃ a b, us = [a, b] := by
 match us, h with
 | [a, b], _ => exact ⟨a, b, rfl⟩
theorem ex3 (h : us.length = 3) : ∃ a b c, us = [a, b, c] := by
 match us, h with
 | [a, b, c], _ => exact ⟨a, b, c, rfl⟩
theorem ex4 (h : us.length = 4) : ∃ a b c d, us = [a, b, c, d] := by
 match us, h with
 | [a, b, c, d], _ => exact ⟨a, b, c, d, rfl⟩
theorem ex5 (h : us.length = 5) : ∃ a b c d e, us = [a, b, c, d, e] := by
 match us, h with
 | [a, b, c, d, e], _ => exact ⟨a, b, c, d, e, rfl⟩
end L2
namespace L2
open PySem PySem.Spec PyProof.Rows PySem.SeqAt
variable {X : Cx}
variable {w : World}
end L2
namespace L2
open PySem PySem.Spec PyProof.Rows
def du (c : Addr) (v : V) : HO := .ext λ h => ∃ o u, h.get? c = some o /\ o.data = .cell (some u) /\ RelV v u
def Zo (c : Addr) (q : Str) : HO := .ext λ h => ∃ o vs t, h.get? c = some o /\ o.data = .fields vs /\ vs[1]? = some (.str q t)
def yv (f : Addr) (ps : Arguments) (b : Expr) (sc : Scope) (cl : List (Str × Addr)) (q : Str) (cd : Addr) : HO :=
 .ext λ h => ∃ pm ctv, h.get? f = some (W.kla_obj "<lambda>" q ps b sc cl pm cd ctv)
def Adv (e : h.IsCell c (some u)) (r : RelV v u) : ObjOk P w H h c (du c v) := by
 obtain ⟨o, e1, e2⟩ := e
 refine ⟨⟨o, u, e1, e2, r⟩, ⟨o, e1⟩, ?_⟩
 rintro h1 h2 ⟨o', u', q1, q2, q3⟩ k
 exact ⟨o', u', k _ q1, q2, q3⟩
def Acy (e : h.CodeRec (.ref c) q) : ObjOk P w H h c (Zo c q) := by
 obtain ⟨c', o, vs, t, e0, e1, e2, e3⟩ := e
 cases e0
 refine ⟨⟨o, vs, t, e1, e2, e3⟩, ⟨o, e1⟩, ?_⟩
 rintro h1 h2 ⟨o', vs', t', q1, q2, q3⟩ k
 exact ⟨o', vs', t', k _ q1, q2, q3⟩
def zw
  (e : h.get? f = some (W.kla_obj "<lambda>" q ps b sc cl pm cd ctv)) : ObjOk P w H h f (yv f ps b sc cl q cd) := by
 refine ⟨⟨pm, ctv, e⟩, ⟨_, e⟩, ?_⟩
 rintro h1 h2 ⟨pm', ctv', q1⟩ k
 exact ⟨pm', ctv', k _ q1⟩
structure MkL (mg : Str -> Option Value) (base : Heap) (c P : Addr) : Prop where
 hd : W.CodeHd base c P
 bm : base.BuiltinsAt mg P
def LTab (H : Hp) (P : Addr) (pos : Pos) (q : Str) : Prop :=
 H P = some (.tbl #[]) ∨ ∃ cd, H P = some (.tbl #[rawInt pos.line, rawInt pos.col, .ref cd]) /\ H cd = some (Zo cd q)
def Aca (hp : H p = some (.tbl ps)) (ok : HOk P w H h) (k : ∀ b o, b ≠ p -> h.get? b = some o -> h'.get? b = some o) (s : ∀ b u, b ≠ p -> H b = some u -> H' b = some u)
  {b : Addr} {u : HO} (hb : b ≠ p) (e : H b = some u) : ObjOk P w H' h' b u := by
 have own : ∀ b' x, H b' = some (.own x) -> b' ≠ p := λ b' x z q => by rw [q, hp] at z; cases z
 have tup : ∀ b' x, H b' = some (.tup x) -> b' ≠ p := λ b' x z q => by rw [q, hp] at z; cases z
 exact (ok b u e).stay (λ b' u' z q => k b' u' (z.elim (λ z => z ▸ hb) (own _ _)) q) (λ b' z => s _ _ (own _ _ z) z) λ b' xs z => s _ _ (tup _ _ z) z
variable {X : Cx}
def Al1 (X : Cx) (P : Addr) (ps : Arguments) (b : Expr) (sc : Scope) (pos : Pos) (cl : List (Str × Addr)) : TE := λ _ H Q => LTab H P pos (X.env.qual ++ "<lambda>") /\
 (H P = some (.tbl #[]) -> ∀ f cd, H f = none -> H cd = none -> f ≠ cd -> Q (.ref f) (upd (upd (upd H P (.tbl #[rawInt pos.line, rawInt pos.col, .ref cd])) cd (Zo cd (X.env.qual ++ "<lambda>"))) f (yv f ps b sc cl (X.env.qual ++ "<lambda>") cd))) /\
 (∀ cd, H P = some (.tbl #[rawInt pos.line, rawInt pos.col, .ref cd]) -> ∀ f, H f = none -> Q (.ref f) (upd H f (yv f ps b sc cl (X.env.qual ++ "<lambda>") cd)))
def Ajf (M : MkL X.mg X.base c P) (hcode : X.env.code = .ref c) (hdef : defaultsOf ps X.env = ([], []) := by rfl) (hcl : closureFor sc X.env = pure cl := by rfl) : PE X (.Lambda ps b sc pos) (Al1 X P ps b sc pos cl) := by
 intro pins s σ H Q I ⟨ht, hq1, hq2⟩
 have hg : s.heap.Ns mainGlobals X.mg := I.mod.glob.keeps I.bk
 have hC : W.CodeHd s.heap c P := M.hd.keeps I.bk
 have hB : s.heap.BuiltinsAt X.mg P := by
  obtain ⟨bm, o, h1, h2, h3, h4, h5, h6⟩ := M.bm
  exact ⟨bm, o, h1, h2, h3, h4, I.bk _ _ h5, h6⟩
 have tabs : ∀ {a : Array Value}, H P = some (.tbl a) -> s.heap.get? P = some (W.tabObj a) := λ e => (show ObjOk X.prog X.w H s.heap P (.tbl _) from I.hok P _ e)
 refine W.kla_eval hdef ?_
 rcases ht with e | ⟨cd, e, ecd⟩
 ·
  have hgP : mainGlobals ≠ P := λ z => by
   have := (I.bs mainGlobals)
   obtain ⟨o, es, ep, e1, _⟩ := I.mod.glob
   have := (I.bs _ _ e1).2
   rw [z, e] at this
   cases this
  refine W.kla_makeFunction (mg := X.mg) hcl I.ok.glob hg hcode hC (tabs e) trivial rfl hgP hB λ c' ctv h' tk hx hge hlt hrec htb => ?_
  have hsz : s.heap.objs.size <= h'.objs.size := Anb hge (Apj hlt)
  have nf : H h'.objs.size = none := I.hok.fresh hsz
  have nc : H c' = none := I.hok.fresh hge
  have ne : h'.objs.size ≠ c' := Aos hlt
  have hPf : P ≠ h'.objs.size := Aq e nf
  have hPc : P ≠ c' := Aq e nc
  have kp : ∀ b' o, b' ≠ P -> s.heap.get? b' = some o -> (h'.push (W.kla_obj "<lambda>" (X.env.qual ++ "<lambda>") ps b sc cl ((X.mg "__name__").getD .none) c' ctv)).get? b' = some o := λ b' o hb z => Am5 _ (hx b' o hb z)
  have st : ∀ b' u, b' ≠ P -> H b' = some u -> (upd (upd (upd H P (.tbl #[rawInt pos.line, rawInt pos.col, .ref c'])) c' (Zo c' (X.env.qual ++ "<lambda>"))) h'.objs.size (yv h'.objs.size ps b sc cl (X.env.qual ++ "<lambda>") c')) b' = some u := λ b' u hb z => by
   rw [An (Aq z nf), An (Aq z nc), An hb]; exact z
  have stP : (upd (upd (upd H P (.tbl #[rawInt pos.line, rawInt pos.col, .ref c'])) c' (Zo c' (X.env.qual ++ "<lambda>"))) h'.objs.size (yv h'.objs.size ps b sc cl (X.env.qual ++ "<lambda>") c')) P = some (.tbl #[rawInt pos.line, rawInt pos.col, .ref c']) := by
   rw [An hPf, An hPc, Ae]
  have nP : ∀ b' o, s.heap.get? b' = some o -> H b' = none -> b' ≠ P := λ b' o _ n z => by rw [z, e] at n; cases n
  refine ⟨.ref h'.objs.size, _, I.un (t' := tk) (h' := h'.push (W.kla_obj "<lambda>" (X.env.qual ++ "<lambda>") ps b sc cl ((X.mg "__name__").getD .none) c' ctv)) ?_ ?_, rfl, hq1 e _ c' nf nc ne⟩
  ·
   refine ⟨λ b' o z n _ _ => kp b' o (nP b' o z n) z, λ b' o z n _ _ => ⟨o.slots, kp b' o (nP b' o z n) z⟩, λ b' o z n _ => ?_, λ b' o z _ => ?_, λ b' xs z => st b' _ (λ q => by rw [q, e] at z; cases z) z, λ b' o u z => st b' _ (λ q => by rw [q, e] at z; cases z) z, λ b' a z => ?_⟩
   ·
    have l := Ana z
    rw [An (Anm (Anv l hsz)), An (Anm (Anv l hge)), An (nP b' o z n)]
    exact n
   ·
    by_cases hb : b' = P
    · subst hb; exact ⟨_, Am5 _ htb⟩
    · exact ⟨o, kp b' o hb z⟩
   ·
    by_cases hb : b' = P
    ·
     subst hb
     rw [e] at z
     cases z
     exact ⟨#[rawInt pos.line, rawInt pos.col, .ref c'], by rw [stP, Array.empty_append]⟩
    · exact ⟨#[], by rw [st b' _ hb z]; simp⟩
  ·
   intro b' u z
   by_cases h1 : b' = h'.objs.size
   ·
    subst h1
    rw [Ae] at z
    cases z
    exact zw (Anc _ rfl)
   ·
    rw [An h1] at z
    by_cases h2 : b' = c'
    ·
     subst h2
     rw [Ae] at z
     cases z
     obtain ⟨c2, o, vs, t, e0, e1, e2⟩ := hrec
     cases e0
     exact Acy ⟨_, o, vs, t, rfl, Am5 _ e1, e2⟩
    ·
     rw [An h2] at z
     by_cases h3 : b' = P
     ·
      subst h3
      rw [Ae] at z
      cases z
      have htb' := Am5 (W.kla_obj "<lambda>" (X.env.qual ++ "<lambda>") ps b sc cl ((X.mg "__name__").getD .none) c' ctv) htb
      rw [Array.empty_append] at htb'
      exact htb'
     ·
      rw [An h3] at z
      exact Aca e I.hok kp st h3 z
 ·
  refine W.kla_makeFunctionHit (mg := X.mg) (cv := .ref cd) hcl I.ok.glob hg hcode hC (tabs e) trivial ?_ hB λ ctv h' tk hk hsz => ?_
  ·
   show codeAmong pos [rawInt pos.line, rawInt pos.col, .ref cd] = some (.ref cd)
   unfold codeAmong rawInt
   dsimp only
   simp
  have nf : H h'.objs.size = none := I.hok.fresh hsz
  refine ⟨.ref h'.objs.size, _, I.laid (t' := tk) (h' := h'.push (W.kla_obj "<lambda>" (X.env.qual ++ "<lambda>") ps b sc cl ((X.mg "__name__").getD .none) cd ctv)) (λ b' o z => Am5 _ (hk b' o z)) hsz (zw (Anc _ rfl)), rfl, hq2 cd e _ nf⟩
def HOk.track (ok : HOk P w H h) (n : H c = none) (new : ObjOk P w (upd H c o) h c o) : HOk P w (upd H c o) h := λ b u e => by
 by_cases hb : b = c
 · subst hb; rw [Ae] at e; cases e; exact new
 ·
  rw [An hb] at e
  exact (ok b u e).stay (λ _ _ _ q => q) (λ b' z => by rw [An (Aq z n)]; exact z) λ b' xs z => by rw [An (Aq z n)]; exact z
def Un.track (u : Un fs ex H H1 h h1) (hc : h.objs.size <= c) (n : H1 c = none) : Un fs ex H (upd H1 c o) h h1 :=
 ⟨u.keep, u.slot, λ b ob q z hx => by rw [An (Anm (Anv (Ana q) hc))]; exact u.free b ob q z hx, u.there,
  λ b xs z => by rw [An (Aq (u.tups b xs z) n)]; exact u.tups b xs z, λ b ob x z => by rw [An (Aq (u.frzs b ob x z) n)]; exact u.frzs b ob x z,
  λ b ps z => by obtain ⟨m, e⟩ := u.tbls b ps z; exact ⟨m, by rw [An (Aq e n)]; exact e⟩⟩
def Tz : List (Nat × Str × Addr × V) -> Hp -> Hp
 | [], H => H
 | p :: L, H => upd (Tz L H) p.2.2.1 (du p.2.2.1 p.2.2.2)
theorem kl : ∀ {L : List (Nat × Str × Addr × V)}, b ∉ L.map (λ p => p.2.2.1) -> Tz L H b = H b
 | [], _ => rfl
 |
  p :: L, h => by
  rw [An9, Anf, not_or] at h
  show upd (Tz L H) p.2.2.1 _ b = H b
  rw [An h.1]
  exact kl h.2
def RC (N : List Str) (sc : Scope) (n : Nat) (Q : VK) : St -> VK := λ σ v H => ∃ L : List (Nat × Str × Addr × V),
 (∀ p ∈ L, N[p.1]? = some p.2.1 /\ σ[p.1]? = some (some p.2.2.2) /\ (cellsFrom n sc.names []).lookup p.2.1 = some p.2.2.1 /\ sc.names.lookup p.2.1 = some .cell) /\ (L.map (λ p => p.2.2.1)).Nodup /\ ((∀ p ∈ L, H p.2.2.1 = none) -> Q v (Tz L H))
def Xv (K : W.Frag) (f : Addr) : Option Addr := match K.lookup f with
 |
  some ⟨_, _, .func fd, _⟩ => (match fd.code with
  | .ref c => some c
  | _ => none)
 | _ => none
variable {w : World}
theorem p8 (J : Inv X pins σ H s) (hf : ∀ x, X.fn x = true) (un : Un fs [] X.H₀ H X.s₀.heap s.heap) : ∀ L : List (Nat × Str × Addr × V),
  (∀ p ∈ L, X.N[p.1]? = some p.2.1 /\ σ[p.1]? = some (some p.2.2.2) /\ X.env.cells.lookup p.2.1 = some p.2.2.1 /\ X.env.scope.names.lookup p.2.1 = some .cell) -> (L.map (λ p => p.2.2.1)).Nodup ->
  Un fs [] X.H₀ (Tz L H) X.s₀.heap s.heap /\ HOk X.prog X.w (Tz L H) s.heap
 | [], _, _ => ⟨un, J.hok⟩
 |
  p :: L, h, nd => by
  rw [An9, List.nodup_cons] at nd
  obtain ⟨u1, k1⟩ := p8 J hf un L (λ q hq => h q (Ann _ hq)) nd.2
  obtain ⟨a1, a2, a3, a4⟩ := h p (Ano ..)
  have n0 : Tz L H p.2.2.1 = none := by rw [kl nd.1]; exact J.freeC _ _ a3
  obtain ⟨m, _, hl⟩ := J.loc
  obtain ⟨u, rv, lk⟩ := hl _ _ _ a1 a2 (.inr (.inl a4))
  have hc : s.heap.IsCell p.2.2.1 (some u) := by
   rcases lk with ⟨z, _⟩ | ⟨_, c, e, z⟩
   ·
    have z' : X.env.scope.names.lookup p.2.1 = some .local := z
    rw [a4] at z'; cases z'
   · rw [a3] at e; cases e; exact z
  exact ⟨u1.track (J.ok.cab _ _ (hf _) a3) n0, k1.track n0 (Adv hc rv)⟩
theorem Ajd {P : Program} {K : W.Frag} {mg : Str -> Option Value} {base : Heap} {cm : Bool} {k : Nat} {f cc : Addr} {name qual : Str} {params : Arguments} {body : List Stmt} {scope : Scope} {dV kV doc pm cdv ct oc : Value} {an od : Option Addr}
  {osl : Array (Option Value)} {N ps : List Str} {sp : Sp} (lk : K.lookup f = some ⟨oc, od, .func (W.fnOf name qual params body scope dV kV doc pm an cdv ct), osl⟩) (hcd : W.codeIn K cdv qual = true) (S : Aw N ps scope) (hcc : Xv K f = some cc)
  (len : ∀ vs H Q E, sp vs H Q E -> vs.length = ps.length)
  (hbody : ∀ (A : Around) (outer : List Env) (s : Shared) (H : Hp) (vs : List V) (Q : VK) (E : XK), Room cm k (A.deeper (envOfC qual scope s.heap.objs.size f (.ref cc))) -> sp vs H Q E ->
   ∃ t, PSs (xn CX0 cm P w K mg base N qual scope f (.ref cc) A outer s H E) body t /\ t { nx := λ _ H' => Q .non H', rt := RC N scope (s.heap.objs.size + 1) Q } (start N vs) H) :
  FnOk P w K mg base CX0 cm (k + 1) f (W.fnOf name qual params body scope dV kV doc pm an cdv ct) ps sp := by
 have ecd : cdv = .ref cc := by
  unfold Xv at hcc
  rw [lk] at hcc
  dsimp only [W.fnOf] at hcc
  cases cdv <;> first | (cases hcc; rfl) | (cases hcc)
 subst ecd
 refine ⟨len, λ A outer s H args us vs Q E hr e0 hb r hsp => ?_⟩
 have hl := len _ _ _ _ hsp
 have KX : K.In s.heap := e0.mod.kin.keeps λ b o e => (e0.bs b o e).1
 have lim : s.heap.NoLimit := e0.mod.nolimit.keeps λ b o e => (e0.bs b o e).1
 have hkind : ∀ y ∈ ps.zip us, scope.names.lookup y.1 = some .local ∨ (scope.names.lookup y.1 = some .cell /\ ((cellsFrom (s.heap.objs.size + 1) scope.names []).lookup y.1).isSome = true) := λ ⟨n, v⟩ hy => by
  rcases S.par n (Ap6 hy).1 with q | q
  · exact .inl q
  · exact .inr ⟨q, W.cellsFrom_some _ _ _ (.inl q)⟩
 refine codeAny_call_function hr.depth (KX _ _ lk) rfl S.co S.gen rfl (W.codeRec_of KX hcd) (hb _ _ _ _ ?_)
 refine wpAny_newFunctionEnv_cells S.kind hkind λ env he s1 x => ?_
 subst he
 refine ⟨lim.keeps x.toInCall.keep, codeAny_func ?_⟩
 obtain ⟨t, ht, hq⟩ := hbody A outer s H vs Q E (hr.deeper _) hsp
 have I : Inv (xn CX0 cm P w K mg base N qual scope f (.ref cc) A outer s H E) [] (start N vs) H s1 := o6 S hr.hd e0 hl r x
 refine Ao3 (ht [] s1 (start N vs) H _ I hq) (λ fl s' hs => ?_) λ e s' hs => hs
 cases fl with
 |
  ret u =>
  obtain ⟨v, σ', H', J, rv, L, h1, h2, q⟩ := hs
  obtain ⟨u1, k1⟩ := p8 J (λ _ => rfl) J.base L (λ p hp => h1 p hp) h2
  exact ⟨v, _, J.os, J.bare, u1, k1, rv, q λ p hp => J.freeC _ _ (h1 p hp).2.2.1⟩
 |
  next =>
  obtain ⟨σ', H', J, q⟩ := hs
  exact ⟨.non, H', J.os, J.bare, J.base, J.hok, rfl, q⟩
 |
  brk =>
  obtain ⟨_, _, _, q⟩ := hs
  exact False.elim q
 |
  cont =>
  obtain ⟨_, _, _, q⟩ := hs
  exact False.elim q
def Fun.okC {P : Program} {K : W.Frag} {mg : Str -> Option Value} {base : Heap} {cm : Bool} {x qual : Str} {st : Stmt} {f cc : Addr} {fd : FuncData} {N ps : List Str} {k : Nat} {sp : Sp} (F : Fun K x qual st f fd) (S : Aw N ps (Ah st)) (hcc : Xv K f = some cc) (len : ∀ vs H Q E, sp vs H Q E -> vs.length = ps.length)
  (hbody : ∀ (A : Around) (outer : List Env) (s : Shared) (H : Hp) (vs : List V) (Q : VK) (E : XK), Room cm k (A.deeper (envOfC qual (Ah st) s.heap.objs.size f (.ref cc))) -> sp vs H Q E ->
   ∃ t, PSs (xn CX0 cm P w K mg base N qual (Ah st) f (.ref cc) A outer s H E).nox (Ay st) t /\ t { nx := λ _ H' => Q .non H', rt := RC N (Ah st) (s.heap.objs.size + 1) Q } (start N vs) H) : FnOk P w K mg base CX0 cm (k + 1) f fd ps sp := by
 obtain ⟨oc, od, kV, doc, pm, an, cdv, ct, osl, rfl, lk, hcd⟩ := F.ex
 refine Ajd lk hcd S hcc len λ A outer s H vs Q E hr hsp => ?_
 obtain ⟨t, h, q⟩ := hbody A outer s H vs Q E hr hsp
 exact ⟨t, h.nox, q⟩
def Ade (cm : Bool) (P : Program) (w : World) (K : W.Frag) (mg : Str -> Option Value) (base : Heap) (N : List Str) (qual : Str) (scope : Scope) (f cd : Addr) (cl : List (Str × Addr)) (A : Around) (outer : List Env) (s : Shared) (H : Hp) : Cx where
 prog := P
 w := w
 K := K
 mg := mg
 base := base
 A := A.deeper (W.envX qual scope s.heap.objs.size f (.ref cd) cl)
 N := N
 s₀ := s
 H₀ := H
 env := W.envX qual scope s.heap.objs.size f (.ref cd) cl
 outer := outer
 stack := W.envX qual scope s.heap.objs.size f (.ref cd) cl :: outer
 ex := []
 calm := cm
 fn := λ _ => false
 pn := []
 xe := λ _ _ => False
def Vm (cl : List (Str × Addr)) (H : Hp) : Hp := λ b => if b ∈ cl.map (·.2) then none else H b
def Pj (h : H b = none) : Vm cl H b = none := by unfold Vm; split <;> first | rfl | exact h
def oi (h : b ∈ cl.map (·.2)) : Vm cl H b = none := if_pos h
def Tt (h : b ∉ cl.map (·.2)) : Vm cl H b = H b := if_neg h
def X4 (h : Vm cl H b = some u) : b ∉ cl.map (·.2) /\ H b = some u := by
 by_cases hb : b ∈ cl.map (·.2)
 · rw [oi hb] at h; cases h
 · rw [Tt hb] at h; exact ⟨hb, h⟩
structure oj (x : Str) (fr : List Str) (sc : Scope) : Prop where
 kind : sc.kind = .function
 co : sc.isCoroutine = false
 gen : sc.isGenerator = false
 loc : sc.names.lookup x = some .local
 nd : (x :: fr).Nodup
 free : ∀ y ∈ fr, sc.names.lookup y = some .free
 noc : ∀ y ∈ sc.names, y.2 ≠ .cell
 all : ∀ y ∈ sc.names, y.2 = .free -> y.1 ∈ fr
structure LamIs (H : Hp) (f : Addr) (ps : Arguments) (b : Expr) (sc : Scope) (q : Str) (fr : List Str) (zs : List V) (cl : List (Str × Addr)) (cd : Addr) : Prop where
 at_ : H f = some (yv f ps b sc cl q cd)
 code : H cd = some (Zo cd q)
 nd : (cl.map (·.2)).Nodup
 len : zs.length = fr.length
 has : ∀ (i : Nat) (x : Str) (z : V), fr[i]? = some x -> zs[i]? = some z -> ∃ c, cl.lookup x = some c /\ H c = some (du c z)
 all : ∀ p ∈ cl, ∃ z, H p.2 = some (du p.2 z)
def Af0 {P : Program} {K : W.Frag} {mg : Str -> Option Value} {base : Heap} {cm : Bool} {k : Nat} {A : Around} {outer : List Env} {s : Shared} {H : Hp} {f cd : Addr} {u : Value} {y : V} {zs : List V} {Q : VK} {E : XK} {ps : Arguments} {b : Expr} {sc : Scope} {q : Str} {x : Str} {fr : List Str} {cl : List (Str × Addr)} {t : TE}
  (S : oj x fr sc) (L : LamIs H f ps b sc q fr zs cl cd) (hbind : ∀ pm ctv, bindArgs (W.kla_fn "<lambda>" q ps b sc cl pm (.ref cd) ctv) ⟨[u], []⟩ = pure [(x, u)]) (hr : Room cm k A) (e0 : Env0 P w K mg base A outer s H) (ry : RelV y u)
  (hb : PE (Ade cm P w K mg base (x :: fr) q sc f cd cl A outer s (Vm cl H)) b t) (hq : t (some y :: zs.map some) (Vm cl H) λ v H1 => H1 = Vm cl H /\ Q v H) :
  codeAny (model P w) A (.call (.ref f) ⟨[u], []⟩) (CR CX0 outer P w H s Q E) s := by
 obtain ⟨⟨pm, ctv, ho⟩, _, _⟩ := (show ObjOk P w H s.heap f (yv f ps b sc cl q cd) from e0.hok f _ L.at_)
 obtain ⟨⟨oc, vs, tk, c1, c2, c3⟩, _, _⟩ := (show ObjOk P w H s.heap cd (Zo cd q) from e0.hok cd _ L.code)
 have lim : s.heap.NoLimit := e0.mod.nolimit.keeps λ b o e => (e0.bs b o e).1
 have hcell : ∀ c, c ∈ cl.map (·.2) -> ∃ z, H c = some (du c z) := λ c hc => by
  obtain ⟨p, hp, rfl⟩ := Anx.mp hc
  exact L.all p hp
 have notC : ∀ {b' : Addr} {o : HO}, H b' = some o -> (∀ z, o ≠ du b' z) -> b' ∉ cl.map (·.2) := λ e n hc => by
  obtain ⟨z, e2⟩ := hcell _ hc
  rw [e] at e2
  exact n z (An7 e2)
 refine W.kla_callFunE hr.depth ho rfl S.co S.gen rfl ⟨cd, oc, vs, tk, rfl, c1, c2, c3⟩ ?_
 rw [hbind]
 refine Am7 (Ar0 S.noc (λ z hz => by rw [An3] at hz; subst hz; exact S.loc) (λ h₁ hns hsb => ⟨lim.fresh _ hsb, ?_⟩) S.kind)
 have hk₁ : ∀ b o, s.heap.get? b = some o -> h₁.get? b = some o := λ b o e => hsb.extBut b o (Anm (Ana e)) (Am5 _ e)
 have I : Inv (Ade cm P w K mg base (x :: fr) q sc f cd cl A outer s (Vm cl H)) [] (some y :: zs.map some) (Vm cl H) { s with heap := h₁, toks := s.toks + 1 } := by
  have noA : ∀ b : Addr, b ∉ (Ade cm P w K mg base (x :: fr) q sc f cd cl A outer s (Vm cl H)).ex := λ b z => absurd (show b ∈ ([] : List Addr) from z) dks
  refine ⟨⟨e0.mod, S.kind, rfl, rfl, Anh _, λ y' z c h1 h2 => ?_, λ y' hy => ?_, λ y' c h => (by cases h), hr.hd, Around.frames_deeper e0.frames, .inr ⟨rfl, rfl⟩, λ b z => absurd z (noA b), λ b o e => ⟨(e0.bs b o e).1, Pj (e0.bs b o e).2⟩, e0.bsz, λ b _ _ => noA b, λ b z => absurd z (noA b), e0.funs, λ b hb => Pj (e0.frf b hb)⟩,
   rfl, e0.bare, Un.kept hk₁, ⟨_, hns, λ i x' v h1 h2 h3 => ?_⟩, λ y' c h => ?_, Pj (e0.hok.fresh (Anh _)), λ y' c h => oi (Anx.mpr ⟨_, Aok h, rfl⟩), λ p hp => absurd (show p ∈ ([] : List (Addr × Obj)) from hp) dks, λ b' o e => ?_, ?_⟩
  · exact name_of_addr (by have := L.nd; unfold List.Nodup at this; rw [Aq4] at this; exact this) (Aok h1) (Aok h2)
  ·
   have hf : sc.names.lookup y' = some .free := by
    rcases (show sc.names.lookup y' = some .cell ∨ sc.names.lookup y' = some .free from hy) with h | h
    · exact absurd rfl (S.noc _ (Aok h))
    · exact h
   have hm : y' ∈ fr := S.all _ (Aok hf) rfl
   obtain ⟨i, hi⟩ := Aob hm
   have hi' : i < zs.length := by rw [L.len]; exact (Ang.mp hi).1
   obtain ⟨c, hc, _⟩ := L.has i y' _ hi (An6 hi')
   exact ⟨c, hc⟩
  ·
   cases i with
   |
    zero =>
    cases h1
    cases h2
    exact ⟨u, ry, .inl ⟨S.loc, by show List.lookup x [(x, u)] = some u; rw [List.lookup_cons_self]⟩⟩
   |
    succ i =>
    have h1' : fr[i]? = some x' := h1
    have h2' : zs[i]? = some v := by
     have h2 : (zs.map some)[i]? = some (some v) := h2
     rw [Anu] at h2
     cases e : zs[i]? with
     | none => rw [e] at h2; cases h2
     | some a => rw [e] at h2; cases h2; rfl
    obtain ⟨c, hc, hH⟩ := L.has i x' v h1' h2'
    obtain ⟨⟨o, u', a1, a2, a3⟩, _, _⟩ := (show ObjOk P w H s.heap c (du c v) from e0.hok c _ hH)
    exact ⟨u', a3, .inr ⟨.inr (S.free _ (Aoa h1')), c, hc, ⟨o, hk₁ _ _ a1, a2⟩⟩⟩
  ·
   obtain ⟨z, hH⟩ := L.all _ (Aok h)
   obtain ⟨⟨o, u', a1, a2, a3⟩, _, _⟩ := (show ObjOk P w H s.heap c (du c z) from e0.hok c _ hH)
   exact ⟨some u', ⟨o, hk₁ _ _ a1, a2⟩⟩
  ·
   obtain ⟨n1, e1⟩ := X4 e
   refine (e0.hok b' o e1).stay (λ b2 u2 _ z => hk₁ b2 u2 z) (λ b2 z => ?_) λ b2 xs z => ?_
   · rw [Tt (notC z λ z' h => by unfold du at h; cases h)]; exact z
   · rw [Tt (notC z λ z' h => by unfold du at h; cases h)]; exact z
  ·
   show (zs.map some).length + 1 = fr.length + 1
   rw [Am9, L.len]
 refine W.kla_codeExpr (Ao3 (hb [] _ _ _ _ I hq) (λ v s' ⟨v1, H1, J, rv, e1, q1⟩ => ?_) λ _ _ z => z.elim)
 subst e1
 have un := J.base
 have frn : ∀ {b : Addr} {o : HO}, H b = some o -> b ∉ frs outer := λ e hb => by rw [e0.frf _ hb] at e; cases e
 refine ⟨v1, H, J.os, J.bare, ⟨λ b o h n hf hx => un.keep b o h (Pj n) hf hx, λ b o h n hf hx => un.slot b o h (Pj n) hf hx, λ _ _ _ n _ => n, λ b o h hx => un.there b o h hx, λ _ _ z => z, λ _ _ _ z => z, λ b ps z => ⟨#[], by rw [z]; simp⟩⟩, λ b o e => ?_, rv, q1⟩
 by_cases hb' : b ∈ cl.map (·.2)
 ·
  obtain ⟨z, e2⟩ := hcell b hb'
  rw [e] at e2
  cases e2
  obtain ⟨o1, o2, o3⟩ := (show ObjOk P w H s.heap b (du b z) from e0.hok b _ e)
  obtain ⟨ob, hob⟩ := o2
  have kb := un.keep b ob hob (oi hb') (frn e) (λ z => absurd (show b ∈ ([] : List Addr) from z) dks)
  exact ⟨o3 _ _ o1 λ o' e' => by rw [hob] at e'; cases e'; exact kb, ⟨ob, kb⟩, o3⟩
 ·
  have e' : Vm cl H b = some o := by rw [Tt hb']; exact e
  exact (J.hok b o e').stay (λ _ _ _ z => z) (λ b2 z => (X4 z).2) λ b2 xs z => (X4 z).2
theorem Adk {cm : Bool} {X : Cx} {k : Nat} {x y : Str} {p pos : Pos} {e : Expr} {tf : TE} {ta : TA} {ps : Arguments} {b : Expr} {sc : Scope} {q : Str} {fr : List Str} {t : TE} (S : oj x fr sc)
  (hbind : ∀ (u : Value) cl pm cd ctv, bindArgs (W.kla_fn "<lambda>" q ps b sc cl pm cd ctv) ⟨[u], []⟩ = pure [(x, u)]) (hr : Room cm k X.A)
  (hb : ∀ f cd cl A outer s H, PE (Ade cm X.prog X.w X.K X.mg X.base (x :: fr) q sc f cd cl A outer s H) b t)
  (hf : PE X (.Name y p) tf) (ha : PA X [e] ta) (hs : starEach [e] X.env = [(false, eval e X.env)] := by rfl) (hpl : (backTo pos (starEach [] X.env)).any (·.1) = false := by rfl) :
  PE X (.Call (.Name y p) [e] [] pos) (λ σ H Q => tf σ H λ v H1 => ∃ f zs cl cd, v = .ref f /\ LamIs H1 f ps b sc q fr zs cl cd /\ ta σ H1 λ vs H2 => ∃ a, vs = [a] /\ LamIs H2 f ps b sc q fr zs cl cd /\
   t (some a :: zs.map some) (Vm cl H2) λ v H3 => H3 = Vm cl H2 /\ Q v H2) := by
 intro pins s σ H Q I h
 refine Ao8 (thn (hf pins s σ H _ I h) λ fv s0 ⟨v0, H0, I0, r0, f, zs, cl, cd, e0, L0, q0⟩ => ?_)
 subst e0
 cases r0
 have fa : ∀ {H' : Hp} {s' : Shared}, Inv X pins σ H' s' -> LamIs H' f ps b sc q fr zs cl cd -> W.FnAt f s'.heap := λ J L => by
  obtain ⟨⟨pm, ctv, ho⟩, _, _⟩ := (show ObjOk X.prog X.w _ _ f (yv f ps b sc cl q cd) from J.hok f _ L.at_)
  exact ⟨_, _, _, _, ho⟩
 refine W.callWith_F (first := []) (fa I0 L0) (thn (ha pos pins s0 σ H0 _ I0 q0) λ us s1 ⟨vs, H1, I1, r, a, e1, L1, q1⟩ => ⟨fa I1 L1, ?_⟩) hs hpl
 subst e1
 cases r with
 |
  cons ra rr =>
  cases rr
  refine Aqz (Ao7 (Af0 (Q := Q) (E := λ _ _ _ => False) S L1 (λ pm ctv => hbind _ cl pm _ ctv) hr I1.env0 ra (hb f cd cl _ _ _ _) q1) λ fl s' hq => ?_)
  match fl, hq with
  | .error ev, hq => exact hq.elim
  | .ok (.ret u), hq => exact I1.after hq
  | .ok .next, hq => exact hq.elim
  | .ok .brk, hq => exact hq.elim
  | .ok .cont, hq => exact hq.elim
def Afc (P : Addr) (H : Hp) : Prop := ∀ b, H b = none ∨ b = P ∨ ∃ o xs, H b = some (.frz o (.lst xs))
theorem Ab8 {cm : Bool} {P : Program} {w : World} {K : W.Frag} {mg mb : Str -> Option Value} {CX : CXT} {k : Nat} {fa a cc pt : Addr} {fd : FuncData} {x : Str} {sp : Sp} {s₁ : Shared} {vs : List Value} {ns : List Int}
  (KX : K.In s₁.heap) (hns : s₁.heap.Ns mainGlobals mg) (hb : s₁.heap.Ns builtinsNs mb) (hbb : ∀ x : Str, x ≠ "__name__" -> mb x = bootBuiltins x) (hlim : s₁.heap.NoLimit) (hg : s₁.gens = #[])
  (hC : W.CodeHd s₁.heap cc pt) (hP : s₁.heap.get? pt = some (W.tabObj #[])) (hbm : ∃ bm o, mg "__builtins__" = some (.ref bm) /\ bm ≠ builtinsNs /\ bm ≠ mainGlobals /\ s₁.heap.get? bm = some o /\ o.cls = .type "module" /\ o.dict = some builtinsNs /\ o.data = .plain)
  (hKP : K.lookup pt = none)
  (ha : s₁.heap.get? a = some { cls := .type "list", data := .seq vs.toArray }) (hi : IntsAre vs ns) (hl : ns.length <= sizeLine) (hr : Room cm k callerA)
  (F : ∀ base : Heap, K.In base -> base.Ns mainGlobals mg -> MkL mg base cc pt -> FnOk P w K mg base CX cm k fa fd [x] sp) (hbind : ∀ (s : Shared) (u : Value), BindsTo s fd ⟨[u], []⟩ [(x, u)])
  (hsp : ∀ H : Hp, Afc pt H -> H pt = some (.tbl #[]) -> SqL K H a (ns.map V.int) -> sp [.ref a] H (λ v _ => v = .bl true) λ _ _ _ => False)
  (hCX : ∀ H e s', CX [] H s₁ (λ _ _ _ => False) e s' -> False) :
  codeAny (model P w) callerA (.call (.ref fa) ⟨[.ref a], []⟩) (λ r s' => r = .ok (.ret (.bool true)) /\ OldK s₁.heap s'.heap /\ s'.os = s₁.os /\ AllBare s'.gens) s₁ := by
 have rv := We hi
 have lenV := hi.length
 have aP : a ≠ pt := λ z => by rw [z, hP] at ha; cases ha
 have core : ∀ H : Hp, Afc pt H -> H pt = some (.tbl #[]) -> SqL K H a (ns.map V.int) -> HOk P w H s₁.heap -> (∀ b, H b ≠ none -> b = a ∨ b = pt) -> (H a ≠ none -> K.lookup a = none) ->
   codeAny (model P w) callerA (.call (.ref fa) ⟨[.ref a], []⟩) (λ r s' => r = .ok (.ret (.bool true)) /\ OldK s₁.heap s'.heap /\ s'.os = s₁.os /\ AllBare s'.gens) s₁ := by
  intro H hO hT hS hok hA hK
  have base_of : ∀ {b : Addr} {o : Obj}, s₁.heap.get? b = some o -> H b = none -> (ub s₁.heap H).get? b = some o := λ e n => vy e n
  have un0 : ∀ {b : Addr} {o : Obj}, s₁.heap.get? b = some o -> (∀ z1 z2, o.data ≠ .seq z1 z2) -> (∀ z, o.data ≠ .fields z) -> H b = none := λ {b o} e d1 d2 => by
   cases q : H b with
   | none => rfl
   |
    some u =>
    rcases hA b (by rw [q]; simp) with e' | e'
    · subst e'; rw [ha] at e; cases e; exact absurd rfl (d1 _ _)
    · subst e'; rw [hP] at e; cases e; exact absurd rfl (d2 _)
  have noA : ∀ {b : Addr} {o : Obj} {es : Array DictEntry} {ep : Nat}, s₁.heap.get? b = some o -> o.data = .dict es ep -> H b = none := λ e d => un0 e (λ _ _ z => by rw [d] at z; cases z) (λ _ z => by rw [d] at z; cases z)
  have nsK : ∀ {b : Addr} {m : Str -> Option Value}, s₁.heap.Ns b m -> (ub s₁.heap H).Ns b m := λ {b m} ⟨o, es, ep, e, d, r⟩ => ⟨o, es, ep, base_of e (noA e d), d, r⟩
  have hKb : K.In (ub s₁.heap H) := λ b o e => base_of (KX b o e) (by
   cases q : H b with
   | none => rfl
   |
    some u =>
    rcases hA b (by rw [q]; simp) with e' | e'
    ·
     subst e'
     rw [hK (by rw [q]; simp)] at e; cases e
    ·
     subst e'
     rw [hKP] at e; cases e)
  have hM : Mod K mg (ub s₁.heap H) := ⟨hKb, nsK hns, ⟨mb, nsK hb, hbb⟩, let ⟨mc, h1, h2⟩ := hlim; ⟨mc, nsK h1, h2⟩⟩
  have e0 : Env0 P w K mg (ub s₁.heap H) callerA [] s₁ H := ⟨rfl, hM, λ b o e => Aby e, Nat.le_of_eq (sf _ _), trivial, λ b hb => absurd (show b ∈ ([] : List Addr) from hb) dks, hok, .of_eq hg⟩
  have hL : MkL mg (ub s₁.heap H) cc pt := by
   constructor
   ·
    obtain ⟨o, vs', file, tf, fl, tg, inF, tx, tt, g1, g2, g3, g4⟩ := hC
    refine ⟨o, vs', file, tf, fl, tg, inF, tx, tt, base_of g1 ?_, g2, g3, g4⟩
    cases q : H cc with
    | none => rfl
    |
     some u =>
     rcases hA cc (by rw [q]; simp) with e' | e'
     · rw [e', ha] at g1; cases g1; exact absurd g3 dks
     · exact absurd e' g4.2.2.2.2.2.2
   ·
    obtain ⟨bm, o, b1, b2, b3, b4, b5, b6, b7⟩ := hbm
    refine ⟨bm, o, b1, b2, b3, λ z => ?_, base_of b4 (un0 b4 (λ _ _ z => by rw [b7] at z; cases z) (λ _ z => by rw [b7] at z; cases z)), b5, b6, b7⟩
    rw [z, hP] at b4
    cases b4
    cases b7
  refine Ao7 ((F _ hKb (nsK hns) hL).run callerA [] s₁ H ⟨[.ref a], []⟩ [.ref a] [.ref a] _ _ hr e0 (hbind s₁ (.ref a)) (.cons rfl .nil) (hsp H hO hT hS)) λ r s' h => ?_
  cases r with
  | error e => exact (hCX H e s' h).elim
  |
   ok fl =>
   cases fl with
   | next => exact False.elim h
   | brk => exact False.elim h
   | cont => exact False.elim h
   |
    ret u =>
    obtain ⟨v, H', os, bare, un, hok', r', q⟩ := h
    have q' : v = .bl true := q
    subst q'
    obtain rfl : u = Value.bool true := r'
    have kp : ∀ b o, b ≠ pt -> s₁.heap.get? b = some o -> s'.heap.get? b = some o := λ b o hb e => by
     cases q : H b with
     | none => exact un.keep b o e q (by intro z; exact absurd (show b ∈ ([] : List Addr) from z) dks) dks
     |
      some u =>
      rcases hO b with z | z | ⟨ob, xs, z⟩
      · rw [q] at z; cases z
      · exact absurd z hb
      ·
       have z2 := un.frzs b ob _ z
       obtain ⟨e1, _⟩ := hok b _ z
       obtain ⟨e2, _⟩ := hok' b _ z2
       rw [e] at e1; cases e1
       exact e2
    obtain ⟨more, em⟩ := un.tbls pt _ hT
    have ep : s'.heap.get? pt = some (W.tabObj (#[] ++ more)) := (show ObjOk P w H' s'.heap pt (.tbl _) from hok' pt _ em)
    refine ⟨rfl, ⟨λ b o e => ?_, λ b o e => ?_⟩, os, bare⟩
    ·
     by_cases hb : b = pt
     ·
      subst hb
      rw [hP] at e
      cases e
      exact .inr (.inl ⟨(hC.tab hP).isCodeTable, rfl, #[], more, rfl, ep⟩)
     · exact .inl (kp b o hb e)
    ·
     by_cases hb : b = pt
     · subst hb; exact ⟨_, ep⟩
     · exact ⟨o, kp b o hb e⟩
 cases hk : K.lookup a with
 |
  some o =>
  have e := KX a o hk
  rw [ha] at e
  cases e
  refine core (λ b => if b = pt then some (.tbl #[]) else none) (λ b => ?_) (if_pos rfl) (.inr ⟨_, vs.toArray, _, hk, rfl, rfl, rfl, by rw [Anl, lenV]; exact hl, by simpa using rv⟩) (λ b u z => ?_) (λ b z => ?_) λ z => ?_
  ·
   by_cases hb : b = pt
   · exact .inr (.inl hb)
   · exact .inl (if_neg hb)
  ·
   by_cases hb : b = pt
   ·
    have z' := (if_pos hb).symm.trans z
    cases z'
    subst hb
    exact hP
   ·
    have z' := (if_neg hb).symm.trans z
    cases z'
  ·
   by_cases hb : b = pt
   · exact .inr hb
   · exact absurd (if_neg hb) z
  · exact absurd (if_neg aP) z
 |
  none =>
  have pa : pt ≠ a := λ z => aP z.symm
  refine core (λ b => if b = a then some (.frz { cls := .type "list", data := .seq vs.toArray } (.lst (ns.map V.int))) else if b = pt then some (.tbl #[]) else none) (λ b => ?_) ((if_neg pa).trans (if_pos rfl)) (.inl (.inr ⟨{ cls := .type "list", data := .seq vs.toArray }, if_pos rfl⟩)) (λ b u z => ?_) (λ b z => ?_) λ _ => hk
  ·
   by_cases hb : b = a
   · exact .inr (.inr ⟨_, _, if_pos hb⟩)
   ·
    by_cases hb2 : b = pt
    · exact .inr (.inl hb2)
    · exact .inl ((if_neg hb).trans (if_neg hb2))
  ·
   by_cases hb : b = a
   ·
    have z' := (if_pos hb).symm.trans z
    cases z'
    subst hb
    exact ⟨ha, by rw [Am9]; exact hl, vs, _, rv, ha⟩
   ·
    by_cases hb2 : b = pt
    ·
     have z' := ((if_neg hb).trans (if_pos hb2)).symm.trans z
     cases z'
     subst hb2
     exact hP
    ·
     have z' := ((if_neg hb).trans (if_neg hb2)).symm.trans z
     cases z'
  ·
   by_cases hb : b = a
   · exact .inl hb
   ·
    by_cases hb2 : b = pt
    · exact .inr hb2
    · exact absurd ((if_neg hb).trans (if_neg hb2)) z
def Adc {cm : Bool} {l : W.OpenLaw} {n k : Nat} {q : Program} {loose : List Str} {XP : (Str -> Option Value) -> Heap -> Prop} {YP : World -> Heap -> Prop} {d : DefRec} {K : Params -> W.Frag} {CX : World -> CXT} {sp : World -> Addr -> Sp} {x y : Str}
  (hn : l.most = some n) (hn2 : n <= sizeLine) (hdf : d.params.defaults = []) (hr : Room cm k callerA)
  (hY : ∀ (w : World) (h : Heap), YP w h -> (K w.params).In h) (hrec : ((recsOf q).find? (λ e => e.name == y)).isSome = true)
  (F : ∀ (w : World) (mg : Str -> Option Value) (fa : Addr) (h : Heap), (K w.params).In h -> h.Ns mainGlobals mg -> mg d.name = some (.ref fa) ->
   ∃ (fd : FuncData) (cc pt : Addr), W.tabIn (K w.params) y = some (cc, pt) /\ (K w.params).lookup pt = none /\ (∀ (s : Shared) (u : Value), BindsTo s fd ⟨[u], []⟩ [(x, u)]) /\
    ∀ base : Heap, (K w.params).In base -> base.Ns mainGlobals mg -> MkL mg base cc pt -> FnOk l.prog w (K w.params) mg base (CX w) cm k fa fd [x] (sp w pt))
  (hsp : ∀ (w : World) (H : Hp) (a pt : Addr) (ns : List Int), ns.length <= n -> Afc pt H -> H pt = some (.tbl #[]) -> SqL (K w.params) H a (ns.map V.int) -> sp w pt [.ref a] H (λ v _ => v = .bl true) λ _ _ _ => False)
  (hCX : ∀ (w : World) (H : Hp) (s : Shared) (e : Value) (s' : Shared), CX w [] H s (λ _ _ _ => False) e s' -> False) :
  W.WalkO q loose XP YP l.row.toRowW d [] (λ f vs => PySem.call f vs) := by
 refine Att.cw hn hdf λ w s₀ s₁ mg mb fa o pm cd doc a vs ns G Y ho hd hcd hmg hobj hints hlen hg => ?_
 have KX := hY w _ Y
 obtain ⟨fd, cc, pt, ht, hkp, hb, hF⟩ := F w mg fa _ KX G.T.g hmg
 obtain ⟨dr, hdr⟩ := Aq2.mp hrec
 obtain ⟨hC, hP⟩ := W.tab_of G.T KX hdr ht
 have hbm : ∃ bm o, mg "__builtins__" = some (.ref bm) /\ bm ≠ builtinsNs /\ bm ≠ mainGlobals /\ s₁.heap.get? bm = some o /\ o.cls = .type "module" /\ o.dict = some builtinsNs /\ o.data = .plain := by
  obtain ⟨bm, ob, b1, b2, b3, b4, b5, b6⟩ := G.T.bmain
  refine ⟨bm, ob, b1, b2, λ z => ?_, b3, b4, b5, b6⟩
  obtain ⟨o, es, ep, e, hd, _⟩ := G.T.g
  rw [z, e] at b3; cases b3; rw [hd] at b6; cases b6
 exact Ab8 KX G.T.g G.T.b G.T.builtins G.T.nolimit hg hC hP hbm hkp hobj hints (Anb hlen hn2) hr hF hb (λ H hO hT hS => hsp w H a pt ns hlen hO hT hS) λ H e s' => hCX w H s₁ e s'
def Als (l : List Stmt) (i : Nat) : Stmt := l.getD i (.Pass ⟨0, 0, 0, 0⟩)
def Aiq : Stmt -> Expr
 | .Return (some e) _ => e
 | _ => .Constant .none 0 ⟨0, 0, 0, 0⟩
def Ah9 : Stmt -> List Stmt
 | .If _ a _ _ => a
 | _ => []
def Aj7 : Expr -> Nat -> Expr
 | .Call _ as _ _, i => as.getD i (.Constant .none 0 ⟨0, 0, 0, 0⟩)
 | e, _ => e
def uk : Expr -> Arguments
 | .Lambda a _ _ _ => a
 | _ => ⟨[], [], none, [], [], none, []⟩
def uq : Expr -> Expr
 | .Lambda _ b _ _ => b
 | e => e
def ba : Expr -> Scope
 | .Lambda _ _ s _ => s
 | _ => ⟨.function, [], false, false, []⟩
def Aeo : Expr -> Pos
 | .Lambda _ _ _ p => p
 | _ => ⟨0, 0, 0, 0⟩
def Acz {K : W.Frag} {x : Str} {f c P : Addr} {oc : Value} {od : Option Addr} {fd : FuncData} {sl : Array (Option Value)} {o1 : Value} {o2 : Option Addr} {vs : Array Value} {o3 : Array (Option Value)}
  (a : W.nsIn K mainGlobals x = some (some (.ref f))) (l : K.lookup f = some ⟨oc, od, .func fd, sl⟩) (hc : fd.code = .ref c) (lk : K.lookup c = some ⟨o1, o2, .fields vs, o3⟩) (hv : vs[11]? = some (.ref P)) : W.tabIn K x = some (c, P) := by
 unfold W.tabIn
 rw [a]
 simp only [l, hc, lk, hv]
def zh {K : W.Frag} {f c : Addr} {oc : Value} {od : Option Addr} {fd : FuncData} {sl : Array (Option Value)} (l : K.lookup f = some ⟨oc, od, .func fd, sl⟩) (hc : fd.code = .ref c) : Xv K f = some c := by
 unfold Xv
 simp only [l, hc]
def LamIs.up (h : LamIs H f ps b sc q fr zs cl cd) (hp : H pt = some (.tbl tb)) (s : ∀ b u, b ≠ pt -> H b = some u -> H' b = some u) :
  LamIs H' f ps b sc q fr zs cl cd := by
 have ne : ∀ {b : Addr} {φ : Heap -> Prop}, H b = some (.ext φ) -> b ≠ pt := λ e z => by rw [z, hp] at e; cases e
 refine ⟨s _ _ (ne (φ := _) h.at_) h.at_, s _ _ (ne (φ := _) h.code) h.code, h.nd, h.len, λ i x z h1 h2 => ?_, λ p hp => ?_⟩
 ·
  obtain ⟨c, e1, e2⟩ := h.has i x z h1 h2
  exact ⟨c, e1, s _ _ (ne (φ := _) e2) e2⟩
 ·
  obtain ⟨z, e⟩ := h.all p hp
  exact ⟨z, s _ _ (ne (φ := _) e) e⟩
def LamIs.same (h : LamIs H f ps b sc q fr zs cl cd) (s : ∀ b u, H b = some u -> H' b = some u) :
  LamIs H' f ps b sc q fr zs cl cd := by
 refine ⟨s _ _ h.at_, s _ _ h.code, h.nd, h.len, λ i x z h1 h2 => ?_, λ p hp => ?_⟩
 ·
  obtain ⟨c, e1, e2⟩ := h.has i x z h1 h2
  exact ⟨c, e1, s _ _ e2⟩
 ·
  obtain ⟨z, e⟩ := h.all p hp
  exact ⟨z, s _ _ e⟩
def LTab.same (h : LTab H P pos q) (s : ∀ b u, H b = some u -> H' b = some u) : LTab H' P pos q := by
 rcases h with h | ⟨cd, h1, h2⟩
 · exact .inl (s _ _ h)
 · exact .inr ⟨cd, s _ _ h1, s _ _ h2⟩
theorem LTab.tbl (h : LTab H P pos q) : ∃ tb, H P = some (.tbl tb) := by
 rcases h with h | ⟨cd, h1, h2⟩
 · exact ⟨_, h⟩
 · exact ⟨_, h1⟩
def Aad {H : Hp} {P : Addr} {pos : Pos} {q : Str} {ps : Arguments} {b : Expr} {sc : Scope} {cl : List (Str × Addr)} {Q : VK}
  (ht : LTab H P pos q) (k : ∀ f cd H', (∀ b u, b ≠ P -> H b = some u -> H' b = some u) -> LTab H' P pos q -> H' f = some (yv f ps b sc cl q cd) -> H' cd = some (Zo cd q) -> Q (.ref f) H') :
  (H P = some (.tbl #[]) -> ∀ f cd, H f = none -> H cd = none -> f ≠ cd -> Q (.ref f) (upd (upd (upd H P (.tbl #[rawInt pos.line, rawInt pos.col, .ref cd])) cd (Zo cd q)) f (yv f ps b sc cl q cd))) /\
  (∀ cd, H P = some (.tbl #[rawInt pos.line, rawInt pos.col, .ref cd]) -> ∀ f, H f = none -> Q (.ref f) (upd H f (yv f ps b sc cl q cd))) := by
 refine ⟨λ e f cd nf nc ne => ?_, λ cd e f nf => ?_⟩
 ·
  have c1 : (upd (upd (upd H P (.tbl #[rawInt pos.line, rawInt pos.col, .ref cd])) cd (Zo cd q)) f (yv f ps b sc cl q cd)) cd = some (Zo cd q) := by rw [An (Aq6 ne), Ae]
  refine k f cd _ (λ b u hb z => ?_) (.inr ⟨cd, ?_, c1⟩) Ae c1
  · rw [An (Aq z nf), An (Aq z nc), An hb]; exact z
  · rw [An (Aq e nf), An (Aq e nc), Ae]
 ·
  skip
  rcases ht with e2 | ⟨cd', e2, e3⟩
  · rw [e] at e2; cases e2
  ·
   have : cd' = cd := by
    rw [e] at e2
    have e4 := An7 e2
    injection e4 with e4
    have e5 := Apw (λ (z : Array Value) => z[2]?) e4
    have e6 : some (Value.ref cd) = some (Value.ref cd') := e5
    cases e6
    rfl
   subst this
   have c1 : (upd H f (yv f ps b sc cl q cd')) cd' = some (Zo cd' q) := by rw [An (Aq e3 nf)]; exact e3
   exact k f cd' _ (λ b u _ z => by rw [An (Aq z nf)]; exact z) (.inr ⟨cd', by rw [An (Aq e nf)]; exact e, c1⟩) Ae c1
def Ab9 : OpR X (binaryOp .Add) (λ x y H Q => ∃ a b xs ys, x = .ref a /\ y = .ref b /\ H a = some (.tup xs) /\ H b = some (.tup ys) /\ xs.length + ys.length <= sizeLine /\
  ∀ p H', Same H H' -> H' p = some (.tup (xs ++ ys)) -> Q (.ref p) H') := by
 intro pins s σ H x y v u Q I rx ry h
 obtain ⟨a, b, xs, ys, rfl, rfl, ha, hb, hz, q⟩ := h
 by_cases hx : xs = []
 ·
  cases rx
  cases ry
  obtain ⟨its, r1, p1, _⟩ := I.tuple (Asd (K := X.K) ha)
  obtain ⟨its2, r2, p2, _⟩ := I.tuple (Asd (K := X.K) hb)
  obtain ⟨⟨cls, dd, data, sl⟩, ho, hc, n, hd⟩ := id p1
  obtain ⟨⟨cls2, dd2, data2, sl2⟩, ho2, hc2, n2, hd2⟩ := id p2
  simp only at hc hd hc2 hd2
  subst hc hd hc2 hd2
  have hv : its = [] := r1.nil_iff.mpr hx
  have q0 := q b H (Ase _) (by rw [hx]; exact hb)
  exact concat_meets ⟨_, ho, rfl⟩ ⟨_, ho2, rfl⟩ noFill_tuple_add seq_tuple_add Arc Aq5 (Aq1 _ _)
   (tuple_addW0 a b its.toArray its2.toArray n n2 dd dd2 sl sl2 (by simp [hv])) ⟨ho, ho2, ⟨.ref b, H, I, rfl, q0⟩⟩
 ·
  refine Afk pins s σ H _ _ v u Q I rx ry ⟨a, b, xs, ys, rfl, rfl, Asd ha, Asd hb, hx, hz, λ e => ?_, λ _ p hp => q p _ (Ai hp) Ae⟩
  exact q a H (Ase _) (by rw [e, Aoc]; exact ha)
end L2
namespace L2
open PySem PySem.Spec PyProof.Rows PySem.SeqAt
variable {X : Cx}
end L2
namespace HT
open PySem PySem.Spec PyProof.Rows
variable {prog : Program} {w : World} {A : Around} {E : Value -> Shared -> Prop} {s : Shared}
def Vq {t sl : Addr} {items : Array Value} {vl vu : Value} {lo hi : Option Int} {Q : Value -> Shared -> Prop} (ht : IsTup s.heap t items) (hs : s.heap.IsSliceOf sl vl vu .none) (pl : IsPart vl lo) (pu : IsPart vu hi)
  (hw : sIx items.size 0 lo = 0 /\ sIx items.size items.size hi = items.size) (h : Q (.ref t) s) : wpAny (model prog w) A (getItem (.ref t) (.ref sl)) Q E s := by
 obtain ⟨os, hos, hcs, hds⟩ := id hs
 have hTs : s.TypeIs (.ref sl) "slice" := ⟨os, hos, hcs⟩
 unfold getItem
 try with_reducible refine Aou ?_
 first | refine Am4 (Am7 ?_) | skip
 refine Am4 (wpAny_sequenceKey ht.typeIs dkd ?_)
 refine Am4 (wpAny_callSpecial?_slot (name := Str.ofString "__getitem__") ht.typeIs Apf
  (Aoh Apf ht.typeIs entry_tuple_getitem ?_ (args_tuple_getitem _ _)))
 show wpAny _ _ (Builtin.Tuple.tupleItemsOf (.ref t) >>= _) _ _ s
 refine Am4 (tupleItemsOf_ ht ?_)
 refine Am4 (Aq8 hTs ?_)
 rw [if_pos dkd]
 refine Am4 (Sa hs pl pu ?_)
 have hyes : (((sIx items.size 0 lo : Nat) : Int) == 0 && (1 : Int) == 1 && (sIx items.size items.size hi - sIx items.size 0 lo) == items.size) = true := by
  rw [hw.1, hw.2, Nat.sub_zero]
  simp
 show wpAny _ _ (if (((sIx items.size 0 lo : Nat) : Int) == 0 && (1 : Int) == 1 && (sIx items.size items.size hi - sIx items.size 0 lo) == items.size) = true then _ else _) _ _ s
 rw [if_pos hyes]
 unfold Builtin.Tuple.tupleIsExact
 refine Am4 (Am4 (Aq8 ht.typeIs (Am7 ?_)))
 rw [if_pos dkd]
 first
  | exact Am4 (Am7 (Am7 ⟨_, rfl, Am7 h⟩))
  | exact Am4 (Aqk (Am7 ⟨_, rfl, Am7 h⟩))
  | exact Am7 ⟨_, rfl, Am7 h⟩
end HT
namespace L2
open PySem PySem.Spec PyProof.Rows PySem.SeqAt
def Aeb {xs : List V} {lo hi : Option Int} (hw : HT.sIx xs.length 0 lo = 0 /\ HT.sIx xs.length xs.length hi = xs.length) : xx xs lo hi = xs := by
 unfold xx
 rw [hw.1, hw.2, List.drop_zero, Nat.sub_zero, Apo]
variable {X : Cx}
def Aac : SlR X (λ x lo hi H Q => ∃ (a : Addr) (xs : List V), x = .ref a /\ H a = some (.tup xs) /\ ∀ p H', Same H H' -> H' p = some (.tup (xx xs lo hi)) -> Q (.ref p) H') := by
 intro pins s σ H x v vl vu lo hi sl Q I rx hs pl pu h
 obtain ⟨a, xs, rfl, ha, q⟩ := h
 by_cases hw : HT.sIx xs.length 0 lo = 0 /\ HT.sIx xs.length xs.length hi = xs.length
 ·
  cases rx
  obtain ⟨its, r, ht, hz⟩ := I.tuple (Asd (K := X.K) ha)
  have hlen : its.toArray.size = xs.length := by rw [Anl]; exact r.length.symm
  refine ⟨"tuple", _, PyProof.Rows.slot_tuple_getitem.lookup, ht.typeIs, ?_⟩
  refine HT.Vq ht hs pl pu (by rw [hlen]; exact hw) ⟨.ref a, H, I, rfl, q a H (Ase _) ?_⟩
  rw [Aeb hw]
  exact ha
 · exact Aev pins s σ H _ v vl vu lo hi sl Q I rx hs pl pu ⟨a, xs, rfl, Asd ha, hw, λ p hp => q p _ (Ai hp) Ae⟩
def Ab4 (hJ : Seq J H1 xs) (G : V -> Prop) (hsz : xs.length <= 100000)
  (hp : ∀ x ∈ xs, ∀ H', Same H1 H' -> ∀ R : Bool -> Hp -> Prop, (∀ b H'', Same H' H'' -> R b H'') -> tt ((Us cap σ).set 0 (some x)) H' R)
  (he : ∀ x ∈ xs, ∀ H', Same H1 H' -> ∀ R : VK, (∀ v H'', Same H' H'' -> G v -> R v H'') -> te ((Us cap σ).set 0 (some x)) H' R)
  (k : ∀ D H' ys, Same H1 H' -> H1 D = none -> H' D = some (.lst ys) -> (∀ v ∈ ys, G v) -> ys.length <= xs.length -> Q (.ref D) H') :
  Rb J H1 cap (df 0) tt te σ Q := by
 intro D hD
 refine ⟨λ i m ys σ' H' => m = xs.length - i /\ i <= xs.length /\ (∀ v, σ'.set 0 v = (Us cap σ).set 0 v) /\ H' D = some (.lst ys) /\ Same H1 H' /\ (∀ v ∈ ys, G v) /\ ys.length <= i,
  ⟨xs.length, dks, Aon _, λ _ => rfl, Ae, Ai hD, (λ _ z => nomatch z), Anh _⟩, ?_⟩
 rintro i m ys σ' H' ⟨rfl, hi, hσ, hl, sm, hG, hle⟩
 refine ⟨hl, ?_⟩
 obtain ⟨q1, q2⟩ := hJ H' sm
 by_cases hlt : i < xs.length
 ·
  have e : xs[i]? = some xs[i] := by simp [hlt]
  obtain ⟨go, y⟩ := q1 i _ e
  refine .inr ⟨go, λ x H2 hy => ?_⟩
  obtain ⟨rfl, rfl⟩ := y x H2 hy
  have hm : xs[i] ∈ xs := Aoz hlt
  have hss : ∀ v, ((Us cap σ).set 0 (some xs[i])).set 0 v = (Us cap σ).set 0 v := λ v => by rw [Aqu]
  show tt (σ'.set 0 (some xs[i])) _ _
  rw [hσ]
  refine hp _ hm _ sm _ λ b H3 s3 => ?_
  cases b with
  |
   true =>
   refine Ag3 ?_
   refine he _ hm _ (sm.trans s3) _ λ v H4 s4 hv => ?_
   have hl4 := s4 _ _ (s3 _ _ hl)
   refine ⟨hl4, Aox (by omega : ys.length <= 100000) dkd, xs.length - (i + 1), dkm, rfl, hlt, hss, Ae, λ c o ec => ?_, λ z hz => ?_, by rw [Anj]; show _ + 1 <= _; omega⟩
   ·
    rw [An (Aq ec hD)]
    exact s4 _ _ (s3 _ _ (sm _ _ ec))
   ·
    rcases Aog.mp hz with hz | hz
    · exact hG z hz
    ·
     rw [An3] at hz
     subst hz
     exact hv
  |
   false =>
   refine Aji ?_
   exact ⟨xs.length - (i + 1), dkm, rfl, hlt, hss, s3 _ _ hl, sm.trans s3, hG, dkm⟩
 ·
  have e : i = xs.length := by omega
  subst e
  refine .inl ⟨q2, k D _ ys sm hD hl hG hle⟩
end L2
namespace DC
def zj (ns : List Int) : Prop := ns.Pairwise (· < ·)
def below (ns : List Int) (x : Int) : Nat := ns.countP (λ a => decide (a < x))
def bz (ns : List Int) (x : Int) : below ns x <= ns.length := List.countP_le_length
def below_at (hk : k <= ns.length) (h1 : ∀ (i : Nat) a, i < k -> ns[i]? = some a -> a < x) (h2 : ∀ (i : Nat) a, k <= i -> ns[i]? = some a -> ¬ a < x) : below ns x = k := by
 unfold below
 rw [← Ari k ns, List.countP_append]
 have e1 : (ns.take k).countP (λ a => decide (a < x)) = (ns.take k).length := by
  rw [List.countP_eq_length]
  intro a ha
  obtain ⟨i, hi⟩ := Aob ha
  have hik : i < k := by
   obtain ⟨z, _⟩ := Ang.mp hi
   rw [Aoy] at z
   omega
  rw [List.getElem?_take_of_lt hik] at hi
  exact Am6 (h1 i a hik hi)
 have e2 : (ns.drop k).countP (λ a => decide (a < x)) = 0 := by
  rw [Aru]
  intro a ha
  obtain ⟨i, hi⟩ := Aob ha
  rw [Aqw] at hi
  have := h2 (k + i) a (Arb _ _) hi
  simpa using this
 rw [e1, e2, Aoy]
 omega
def Ae2 {ns : List Int} (h : zj ns) {i j : Nat} {a b : Int} (hi : ns[i]? = some a) (hj : ns[j]? = some b) (hij : i < j) : a < b := by
 obtain ⟨h1, rfl⟩ := Ang.mp hi
 obtain ⟨h2, rfl⟩ := Ang.mp hj
 exact Apz.mp h i j h1 h2 hij
def ue {ns : List Int} (h : zj ns) {i j : Nat} {a b : Int} (hi : ns[i]? = some a) (hj : ns[j]? = some b) (hij : i <= j) : a <= b := by
 rcases Nat.lt_or_eq_of_le hij with h' | rfl
 · exact Ar9 (Ae2 h hi hj h')
 · rw [hi] at hj; cases hj; exact Arv _
def Ew (
      h : zj ns) (hi : ns[i]? = some a) : i < below ns x ↔ a < x := by
 have hl : i < ns.length := by obtain ⟨z, _⟩ := Ang.mp hi; exact z
 have key : ∀ (ms : List Int), zj ms -> ∀ (j : Nat) (b : Int), ms[j]? = some b -> (j < below ms x ↔ b < x) := by
  intro ms
  induction ms with
  | nil => intro _ j b hj; simp at hj
  |
   cons c r ih =>
   intro hr j b hj
   have hr' := (Aps.mp hr)
   unfold below
   rw [List.countP_cons]
   cases j with
   |
    zero =>
    simp at hj
    subst hj
    have z : ¬ c < x -> r.countP (λ a => decide (a < x)) = 0 := λ hc => by
     rw [Aru]
     intro a ha
     have := hr'.1 a ha
     simp
     omega
    by_cases hc : c < x
    · simp [hc]
    ·
     rw [z hc]
     simp [hc]
   |
    succ j =>
    simp at hj
    have := ih hr'.2 j b hj
    unfold below at this
    by_cases hc : c < x
    ·
     simp [hc]
     omega
    ·
     have hb : ¬ b < x := by
      have := hr'.1 b (Aoa hj)
      omega
     have : r.countP (λ a => decide (a < x)) = 0 := by
      rw [Aru]
      intro a ha
      have := hr'.1 a ha
      simp
      omega
     simp [hc, hb]
     omega
 exact key ns h i a hi
def off (own : Int) (cs : List (Int × Int)) (k : Nat) : Int := if k = 0 then own else (cs.getD (k - 1) (0, 0)).2
end DC
namespace DM
def leap (y : Int) : Bool := decide (y % 400 = 0) || (decide (y % 4 = 0) && !decide (y % 100 = 0))
def year (y : Int) : Int := (y - 2000) * 365 + (y - 2000 + 3) / 4 - (y - 2000 + 99) / 100 + (y - 2000 + 399) / 400
def len (y m : Int) : Int := if m = 2 then (if leap y then 29 else 28) else if m = 1 ∨ m = 3 ∨ m = 5 ∨ m = 7 ∨ m = 8 ∨ m = 10 ∨ m = 12 then 31 else 30
def ahead (m : Int) : Int := if m <= 1 then 0 else if m = 2 then 31 else if m = 3 then 59 else if m = 4 then 90 else if m = 5 then 120 else if m = 6 then 151 else if m = 7 then 181 else if m = 8 then 212 else if m = 9 then 243 else if m = 10 then 273 else if m = 11 then 304 else 334
def mb (n : Int) : Int := year (2000 + n / 12) + ahead (n % 12 + 1) + (if n % 12 + 1 > 2 /\ leap (2000 + n / 12) = true then 1 else 0)
def bt (y : Int) : leap y = true ↔ (y % 400 = 0 ∨ (y % 4 = 0 /\ ¬ y % 100 = 0)) := by
 simp [leap]
def Acg (y : Int) : year (y + 1) = year y + 365 + (if leap y = true then 1 else 0) := by
 unfold year
 by_cases h : leap y = true
 ·
  rw [if_pos h]
  rw [bt] at h
  omega
 ·
  rw [if_neg h]
  rw [bt] at h
  omega
def Aig : ∀ k : Nat, k < 11 -> ∀ b : Bool, ahead ((k : Int) + 1 + 1) + (if (k : Int) + 1 + 1 > 2 /\ b = true then 1 else 0) = ahead ((k : Int) + 1) + (if (k : Int) + 1 > 2 /\ b = true then 1 else 0) +
 (if (k : Int) + 1 = 2 then (if b then 29 else 28) else if (k : Int) + 1 = 1 ∨ (k : Int) + 1 = 3 ∨ (k : Int) + 1 = 5 ∨ (k : Int) + 1 = 7 ∨ (k : Int) + 1 = 8 ∨ (k : Int) + 1 = 10 ∨ (k : Int) + 1 = 12 then 31 else 30) := by decide +kernel
def Aje : ∀ b : Bool, ahead (0 + 1) + (if (0 : Int) + 1 > 2 /\ b = true then 1 else 0) + 365 + (if b = true then 1 else 0) = ahead (11 + 1) + (if (11 : Int) + 1 > 2 /\ b = true then 1 else 0) + 31 := by decide +kernel
def Vt (n : Int) : mb (n + 1) = mb n + len (2000 + n / 12) (n % 12 + 1) := by
 obtain ⟨k, hk⟩ := Ap8 (show 0 <= n % 12 by omega)
 unfold mb len
 by_cases h : n % 12 = 11
 ·
  rw [show (n + 1) / 12 = n / 12 + 1 by omega, show (n + 1) % 12 = 0 by omega, h, show (2000 : Int) + (n / 12 + 1) = 2000 + n / 12 + 1 by omega, Acg]
  have := Aje (leap (2000 + n / 12))
  rw [if_neg (show ¬ ((0 : Int) + 1 > 2 /\ leap (2000 + n / 12) = true) from λ z => absurd z.1 dkd)] at this
  rw [if_neg (show ¬ ((0 : Int) + 1 > 2 /\ leap (2000 + n / 12 + 1) = true) from λ z => absurd z.1 dkd), if_neg (show ¬ (11 : Int) + 1 = 2 by decide), if_pos (show (11 : Int) + 1 = 1 ∨ (11 : Int) + 1 = 3 ∨ (11 : Int) + 1 = 5 ∨ (11 : Int) + 1 = 7 ∨ (11 : Int) + 1 = 8 ∨ (11 : Int) + 1 = 10 ∨ (11 : Int) + 1 = 12 by decide)]
  omega
 ·
  have := Aig k dkm (leap (2000 + n / 12))
  rw [show (n + 1) / 12 = n / 12 by omega, show (n + 1) % 12 = (k : Int) + 1 by omega, hk]
  rw [Int.add_assoc, this, ← Int.add_assoc, ← Int.add_assoc]
def len_pos (y m : Int) : 28 <= len y m /\ len y m <= 31 := by
 unfold len
 split
 · split <;> omega
 · split <;> omega
def Vw (y : Int) : mb (12 * (y - 2000)) = year y := by
 unfold mb
 have e1 : 12 * (y - 2000) / 12 = y - 2000 := by omega
 have e2 : 12 * (y - 2000) % 12 = 0 := by omega
 rw [e1, e2, show (2000 : Int) + (y - 2000) = y by omega]
 simp [ahead]
def Ag7 (n : Int) : mb n + 28 <= mb (n + 1) := by
 have := Vt n
 have := len_pos (2000 + n / 12) (n % 12 + 1)
 omega
theorem cy (n : Int) : ∀ k : Nat, mb n + 28 * k <= mb (n + k)
 | 0 => by simp
 |
  k + 1 => by
  have ih := cy n k
  have := Ag7 (n + k)
  rw [show n + ((k + 1 : Nat) : Int) = n + k + 1 by omega]
  omega
def Ov (h : a <= b) : mb a + 28 * (b - a) <= mb b := by
 have := cy a (b - a).toNat
 rw [show a + ((b - a).toNat : Int) = b by omega] at this
 omega
def Ak8 : mb 0 = 0 := by decide
def Abp : mb 4800 = 146097 := by decide
def Ah6 (h1 : mb a <= d) (h2 : d < mb (a + 1)) (h3 : mb b <= d) (h4 : d < mb (b + 1)) : a = b := by
 rcases Int.lt_trichotomy a b with h | h | h
 · have := Ov (a := a + 1) (b := b) dkm; omega
 · exact h
 · have := Ov (a := b + 1) (b := a) dkm; omega
def near (n : Nat) : Bool := decide (mb n * 4800 <= (n + 1) * 146097) && decide (((n : Int) - 1) * 146097 <= mb n * 4800)
def mm : Nat -> Bool
 | 0 => true
 | n + 1 => near n && mm n
theorem k8 : ∀ {k n : Nat}, mm k = true -> n < k -> near n = true
 |
  k + 1, n, h, hn => by
  unfold mm at h
  rw [Ani] at h
  by_cases e : n = k
  · rw [e]; exact h.1
  · exact k8 h.2 dkm
set_option maxRecDepth 100000 in
def Afq : mm 4801 = true := by decide +kernel
def Aa6 (h0 : 0 <= n) (h1 : n <= 4800) : mb n * 4800 <= (n + 1) * 146097 /\ (n - 1) * 146097 <= mb n * 4800 := by
 have h := k8 (n := n.toNat) Afq dkm
 unfold near at h
 rw [Ani, Ape, Ape, show ((n.toNat : Nat) : Int) = n by omega] at h
 exact h
def mo (d : Int) : Int := if mb (d * 4800 / 146097) > d then d * 4800 / 146097 - 1 else if mb (d * 4800 / 146097 + 1) <= d then d * 4800 / 146097 + 1 else d * 4800 / 146097
def d7 (h0 : 0 <= d) (h1 : d < 146097) : mb (mo d) <= d /\ d < mb (mo d + 1) /\ 0 <= mo d /\ mo d < 4800 := by
 unfold mo
 have g0 : 0 <= d * 4800 / 146097 := by omega
 have g1 : d * 4800 / 146097 < 4800 := by omega
 have hd : (d * 4800 / 146097) * 146097 <= d * 4800 /\ d * 4800 < (d * 4800 / 146097 + 1) * 146097 := by omega
 generalize d * 4800 / 146097 = g at *
 have e0 := Ak8
 have e1 := Abp
 split
 ·
  rename_i h
  have hg : 1 <= g := by
   rcases Ar8 g 1 with z | z
   ·
    have : g = 0 := by omega
    subst this
    omega
   · exact z
  have n1 := (Aa6 (n := g - 1) dkm dkm).1
  rw [show g - 1 + 1 = g by omega] at *
  exact ⟨dkm, dkm, dkm, dkm⟩
 ·
  split
  ·
   rename_i h2
   have hg : g + 1 < 4800 := by
    rcases Ar8 (g + 1) 4800 with z | z
    · exact z
    ·
     have : g = 4799 := by omega
     subst this
     have h2' : mb 4800 <= d := h2
     omega
   have n2 := (Aa6 (n := g + 2) dkm dkm).2
   rw [show g + 1 + 1 = g + 2 by omega]
   exact ⟨dkm, dkm, dkm, dkm⟩
  · exact ⟨dkm, dkm, g0, g1⟩
def Ad7 (h0 : 0 <= d) (h1 : d < 146097) (h2 : mb n <= d) (h3 : d < mb (n + 1)) : mo d = n :=
 Ah6 (d7 h0 h1).1 (d7 h0 h1).2.1 h2 h3
def Agt (n : Nat) : Bool := decide (year (2000 + n) * 400 <= (n + 1) * 146097) && decide (((n : Int) - 1) * 146097 <= year (2000 + n) * 400)
def ay : Nat -> Bool
 | 0 => true
 | n + 1 => Agt n && ay n
theorem b9 : ∀ {k n : Nat}, ay k = true -> n < k -> Agt n = true
 |
  k + 1, n, h, hn => by
  unfold ay at h
  rw [Ani] at h
  by_cases e : n = k
  · rw [e]; exact h.1
  · exact b9 h.2 dkm
set_option maxRecDepth 100000 in
def Ad9 : ay 401 = true := by decide +kernel
def wm (h0 : 0 <= n) (h1 : n <= 400) : year (2000 + n) * 400 <= (n + 1) * 146097 /\ (n - 1) * 146097 <= year (2000 + n) * 400 := by
 have h := b9 (n := n.toNat) Ad9 dkm
 unfold Agt at h
 rw [Ani, Ape, Ape, show ((n.toNat : Nat) : Int) = n by omega] at h
 exact h
def yr (d : Int) : Int := if year (2000 + d * 400 / 146097) > d then 2000 + d * 400 / 146097 - 1 else if year (2000 + d * 400 / 146097 + 1) <= d then 2000 + d * 400 / 146097 + 1 else 2000 + d * 400 / 146097
def Aan : year 2000 = 0 := by decide
def Abd : year 2400 = 146097 := by decide
def Ak0 (h0 : 0 <= d) (h1 : d < 146097) : year (yr d) <= d /\ d < year (yr d + 1) /\ 2000 <= yr d /\ yr d < 2400 := by
 unfold yr
 have g0 : 0 <= d * 400 / 146097 := by omega
 have g1 : d * 400 / 146097 < 400 := by omega
 have hd : (d * 400 / 146097) * 146097 <= d * 400 /\ d * 400 < (d * 400 / 146097 + 1) * 146097 := by omega
 generalize d * 400 / 146097 = g at *
 have e0 := Aan
 have e1 := Abd
 split
 ·
  rename_i h
  have hg : 1 <= g := by
   rcases Ar8 g 1 with z | z
   ·
    have : g = 0 := by omega
    subst this
    have h' : year 2000 > d := h
    omega
   · exact z
  have n1 := (wm (n := g - 1) dkm dkm).1
  rw [show 2000 + g - 1 = 2000 + (g - 1) by omega]
  rw [show 2000 + (g - 1) + 1 = 2000 + g by omega]
  exact ⟨dkm, dkm, dkm, dkm⟩
 ·
  split
  ·
   rename_i h2
   have hg : g + 1 < 400 := by
    rcases Ar8 (g + 1) 400 with z | z
    · exact z
    ·
     have : g = 399 := by omega
     subst this
     have h2' : year 2400 <= d := h2
     omega
   have n2 := (wm (n := g + 2) dkm dkm).2
   rw [show 2000 + g + 1 + 1 = 2000 + (g + 2) by omega]
   exact ⟨dkm, dkm, dkm, dkm⟩
  · exact ⟨dkm, dkm, dkm, dkm⟩
def sums (y : Int) : Nat -> Int
 | 0 => 0
 | k + 1 => sums y k + len y (k + 1)
def zo (y : Int) (k : Nat) : sums y (k + 1) = sums y k + len y (k + 1) := rfl
theorem Abk (y : Int) : ∀ k : Nat, k <= 12 -> mb (12 * (y - 2000) + k) = year y + sums y k
 | 0, _ => by rw [show 12 * (y - 2000) + ((0 : Nat) : Int) = 12 * (y - 2000) by omega, Vw]; simp [sums]
 |
  k + 1, h => by
  have ih := Abk y k dkm
  rw [show 12 * (y - 2000) + ((k + 1 : Nat) : Int) = 12 * (y - 2000) + k + 1 by omega, Vt, ih, show (12 * (y - 2000) + (k : Int)) / 12 = y - 2000 by omega,
   show (12 * (y - 2000) + (k : Int)) % 12 = k by omega, show (2000 : Int) + (y - 2000) = y by omega]
  simp only [sums]
  omega
def Akx (h0 : 0 <= n) (h1 : n < 4800) : 0 <= mb n /\ mb (n + 1) <= 146097 := by
 have a := Ov (a := 0) (b := n) h0
 have b := Ov (a := n + 1) (b := 4800) dkm
 rw [Ak8] at a
 rw [Abp] at b
 omega
end DM
namespace DF
inductive Rl where
 | nv
 | ev (st fi : Int)
 | wk (mk fi e : Int)
 | mo (dt fi e : Int)
 | nt (wh wd fi e : Int)
 | yr (mn dt fi e : Int)
 | dy (ds : List Int)
 | wh (m r : Int)
def inw (b e f : Int) : Option Int := if b <= f /\ f < e then some f else none
def Ce (n dt : Int) : Option Int := inw (DM.mb n) (DM.mb (n + 1)) (if dt > 0 then DM.mb n + dt - 1 else DM.mb (n + 1) + dt)
def K7 (n w wd : Int) : Option Int := inw (DM.mb n) (DM.mb (n + 1)) (if w > 0 then DM.mb n + (wd - (DM.mb n + 5) % 7) % 7 + (w - 1) * 7 else DM.mb (n + 1) - 1 - ((DM.mb (n + 1) - 1 + 5) % 7 - wd) % 7 + (w + 1) * 7)
def isD (d : Int) : Bool := decide (0 <= d /\ d < 146097)
def byM (o s fi : Int) (g : Int -> Option Int) (d : Int) : Bool := if isD d = true /\ fi <= d then decide ((DM.mo d - o) % s = 0) && decide (g (DM.mo d) = some d) else false
def fl : Rl -> Int -> Bool
 | .nv, _ => false
 | .ev st fi, d => isD d && (decide (fi <= d) && decide ((d - fi) % st = 0))
 | .wk mk fi e, d => if isD d = true /\ fi <= d then decide (((d + 5) / 7 - (fi + 5) / 7) % e = 0) && decide (mk / 2 ^ ((d + 5) % 7).toNat % 2 = 1) else false
 | .mo dt fi e, d => byM (DM.mo fi) e fi (λ n => Ce n dt) d
 | .nt w wd fi e, d => byM (DM.mo fi) e fi (λ n => K7 n w wd) d
 | .yr mn dt fi e, d => byM (DM.mo fi / 12 * 12 + mn - 1) (e * 12) fi (λ n => Ce n dt) d
 | .dy ds, d => decide (d ∈ ds)
 | .wh m r, d => isD d && decide (d * d % m = r)
def Fi (fi e : Int) : Prop := 0 <= fi /\ fi < 146097 /\ 1 <= e /\ e <= 1000
def Ok : Rl -> Prop
 | .nv => True
 | .ev st fi => 1 <= st /\ st <= 146096 /\ 0 <= fi /\ fi < 146097
 | .wk mk fi e => 1 <= mk /\ mk <= 127 /\ Fi fi e
 | .mo dt fi e => -31 <= dt /\ dt <= 31 /\ dt ≠ 0 /\ Fi fi e
 | .nt w wd fi e => -5 <= w /\ w <= 5 /\ w ≠ 0 /\ 0 <= wd /\ wd <= 6 /\ Fi fi e
 | .yr mn dt fi e => 1 <= mn /\ mn <= 12 /\ 1 <= dt /\ dt <= DM.len 2000 mn /\ Fi fi e
 | .dy ds => ds.length <= 50 /\ ∀ k ∈ ds, 0 <= k /\ k < 146097
 | .wh m r => 1 <= m
def Na : isD d = true ↔ 0 <= d /\ d < 146097 := Apr
theorem Zh (h : Ok r) (hd : d < 0 ∨ 146097 <= d) : fl r d = false := by
 have n : isD d = false := by unfold isD; exact Ane dkm
 have by0 : ∀ o s fi g, byM o s fi g d = false := λ o s fi g => by unfold byM; rw [n, if_neg (λ w => nomatch w.1)]
 cases r with
 | nv => rfl
 | ev st fi => show (isD d && _) = false; rw [n]; rfl
 | wk mk fi e => show (if isD d = true /\ fi <= d then _ else false) = false; rw [n, if_neg (λ w => nomatch w.1)]
 | mo dt fi e => exact by0 (DM.mo fi) e fi (λ n => Ce n dt)
 | nt w wd fi e => exact by0 (DM.mo fi) e fi (λ n => K7 n w wd)
 | yr mn dt fi e => exact by0 (DM.mo fi / 12 * 12 + mn - 1) (e * 12) fi (λ n => Ce n dt)
 | dy ds => exact Ane λ hk => by have := h.2 d hk; omega
 | wh m r => show (isD d && _) = false; rw [n]; rfl
def Abb (h1 : b <= d) (h2 : d < e) : inw b e f = some d ↔ f = d := by
 unfold inw
 by_cases h : b <= f /\ f < e
 · rw [if_pos h, Ar1]
 ·
  rw [if_neg h]
  constructor
  · intro w; cases w
  · intro w; subst w; exact absurd ⟨h1, h2⟩ h
def wy (h1 : DM.mb n <= d) (h2 : d < DM.mb (n + 1)) (hn : dt ≠ 0) : Ce n dt = some d ↔ d - DM.mb n + 1 = (if dt < 0 then DM.len (2000 + n / 12) (n % 12 + 1) + 1 + dt else dt) := by
 unfold Ce
 rw [Abb h1 h2]
 have := DM.Vt n
 by_cases h : dt > 0
 · rw [if_pos h, if_neg dkm]; omega
 · rw [if_neg h, if_pos dkm]; omega
def Aga (h1 : DM.mb n <= d) (h2 : d < DM.mb (n + 1)) (hn : w ≠ 0) (w0 : 0 <= wd) (w1 : wd <= 6) :
  K7 n w wd = some d ↔ (d + 5) % 7 = wd /\ (if w < 0 then 0 - (DM.len (2000 + n / 12) (n % 12 + 1) - (d - DM.mb n + 1) + 7) / 7 else (d - DM.mb n + 1 + 6) / 7) = w := by
 unfold K7
 rw [Abb h1 h2]
 have := DM.Vt n
 by_cases h : w > 0
 · rw [if_pos h, if_neg dkm]; omega
 · rw [if_neg h, if_pos dkm]; omega
def Adz {n o mn e : Int} (he : 1 <= e) (m1 : 1 <= mn) (m2 : mn <= 12) : (n - (o / 12 * 12 + mn - 1)) % (e * 12) = 0 ↔ (2000 + n / 12 - (2000 + o / 12)) % e = 0 /\ n % 12 + 1 = mn := by
 have e1 : n - (o / 12 * 12 + mn - 1) = (n / 12 - o / 12) * 12 + (n % 12 + 1 - mn) := by omega
 rw [e1, show 2000 + n / 12 - (2000 + o / 12) = n / 12 - o / 12 by omega]
 generalize n / 12 - o / 12 = a
 constructor
 ·
  intro h
  have d1 : e * 12 ∣ a * 12 + (n % 12 + 1 - mn) := Apl h
  have d2 : (12 : Int) ∣ a * 12 + (n % 12 + 1 - mn) := Int.dvd_trans ⟨e, Ar7 ..⟩ d1
  have hb : n % 12 + 1 = mn := by omega
  refine ⟨?_, hb⟩
  rw [show a * 12 + (n % 12 + 1 - mn) = a * 12 by omega] at d1
  exact Aq7 (Int.dvd_of_mul_dvd_mul_right dkd d1)
 ·
  rintro ⟨h1, h2⟩
  rw [show a * 12 + (n % 12 + 1 - mn) = a * 12 by omega]
  obtain ⟨q, hq⟩ := Apl h1
  exact Aq7 ⟨q, by rw [hq]; rw [Int.mul_assoc, Int.mul_assoc, Ar7 q 12]⟩
def Ais (n o : Int) : (2000 + n / 12 - (2000 + o / 12)) * 12 + (n % 12 + 1) - (o % 12 + 1) = n - o := by omega
def lj (h0 : 0 <= d) (h1 : d < 146097) (hf : fi <= d) : byM o s fi g d = (decide ((DM.mo d - o) % s = 0) && decide (g (DM.mo d) = some d)) := if_pos ⟨Na.mpr ⟨h0, h1⟩, hf⟩
def sq (hf : d < fi) : byM o s fi g d = false := if_neg λ w => by have := w.2; omega
def Agf : ∀ k : Fin 7, ([1, 2, 4, 8, 16, 32, 64] : List Int)[k.val]? = some (2 ^ k.val) := by decide
theorem Acf (h : match r with | .wk _ fi _ => d < fi | .mo _ fi _ => d < fi | .nt _ _ fi _ => d < fi | .yr _ _ fi _ => d < fi | _ => False) : fl r d = false := by
 cases r with
 | wk mk fi e => exact if_neg λ w => by have := w.2; have : d < fi := h; omega
 | mo dt fi e => exact sq (g := λ n => Ce n dt) h
 | nt w wd fi e => exact sq (g := λ n => K7 n w wd) h
 | yr mn dt fi e => exact sq (g := λ n => Ce n dt) h
 | nv => exact h.elim
 | ev _ _ => exact h.elim
 | dy _ => exact h.elim
 | wh _ _ => exact h.elim
def Ait (h0 : 0 <= d) (h1 : d < 146097) (hf : fi <= d) : fl (.wk mk fi e) d = (decide (((d + 5) / 7 - (fi + 5) / 7) % e = 0) && decide (mk / 2 ^ ((d + 5) % 7).toNat % 2 = 1)) := if_pos ⟨Na.mpr ⟨h0, h1⟩, hf⟩
def Akl {mn dt fi e d : Int} (h0 : 0 <= d) (h1 : d < 146097) (hf : fi <= d) (ok : Ok (.yr mn dt fi e)) :
  fl (.yr mn dt fi e) d = (decide ((2000 + DM.mo d / 12 - (2000 + DM.mo fi / 12)) % e = 0) && (decide (DM.mo d % 12 + 1 = mn) && decide (d - DM.mb (DM.mo d) + 1 = dt))) := by
 obtain ⟨m1, m2, d1, d2, f0, f1, e0, e1⟩ := ok
 obtain ⟨o1, o2, _, _⟩ := DM.d7 h0 h1
 have a := lj (o := DM.mo fi / 12 * 12 + mn - 1) (s := e * 12) (g := λ n => Ce n dt) h0 h1 hf
 refine Eq.trans a ?_
 rw [← Arn, ← Arn, ← Arn]
 refine Aop.mpr ?_
 rw [Adz e0 m1 m2, wy o1 o2 dkm, if_neg (by omega : ¬ dt < 0), and_assoc]
def Ah5 (h0 : 0 <= d) (h1 : d < 146097) (hf : fi <= d) (hp : (DM.mo d - DM.mo fi) % e > 0) : fl (.mo dt fi e) d = false := by
 refine Eq.trans (lj (o := DM.mo fi) (s := e) (g := λ n => Ce n dt) h0 h1 hf) ?_
 rw [Ane dkm, Apq]
def Ahx (h0 : 0 <= d) (h1 : d < 146097) (hf : fi <= d) (hp : (DM.mo d - DM.mo fi) % e > 0) : fl (.nt w wd fi e) d = false := by
 refine Eq.trans (lj (o := DM.mo fi) (s := e) (g := λ n => K7 n w wd) h0 h1 hf) ?_
 rw [Ane dkm, Apq]
def Akm (h0 : 0 <= d) (h1 : d < 146097) (hf : fi <= d) (ok : Ok (.mo dt fi e)) (hp : ¬ (DM.mo d - DM.mo fi) % e > 0) :
  fl (.mo dt fi e) d = decide (d - DM.mb (DM.mo d) + 1 = (if dt < 0 then DM.len (2000 + DM.mo d / 12) (DM.mo d % 12 + 1) + 1 + dt else dt)) := by
 obtain ⟨d1, d2, d3, f0, f1, e0, e1⟩ := ok
 obtain ⟨o1, o2, _, _⟩ := DM.d7 h0 h1
 have := Anz (DM.mo d - DM.mo fi) (by omega : e ≠ 0)
 refine Eq.trans (lj (o := DM.mo fi) (s := e) (g := λ n => Ce n dt) h0 h1 hf) ?_
 rw [Am6 dkm, An1]
 exact Aop.mpr (wy o1 o2 d3)
def Akt (h0 : 0 <= d) (h1 : d < 146097) (hf : fi <= d) (ok : Ok (.nt w wd fi e)) (hp : ¬ (DM.mo d - DM.mo fi) % e > 0) :
  fl (.nt w wd fi e) d = (decide ((d + 5) % 7 = wd) && decide ((if w < 0 then 0 - (DM.len (2000 + DM.mo d / 12) (DM.mo d % 12 + 1) - (d - DM.mb (DM.mo d) + 1) + 7) / 7 else (d - DM.mb (DM.mo d) + 1 + 6) / 7) = w)) := by
 obtain ⟨d1, d2, d3, w0, w1, f0, f1, e0, e1⟩ := ok
 obtain ⟨o1, o2, _, _⟩ := DM.d7 h0 h1
 have := Anz (DM.mo d - DM.mo fi) (by omega : e ≠ 0)
 refine Eq.trans (lj (o := DM.mo fi) (s := e) (g := λ n => K7 n w wd) h0 h1 hf) ?_
 rw [Am6 dkm, An1, ← Arn]
 exact Aop.mpr (Aga o1 o2 d3 w0 w1)
def Ahn (h0 : 0 <= d) (h1 : d < 146097) : isD d = true := Na.mpr ⟨h0, h1⟩
end DF
namespace L2
open PySem PySem.Spec PyProof.Rows
variable {X : Cx}
def Ad2 (r : Addr) (i j c : Int) : HO := .ext λ h => ∃ t u v, h.get? r = some { cls := .type "range", data := .fields #[.int i t, .int j u, .int c v] }
def vg (lo c : Int) (n : Nat) : List V := (List.range n).map λ (i : Nat) => V.int (lo + (i : Int) * c)
def Aak (h1 : -(2 ^ 50) <= a) (h2 : a < 2 ^ 50) (h3 : -(2 ^ 50) <= b) (h4 : b < 2 ^ 50) (h5 : 0 < c) (h6 : c < 1000000) : Builtin.Range.small a b c = true := by
 have hd : a < b -> 0 <= (b - a - 1) / c /\ (b - a - 1) / c <= b - a - 1 := λ h => ⟨Int.ediv_nonneg dkm dkm, Int.ediv_le_self _ dkm⟩
 have hm : a < b -> (b - a - 1) / c * c <= b - a - 1 := λ h => Int.ediv_mul_le _ dkm
 unfold Builtin.Range.small Builtin.Range.rangeSize
 simp only [Builtin.Range.rangeFitsLong, Ani, Arl, Ape, beq_iff_eq, show c > 0 from h5, if_true]
 split
 ·
  rename_i hab
  have := hd hab
  have := hm hab
  generalize (b - a - 1) / c = q at *
  first | omega | (refine ⟨⟨⟨dkm, dkm⟩, dkm⟩, ?_⟩; omega) | skip
 · first | omega | skip
theorem tw : J0 X (.type "range") (λ xs H Q => ∃ i j c : Int, xs = [.int i, .int j, .int c] /\ 0 < c /\ c < 1000000 /\ (-(2 ^ 50) <= i /\ i < 2 ^ 50 /\ -(2 ^ 50) <= j /\ j < 2 ^ 50) /\ ∀ r, H r = none -> Q (.ref r) (upd H r (Ad2 r i j c))) := by
 intro pins s σ H xs us Q I r h
 obtain ⟨i, j, c, rfl, c0, c1, ⟨q1, q2, q3, q4⟩, q⟩ := h
 cases r with
 |
  cons r rr =>
  cases rr with
  |
   cons r' rr =>
   cases rr with
   |
    cons r'' rr =>
    cases rr
    obtain ⟨t, rfl⟩ := r
    obtain ⟨t', rfl⟩ := r'
    obtain ⟨t'', rfl⟩ := r''
    refine call_range_3 dkm ?_ (Or.inl (PyProof.noPylong_small dkm))
    refine ⟨.ref s.heap.objs.size, _, I.laid (λ b u e => Am5 _ e) (Anh _) (show ObjOk X.prog X.w _ _ _ (Ad2 s.heap.objs.size i j c) from ⟨⟨t, t', t'', Anc _ rfl⟩, ⟨_, Anc _ rfl⟩, ?_⟩), rfl, q _ (I.hok.fresh (Anh _))⟩
    rintro h1 h2 ⟨a, b, c', e⟩ k
    exact ⟨a, b, c', k _ e⟩
theorem rf : J0 X (.type "range") (λ xs H Q => ∃ i j : Int, xs = [.int i, .int j] /\ ∀ r, H r = none -> Q (.ref r) (upd H r (Ad2 r i j 1))) := by
 intro pins s σ H xs us Q I r h
 obtain ⟨i, j, rfl, q⟩ := h
 cases r with
 |
  cons r rr =>
  cases rr with
  |
   cons r' rr =>
   cases rr
   obtain ⟨t, rfl⟩ := r
   obtain ⟨t', rfl⟩ := r'
   refine call_range_2 ?_
   refine ⟨.ref s.heap.objs.size, _, I.laid (λ b u e => Am5 _ e) (Anh _) (show ObjOk X.prog X.w _ _ _ (Ad2 s.heap.objs.size i j 1) from ⟨⟨t, t', _, Anc _ rfl⟩, ⟨_, Anc _ rfl⟩, ?_⟩), rfl, q _ (I.hok.fresh (Anh _))⟩
   rintro h1 h2 ⟨a, b, c', e⟩ k
   exact ⟨a, b, c', k _ e⟩
def U6 (hc : X.calm = true) : J0 X (.type "list") (λ xs H Q => ∃ (p : Addr) (i j c : Int) (n : Nat), xs = [.ref p] /\ H p = some (Ad2 p i j c) /\ 0 < c /\ c < 1000000 /\ (-(2 ^ 50) <= i /\ i < 2 ^ 50 /\ -(2 ^ 50) <= j /\ j < 2 ^ 50) /\ Builtin.Range.rangeSize i j c = (n : Int) /\ n <= 200000 /\
  ∀ l, H l = none -> Q (.ref l) (upd H l (.lst (vg i c n)))) := by
 intro pins s σ H xs us Q I r h
 obtain ⟨p, lo, hi, c, n, rfl, hp, c0, c1, ⟨b1, b2, b3, b4⟩, hn, hz, q⟩ := h
 obtain ⟨u, rfl, ru⟩ := r.one
 cases ru
 obtain ⟨⟨t, u, v, hr⟩, _⟩ := (show ObjOk X.prog X.w H s.heap p (Ad2 p lo hi c) from I.hok p _ hp)
 refine call_list_range (n := n) (I.ok.hd hc) hr (Aak b1 b2 b3 b4 c0 c1) hn (Anb hz dkd) λ h' tk acc cp hk hS hI => ?_
 refine ⟨.ref s.heap.objs.size, _, I.laid (t' := tk) hk (Anh _) (show ObjOk X.prog X.w _ h' _ (.lst (vg lo c n)) from ⟨?_, acc.toList, cp, ?_, ?_⟩), rfl, q _ (I.hok.fresh (Anh _))⟩
 ·
  unfold vg
  rw [Am9, An5]
  exact Anb hz dkd
 ·
  refine Vals.of_get ?_ λ j x u a b => ?_
  ·
   unfold vg
   rw [Am9, An5, An4, hI.1]
  ·
   have b' : acc[j]? = some u := by rw [← b, Aoo]
   obtain ⟨t, rfl⟩ := hI.2 j u b'
   unfold vg at a
   rw [Anu] at a
   obtain ⟨i, a1, rfl⟩ := Aqb.mp a
   have : i = j := by
    have := Ang.mp a1
    obtain ⟨z, w⟩ := this
    rw [List.getElem_range] at w
    exact w.symm
   subst this
   exact ⟨t, rfl⟩
 ·
  rw [Array.toArray_toList]
  exact hS
end L2
namespace L2
open PySem PySem.Spec PySem.Calls PyProof.Rows
variable {X : Cx}
def Ail (m : Str) (D : Addr -> (V -> List V -> Hp -> VK -> Prop) -> Prop) (ta : TE) : TE := λ σ H Q => ta σ H λ x H1 => ∃ a C dx fs R, x = .ref a /\ H1 a = some (.ins C dx fs) /\ fs.lookup m = none /\ D C R /\ R x [] H1 Q
def Ab6 (he : PE X o ta) (hD : ∀ C R, D C R -> Ans X m 0 C R)
  (ht : eval (.Call (.Attribute o m apos) [] [] pos) X.env = (do
   let ov ← eval o X.env
   standAt apos.atName
   let (f, first) ← holding [ov] (getMethod ov m pl)
   callWith pos f first (backTo pos (starEach [] X.env)) (backToKw pos (keywordEach [] X.env))) := by rfl) :
  PE X (.Call (.Attribute o m apos) [] [] pos) (Ail m D ta) := by
 intro pins s σ H Q I h
 refine W.methodCall_KW (pl := pl) (thn (he pins s σ H _ I h) λ u s1 ⟨x, H1, I1, rx, a, C, dx, fs, R, ex, ea, l, d, q⟩ => ?_) ht
 subst ex
 obtain rfl : u = Value.ref a := rx
 obtain ⟨c, f, fd, ps, ds, dvs, CX, cm, k, sp, E, hm, F, hr, hb, hd, hx, hR⟩ := hD C R d
 refine kz I1 ea c hm l ?_
 refine W.callWith_K0 (first := [.ref a]) (Inv.kIn (I1.tok _)) hm.kp ?_
 exact wu (us := [.ref a]) (vs := [.ref a]) F hr hb hd hx (I1.tok _) (.cons rfl .nil) (hR _ _ _ _ rfl q)
end L2
namespace L2
open PySem PySem.Spec PyProof.Rows
def wx (hJ : Seq J H1 xs) (G : V -> V -> Prop) (hsz : xs.length <= 100000)
  (hp : ∀ x ∈ xs, ∀ H', Same H1 H' -> ∀ R : Bool -> Hp -> Prop, R true H' -> tt ((Us cap σ).set 0 (some x)) H' R)
  (he : ∀ x ∈ xs, ∀ H', Same H1 H' -> ∀ R : VK, (∀ v H'', Same H' H'' -> G x v -> R v H'') -> te ((Us cap σ).set 0 (some x)) H' R)
  (k : ∀ D H' ys, Same H1 H' -> H1 D = none -> H' D = some (.lst ys) -> ys.length = xs.length -> (∀ (i : Nat) x v, xs[i]? = some x -> ys[i]? = some v -> G x v) -> Q (.ref D) H') :
  Rb J H1 cap (df 0) tt te σ Q := by
 intro D hD
 refine ⟨λ i m ys σ' H' => m = xs.length - i /\ i <= xs.length /\ (∀ v, σ'.set 0 v = (Us cap σ).set 0 v) /\ H' D = some (.lst ys) /\ Same H1 H' /\ ys.length = i /\ ∀ (j : Nat) x v, xs[j]? = some x -> ys[j]? = some v -> G x v,
  ⟨xs.length, dks, Aon _, λ _ => rfl, Ae, Ai hD, rfl, (λ _ _ _ _ z => nomatch z)⟩, ?_⟩
 rintro i m ys σ' H' ⟨rfl, hi, hσ, hl, sm, hle, hG⟩
 refine ⟨hl, ?_⟩
 obtain ⟨q1, q2⟩ := hJ H' sm
 by_cases hlt : i < xs.length
 ·
  have e : xs[i]? = some xs[i] := by simp [hlt]
  obtain ⟨go, y⟩ := q1 i _ e
  refine .inr ⟨go, λ x H2 hy => ?_⟩
  obtain ⟨rfl, rfl⟩ := y x H2 hy
  have hm : xs[i] ∈ xs := Aoz hlt
  have hss : ∀ v, ((Us cap σ).set 0 (some xs[i])).set 0 v = (Us cap σ).set 0 v := λ v => by rw [Aqu]
  show tt (σ'.set 0 (some xs[i])) _ _
  rw [hσ]
  refine hp _ hm _ sm _ ?_
  refine Ag3 ?_
  refine he _ hm _ sm _ λ v H4 s4 hv => ?_
  have hl4 := s4 _ _ hl
  refine ⟨hl4, Aox (by omega : ys.length <= 100000) dkd, xs.length - (i + 1), dkm, rfl, hlt, hss, Ae, λ c o ec => ?_, by rw [Anj, hle]; rfl, λ j x' v' a1 a2 => ?_⟩
  ·
   rw [An (Aq ec hD)]
   exact s4 _ _ (sm _ _ ec)
  ·
   by_cases hj : j < ys.length
   ·
    rw [Aqy hj] at a2
    exact hG j x' v' a1 a2
   ·
    rw [Aqs dkm] at a2
    have hj2 : j - ys.length = 0 := by
     have := (Ang.mp a2).1
     simp at this
     omega
    rw [hj2] at a2
    cases a2
    have : j = i := by omega
    subst this
    rw [e] at a1
    cases a1
    exact hv
 ·
  have e : i = xs.length := by omega
  subst e
  exact .inl ⟨q2, k D _ ys sm hD hl hle hG⟩
end L2
namespace L2
open PySem PySem.Spec PyProof.Rows PySem.SeqAt
theorem vv (hu : X.A.units + 2 < cLine) : OpR X (compareOp .Eq) (λ x y H Q => ∃ (a b : Addr) (xs : List V), x = .ref a /\ y = .ref b /\ H a = some (.tup xs) /\ H b = some (.tup []) /\ Q (.bl xs.isEmpty) H) := by
 intro pins s σ H x y v u Q I rx ry h
 obtain ⟨a, b, xs, rfl, rfl, ha, hb, q⟩ := h
 cases rx
 cases ry
 obtain ⟨its, rv, pl, hz⟩ := I.tuple (Asd (K := X.K) ha)
 obtain ⟨its2, rv2, pl2, hz2⟩ := I.tuple (Asd (K := X.K) hb)
 cases rv2
 have hl := rv.length
 refine eq_tupleAt (e := λ _ => true) pl pl2 dkm (λ j h1 h2 => absurd h2 dks) ?_
 cases xs with
 |
  nil =>
  cases rv
  exact ⟨.bl _, H, I, rfl, q⟩
 |
  cons y ys =>
  cases rv
  exact ⟨.bl _, H, I, rfl, q⟩
end L2
namespace L2
open PySem PySem.Spec PySem.W PyProof.Rows
abbrev TM := Nat × Option Addr × Array (Option Value)
abbrev t7 (its : Array Value) (n : TM) : Obj := { cls := .type "tuple", dict := n.2.1, data := .seq its n.1, slots := n.2.2 }
def Ff (t : Addr) (i : Nat) : Obj := { cls := .type "tuple_iterator", data := .fields #[.ref t, .int i 0] }
variable {prog : Program} {w : World} {A : Around} {E : Value -> Shared -> Prop} {s : Shared}
def Qv (h1 : s.heap.get? it = some (Ff t i)) (h2 : s.heap.get? t = some (t7 items n)) (hx : items[i]? = some x)
  (h : ∀ h', h'.get? it = some (Ff t (i + 1)) -> Heap.SameBut it s.heap h' -> Q x { s with heap := h' }) : wpAny (model prog w) A (Builtin.SmallTypes.nextOf (.ref it)) Q E s := by
 unfold Builtin.SmallTypes.nextOf
 have hT : s.TypeIs (.ref it) "tuple_iterator" := ⟨_, h1, rfl⟩
 refine Am4 (wpAny_callSpecial?_slot (name := Str.ofString "__next__") hT Ap4 (Aoh Ap4 hT F.entry_tuple_iterator_next ?_ (F.args_tuple_iterator_next_1 _)))
 refine Am4 (m := slotArgs "__next__" 0 ⟨[.ref it], []⟩) (Am7 ?_)
 refine Am4 (Aol h1 rfl rfl ?_)
 refine Am4 (Aol h1 rfl rfl ?_)
 refine Am4 (m := seqItems? (.ref t)) (Am4 (Apv h2 (Am7 ?_)))
 show wpAny _ _ (
    match items[((i : Nat) : Int).toNat]? with
   |
    some x => do
    setField (.ref it) 1 (rawInt ((i : Int) + 1))
    ret x
   |
    none => do
    rule _
    setField (.ref it) 0 Value.none
    Builtin.SmallTypes.stopIteration) _ _ _
 rw [Aoe, hx]
 refine Am4 (Aot h1 rfl dks ?_)
 have g1 : (s.heap.update it (Obj.mapFields (·.setIfInBounds 1 (rawInt ((i : Int) + 1))))).get? it = some (Ff t (i + 1)) := Anq _ h1 rfl
 exact Am7 ⟨_, rfl, Am7 (h _ g1 (Anp ..))⟩
def gu (hh : A.handled = none) (h1 : s.heap.get? it = some (Ff t i)) (h2 : s.heap.get? t = some (t7 items n)) (hx : items[i]? = none)
  (h : ∀ h' q o, Heap.ExtBut it s.heap h' -> s.heap.objs.size <= q -> h'.get? q = some o -> o.cls = .type "StopIteration" -> E (.ref q) { s with heap := h' }) : wpAny (model prog w) A (Builtin.SmallTypes.nextOf (.ref it)) Q E s := by
 unfold Builtin.SmallTypes.nextOf
 have hT : s.TypeIs (.ref it) "tuple_iterator" := ⟨_, h1, rfl⟩
 refine Am4 (wpAny_callSpecial?_slot (name := Str.ofString "__next__") hT Ap4 (Aoh Ap4 hT F.entry_tuple_iterator_next ?_ (F.args_tuple_iterator_next_1 _)))
 refine Am4 (m := slotArgs "__next__" 0 ⟨[.ref it], []⟩) (Am7 ?_)
 refine Am4 (Aol h1 rfl rfl ?_)
 refine Am4 (Aol h1 rfl rfl ?_)
 refine Am4 (m := seqItems? (.ref t)) (Am4 (Apv h2 (Am7 ?_)))
 show wpAny _ _ (
    match items[((i : Nat) : Int).toNat]? with
   |
    some x => do
    setField (.ref it) 1 (rawInt ((i : Int) + 1))
    ret x
   |
    none => do
    rule _
    setField (.ref it) 0 Value.none
    Builtin.SmallTypes.stopIteration) _ _ _
 rw [Aoe, hx]
 refine Am4 (Aqk ?_)
 refine Am4 (Aot h1 rfl dks ?_)
 unfold Builtin.SmallTypes.stopIteration
 refine Am4 ?_
 simp only [newExc, newTuple]
 refine Am4 (An8 ?_ (by size_fits))
 refine Am4 (m := firstArgMember _ _) (wpAny_of_eq (a := Value.none) (by first | rfl | (simp only [firstArgMember]; rfl)) ?_)
 refine An8 ?_ (by size_fits)
 simp only [raiseNew]
 refine Am4 (wpAny_handled ?_)
 rw [show A.in1.handled = none from hh]
 refine Am4 (Am7 (wpAny_throw ?_))
 exact h _ _ _ (((Anp ..).extBut.push _).push _) (by rw [Aod]; show _ <= (s.heap.update _ _).objs.size + 1; rw [(Anp ..).1]; exact Aqo _) (Anc _ rfl) rfl
def Y6 (f0 : Value) (b : Bool) (TI TO : Addr) : Obj := { cls := .type "zip", data := .fields #[f0, .bool b, .bool false, .ref TI, .ref TO] }
abbrev Nj (a b : Value) : Obj := { cls := .type "tuple", data := .seq #[a, b] }
def Ad6 (h : Q (s.heap.get? a) s) : wpAny (model prog w) A (loadIfAlive a) Q E s := λ _ _ _ => h
def Abq {z TI TO i1 i2 l1 l2 : Addr} {b : Bool} {a0 b0 : Value} {k : Nat} {n1 n2 : TM} {xs ys : Array Value} {x y : Value} {Q : Option Value -> Shared -> Prop}
  (D : ZipApart z TI TO i1 i2 l1 l2) (hz : s.heap.get? z = some (Y6 .none b TI TO)) (hTI : s.heap.get? TI = some (Nj (.ref i1) (.ref i2))) (hTO : s.heap.get? TO = some (Nj a0 b0))
  (h1 : s.heap.get? i1 = some (Ff l1 k)) (h2 : s.heap.get? i2 = some (Ff l2 k)) (hl1 : s.heap.get? l1 = some (t7 xs n1)) (hl2 : s.heap.get? l2 = some (t7 ys n2)) (hx : xs[k]? = some x) (hy : ys[k]? = some y)
  (h : ∀ h' o, h'.get? z = some (Y6 (rawInt s.heap.objs.size) false TI TO) -> h'.get? TO = some o -> h'.get? i1 = some (Ff l1 (k + 1)) -> h'.get? i2 = some (Ff l2 (k + 1)) -> h'.get? s.heap.objs.size = some (Nj x y) -> (∀ c o, c ≠ z -> c ≠ TO -> c ≠ i1 -> c ≠ i2 -> s.heap.get? c = some o -> h'.get? c = some o) ->
   Q (some (.ref s.heap.objs.size)) { s with heap := h' }) : wpAny (model prog w) A (pyNext (.ref z)) Q E s := by
 unfold pyNext
 have hT : s.TypeIs (.ref z) "zip" := ⟨_, hz, rfl⟩
 refine Am4 (Ap3 (wpAny_callSpecial?_slot (name := Str.ofString "__next__") hT Apn (Aoh Apn hT Arq ?_ (Arf _))))
 unfold Builtin.«zip.__next__»
 refine Am4 (m := slotArgs "__next__" 0 ⟨[.ref z], []⟩) (Am7 ?_)
 refine Am4 (Aol hz rfl rfl ?_)
 refine Am4 (Aol hz rfl rfl ?_)
 refine Am4 (m := seqItems? (.ref TI)) (Am4 (Apv hTI (Am7 ?_)))
 refine Am4 (m := Builtin.SmallTypes.ownedTupleIsFree (.ref z)) (Am4 (Aol hz rfl rfl (Am7 ?_)))
 refine Am4 (Aqk ?_)
 refine Am4 (Aol hz rfl rfl ?_)
 refine Am4 (Aot hz rfl dks ?_)
 have sA : Heap.SameBut z s.heap (s.heap.update z (Obj.mapFields λ x => x.setIfInBounds 0 Value.ellipsis)) := Anp ..
 have gA : (s.heap.update z (Obj.mapFields λ x => x.setIfInBounds 0 Value.ellipsis)).get? z = some (Y6 .ellipsis b TI TO) := Anq _ hz rfl
 generalize s.heap.update z (Obj.mapFields λ x => x.setIfInBounds 0 Value.ellipsis) = hA at *
 show wpAny _ _ (forIn [(Value.ref i1, 0), (Value.ref i2, 1)] _ _ >>= _) _ _ _
 rw [Aph]
 refine Am4 (Am4 (Am4 (wpAny_onRaise (Am4 (Qv (s := { s with heap := hA }) ((sA.2 _ D.i1z).trans h1) ((sA.2 _ D.l1z).trans hl1) hx λ hB gB sB => Am7 ?_)))))
 have oB : hB.get? TO = some (Nj a0 b0) := (sB.2 _ D.TOi1).trans ((sA.2 _ D.TOz).trans hTO)
 refine Am4 (m := seqItems? (.ref TO)) (Am4 (Apv oB (Am7 ?_)))
 refine Am4 (Aqe oB rfl ?_)
 have sC : Heap.SameBut TO hB (hB.update TO (Obj.mapSeq λ x_1 => x_1.setIfInBounds 0 x)) := Anp ..
 have gC : (hB.update TO (Obj.mapSeq λ x_1 => x_1.setIfInBounds 0 x)).get? TO = some _ := Anq _ oB rfl
 generalize hB.update TO (Obj.mapSeq λ x_1 => x_1.setIfInBounds 0 x) = hC at *
 refine Am4 (wpAny_letGo (Am7 ?_))
 show wpAny _ _ (forIn [(Value.ref i2, 1)] _ _) _ _ _
 rw [Aph]
 refine Am4 (Am4 (wpAny_onRaise (Am4 (Qv (s := { s with heap := hC }) ((sC.2 _ D.TOi2.symm).trans ((sB.2 _ D.i12.symm).trans ((sA.2 _ D.i2z).trans h2))) ((sC.2 _ D.l2TO).trans ((sB.2 _ D.l2i1).trans ((sA.2 _ D.l2z).trans hl2))) hy λ hE gE sE => Am7 ?_))))
 have oE : hE.get? TO = some _ := (sE.2 _ D.TOi2).trans gC
 refine Am4 (m := seqItems? (.ref TO)) (Am4 (Apv oE (Am7 ?_)))
 refine Am4 (Aqe (hz := by seq_fits) oE rfl ?_)
 have sF : Heap.SameBut TO hE (hE.update TO (Obj.mapSeq λ x_1 => x_1.setIfInBounds 1 y)) := Anp ..
 have gF : (hE.update TO (Obj.mapSeq λ x_1 => x_1.setIfInBounds 1 y)).get? TO = some _ := Anq _ oE rfl
 generalize hE.update TO (Obj.mapSeq λ x_1 => x_1.setIfInBounds 1 y) = hF at *
 refine Am4 (wpAny_letGo (Am7 (Am7 ?_)))
 refine Am4 (m := seqItems? (.ref TO)) (Am4 (Apv gF (Am7 ?_)))
 have eF : hF.objs.size = s.heap.objs.size := by rw [sF.1, sE.1, sC.1, sB.1, sA.1]
 show wpAny _ _ (newTuple [x, y] >>= _) _ _ _
 simp only [newTuple]
 refine Am4 (An8 ?_ (by size_fits))
 show wpAny _ _ (Builtin.SmallTypes.ownedTupleHandOut (.ref z) (.ref hF.objs.size) >>= _) _ _ { s with heap := hF.push (Nj x y) }
 rw [eF]
 have zF : hF.get? z = some (Y6 .ellipsis b TI TO) := (sF.2 _ D.TOz.symm).trans ((sE.2 _ D.i2z.symm).trans ((sC.2 _ D.TOz.symm).trans ((sB.2 _ D.i1z.symm).trans gA)))
 have zG : (hF.push (Nj x y)).get? z = some (Y6 .ellipsis b TI TO) := Am5 _ zF
 have ltz : z < s.heap.objs.size := Ana hz
 refine Am4 (Am4 (m := setField (.ref z) 0 (rawInt s.heap.objs.size)) (Aot (s := { s with heap := hF.push (Nj x y) }) zG rfl dks ?_))
 have zH : ((hF.push (Nj x y)).update z (Obj.mapFields λ v => v.setIfInBounds 0 (rawInt s.heap.objs.size))).get? z = some (Y6 (rawInt s.heap.objs.size) b TI TO) := Anq _ zG rfl
 have sH : Heap.SameBut z (hF.push (Nj x y)) ((hF.push (Nj x y)).update z (Obj.mapFields λ v => v.setIfInBounds 0 (rawInt s.heap.objs.size))) := Anp ..
 generalize (hF.push (Nj x y)).update z (Obj.mapFields λ v => v.setIfInBounds 0 (rawInt s.heap.objs.size)) = hH at *
 refine Aot (s := { s with heap := hH }) zH rfl dks ?_
 have zJ : (hH.update z (Obj.mapFields λ v => v.setIfInBounds 1 (.bool false))).get? z = some (Y6 (rawInt s.heap.objs.size) false TI TO) := Anq _ zH rfl
 have sJ : Heap.SameBut z hH (hH.update z (Obj.mapFields λ v => v.setIfInBounds 1 (.bool false))) := Anp ..
 generalize hH.update z (Obj.mapFields λ v => v.setIfInBounds 1 (.bool false)) = hJ at *
 have up : ∀ c o, c ≠ z -> hF.get? c = some o -> hJ.get? c = some o := λ c o hc e => (sJ.2 _ hc).trans ((sH.2 _ hc).trans (Am5 _ e))
 refine Am7 ⟨_, rfl, Am7 (h hJ _ zJ (up _ _ D.TOz gF) (up _ _ D.i1z ((sF.2 _ D.TOi1.symm).trans ((sE.2 _ D.i12).trans ((sC.2 _ D.TOi1.symm).trans gB)))) (up _ _ D.i2z ((sF.2 _ D.TOi2.symm).trans gE)) ?_ λ c o n1 n2 n3 n4 e => ?_)⟩
 ·
  refine (sJ.2 _ (Aos ltz)).trans ((sH.2 _ (Aos ltz)).trans ?_)
  rw [← eF]
  exact Anc _ rfl
 · exact up c o n1 ((sF.2 _ n2).trans ((sE.2 _ n4).trans ((sC.2 _ n2).trans ((sB.2 _ n3).trans ((sA.2 _ n1).trans e)))))
def Ac2 {z TI TO i1 i2 l1 l2 : Addr} {b : Bool} {k : Nat} {n1 : TM} {xs : Array Value} {Q : Option Value -> Shared -> Prop} (hh : A.handled = none)
  (D : ZipApart z TI TO i1 i2 l1 l2) (hz : s.heap.get? z = some (Y6 .none b TI TO)) (hTI : s.heap.get? TI = some (Nj (.ref i1) (.ref i2)))
  (h1 : s.heap.get? i1 = some (Ff l1 k)) (hl1 : s.heap.get? l1 = some (t7 xs n1)) (hx : xs[k]? = none)
  (h : ∀ h', (∀ c o, c ≠ z -> c ≠ i1 -> s.heap.get? c = some o -> h'.get? c = some o) -> Q none { s with heap := h' }) : wpAny (model prog w) A (pyNext (.ref z)) Q E s := by
 unfold pyNext
 have hT : s.TypeIs (.ref z) "zip" := ⟨_, hz, rfl⟩
 refine Am4 (Ap3 (wpAny_callSpecial?_slot (name := Str.ofString "__next__") hT Apn (Aoh Apn hT Arq ?_ (Arf _))))
 unfold Builtin.«zip.__next__»
 refine Am4 (m := slotArgs "__next__" 0 ⟨[.ref z], []⟩) (Am7 ?_)
 refine Am4 (Aol hz rfl rfl ?_)
 refine Am4 (Aol hz rfl rfl ?_)
 refine Am4 (m := seqItems? (.ref TI)) (Am4 (Apv hTI (Am7 ?_)))
 refine Am4 (m := Builtin.SmallTypes.ownedTupleIsFree (.ref z)) (Am4 (Aol hz rfl rfl (Am7 ?_)))
 refine Am4 (Aqk ?_)
 refine Am4 (Aol hz rfl rfl ?_)
 refine Am4 (Aot hz rfl dks ?_)
 have sA : Heap.SameBut z s.heap (s.heap.update z (Obj.mapFields λ x => x.setIfInBounds 0 Value.ellipsis)) := Anp ..
 have gA : (s.heap.update z (Obj.mapFields λ x => x.setIfInBounds 0 Value.ellipsis)).get? z = some (Y6 .ellipsis b TI TO) := Anq _ hz rfl
 generalize s.heap.update z (Obj.mapFields λ x => x.setIfInBounds 0 Value.ellipsis) = hA at *
 show wpAny _ _ (forIn [(Value.ref i1, 0), (Value.ref i2, 1)] _ _ >>= _) _ _ _
 rw [Aph]
 refine Am4 (Am4 (Am4 (wpAny_onRaise (Am4 (gu (s := { s with heap := hA }) hh ((sA.2 _ D.i1z).trans h1) ((sA.2 _ D.l1z).trans hl1) hx λ hB q o xB hq gq tq => ?_)))))
 have gB : hB.get? z = some (Y6 .ellipsis b TI TO) := xB _ _ D.i1z.symm gA
 refine Aot (s := { s with heap := hB }) gB rfl dks ?_
 have sC : Heap.SameBut z hB (hB.update z (Obj.mapFields λ x => x.setIfInBounds 0 Value.none)) := Anp ..
 generalize hB.update z (Obj.mapFields λ x => x.setIfInBounds 0 Value.none) = hC at *
 have ltz : z < s.heap.objs.size := Ana hz
 have hq' : s.heap.objs.size <= q := by rw [← sA.1]; exact hq
 refine Am4 (Arp (T := "StopIteration") (b := true) ⟨o, (sC.2 _ (λ e => absurd ltz (Aq3.mpr (e ▸ hq')))).trans gq, tq⟩ isSubtype_stop ?_)
 exact Am7 (h hC λ c o n1 n3 e => (sC.2 _ n1).trans (xB _ _ n3 ((sA.2 _ n1).trans e)))
theorem Ab3 {z TI TO : Addr} {T : Nat} {b : Bool} {oT : Obj} (hz : s.heap.get? z = some (Y6 (rawInt (T : Int)) b TI TO)) (hal : s.heap.get? T = some oT) :
  wpAny (model prog w) A (Builtin.SmallTypes.ownedTupleIsFree (.ref z)) (λ a s' => a = false /\ ∃ hA, s' = { s with heap := hA } /\ hA.get? z = some (Y6 (rawInt (T : Int)) true TI TO) /\ Heap.SameBut z s.heap hA) E s := by
 refine Am4 (Aol hz rfl rfl (Am4 (Ad6 ?_)))
 show wpAny _ _ (if (s.heap.get? ((T : Int).toNat)).isNone = true then pure true else _) _ _ _
 rw [Aoe, hal, if_neg dks]
 refine Am4 (Aol hz rfl rfl ?_)
 cases b with
 | true => exact Am7 ⟨rfl, s.heap, rfl, hz, Heap.SameBut.refl _ _⟩
 | false => exact Am4 (Aot hz rfl dks (Am7 ⟨rfl, _, rfl, Anq _ hz rfl, Anp ..⟩))
def Abv {z TI TO i1 i2 l1 l2 : Addr} {b : Bool} {T k : Nat} {n1 n2 : TM} {xs ys : Array Value} {x y : Value} {Q : Option Value -> Shared -> Prop} {oT : Obj}
  (D : ZipApart z TI TO i1 i2 l1 l2) (hz : s.heap.get? z = some (Y6 (rawInt (T : Int)) b TI TO)) (hTI : s.heap.get? TI = some (Nj (.ref i1) (.ref i2))) (hal : s.heap.get? T = some oT)
  (h1 : s.heap.get? i1 = some (Ff l1 k)) (h2 : s.heap.get? i2 = some (Ff l2 k)) (hl1 : s.heap.get? l1 = some (t7 xs n1)) (hl2 : s.heap.get? l2 = some (t7 ys n2)) (hx : xs[k]? = some x) (hy : ys[k]? = some y)
  (h : ∀ h', h'.get? z = some (Y6 (rawInt (T : Int)) true TI TO) -> h'.get? i1 = some (Ff l1 (k + 1)) -> h'.get? i2 = some (Ff l2 (k + 1)) -> h'.get? s.heap.objs.size = some (Nj x y) -> (∀ c o, c ≠ z -> c ≠ i1 -> c ≠ i2 -> s.heap.get? c = some o -> h'.get? c = some o) ->
   Q (some (.ref s.heap.objs.size)) { s with heap := h' }) : wpAny (model prog w) A (pyNext (.ref z)) Q E s := by
 unfold pyNext
 have hT : s.TypeIs (.ref z) "zip" := ⟨_, hz, rfl⟩
 refine Am4 (Ap3 (wpAny_callSpecial?_slot (name := Str.ofString "__next__") hT Apn (Aoh Apn hT Arq ?_ (Arf _))))
 unfold Builtin.«zip.__next__»
 refine Am4 (m := slotArgs "__next__" 0 ⟨[.ref z], []⟩) (Am7 ?_)
 refine Am4 (Aol hz rfl rfl ?_)
 refine Am4 (Aol hz rfl rfl ?_)
 refine Am4 (m := seqItems? (.ref TI)) (Am4 (Apv hTI (Am7 ?_)))
 refine Am4 (thn (Ab3 hz hal) λ a s' ⟨ea, hA, es, gA, sA⟩ => ?_)
 subst ea es
 show wpAny _ _ (forIn #[Value.ref i1, Value.ref i2] _ _ >>= _) _ _ _
 rw [← Array.forIn_toList]
 show wpAny _ _ (forIn [Value.ref i1, Value.ref i2] _ _ >>= _) _ _ _
 rw [Aph]
 refine Am4 (Am4 (Am4 (Aou (Am4 (Qv (s := { s with heap := hA }) ((sA.2 _ D.i1z).trans h1) ((sA.2 _ D.l1z).trans hl1) hx λ hB gB sB => Am7 (Am7 ?_))))))
 show wpAny _ _ (forIn [Value.ref i2] _ _) _ _ _
 rw [Aph]
 refine Am4 (Am4 (Aou (Am4 (Qv (s := { s with heap := hB }) ((sB.2 _ D.i12.symm).trans ((sA.2 _ D.i2z).trans h2)) ((sB.2 _ D.l2i1).trans ((sA.2 _ D.l2z).trans hl2)) hy λ hC gC sC => Am7 (Am7 (Am7 ?_))))))
 have eC : hC.objs.size = s.heap.objs.size := by rw [sC.1, sB.1, sA.1]
 show wpAny _ _ (newTuple [x, y] >>= _) _ _ { s with heap := hC }
 simp only [newTuple]
 refine Am4 (An8 ?_ (by size_fits))
 refine Am7 ⟨_, rfl, Am7 ?_⟩
 show Q (some (.ref hC.objs.size)) { s with heap := hC.push (Nj x y) }
 rw [eC]
 refine h _ (Am5 _ ((sC.2 _ D.i2z.symm).trans ((sB.2 _ D.i1z.symm).trans gA))) (Am5 _ ((sC.2 _ D.i12).trans gB)) (Am5 _ gC) ?_ λ c o n1 n3 n4 e => Am5 _ ((sC.2 _ n4).trans ((sB.2 _ n3).trans ((sA.2 _ n1).trans e)))
 rw [← eC]
 exact Anc _ rfl
def Adh {z TI TO i1 i2 l1 l2 : Addr} {b : Bool} {T k : Nat} {n1 : TM} {xs : Array Value} {Q : Option Value -> Shared -> Prop} {oT : Obj} (hh : A.handled = none)
  (D : ZipApart z TI TO i1 i2 l1 l2) (hz : s.heap.get? z = some (Y6 (rawInt (T : Int)) b TI TO)) (hTI : s.heap.get? TI = some (Nj (.ref i1) (.ref i2))) (hal : s.heap.get? T = some oT)
  (h1 : s.heap.get? i1 = some (Ff l1 k)) (hl1 : s.heap.get? l1 = some (t7 xs n1)) (hx : xs[k]? = none)
  (h : ∀ h', (∀ c o, c ≠ z -> c ≠ i1 -> s.heap.get? c = some o -> h'.get? c = some o) -> Q none { s with heap := h' }) : wpAny (model prog w) A (pyNext (.ref z)) Q E s := by
 unfold pyNext
 have hT : s.TypeIs (.ref z) "zip" := ⟨_, hz, rfl⟩
 refine Am4 (Ap3 (wpAny_callSpecial?_slot (name := Str.ofString "__next__") hT Apn (Aoh Apn hT Arq ?_ (Arf _))))
 unfold Builtin.«zip.__next__»
 refine Am4 (m := slotArgs "__next__" 0 ⟨[.ref z], []⟩) (Am7 ?_)
 refine Am4 (Aol hz rfl rfl ?_)
 refine Am4 (Aol hz rfl rfl ?_)
 refine Am4 (m := seqItems? (.ref TI)) (Am4 (Apv hTI (Am7 ?_)))
 refine Am4 (thn (Ab3 hz hal) λ a s' ⟨ea, hA, es, gA, sA⟩ => ?_)
 subst ea es
 show wpAny _ _ (forIn #[Value.ref i1, Value.ref i2] _ _ >>= _) _ _ _
 rw [← Array.forIn_toList]
 show wpAny _ _ (forIn [Value.ref i1, Value.ref i2] _ _ >>= _) _ _ _
 rw [Aph]
 refine Am4 (Am4 (Am4 (Aou (Am4 (gu (s := { s with heap := hA }) hh ((sA.2 _ D.i1z).trans h1) ((sA.2 _ D.l1z).trans hl1) hx λ hB q o xB hq gq tq => ?_)))))
 refine Am4 (Arp (T := "StopIteration") (b := true) ⟨o, gq, tq⟩ isSubtype_stop ?_)
 exact Am7 (h hB λ c o n1 n3 e => xB _ _ n3 ((sA.2 _ n1).trans e))
def so : isSubtype (.type "zip") (.type "zip") = pure true := F.called_zip.sub
def Afi (h : Q (.type "zip", [a, b]) s) : wpAny (model prog w) A (Builtin.SmallTypes.newClass "zip" ⟨[.type "zip", a, b], []⟩) Q E s := by
 unfold Builtin.SmallTypes.newClass
 have hsub := so
 wp_walk
 exact h
def Ads (h1 : s.heap.get? l1 = some (t7 xs n1)) (h2 : s.heap.get? l2 = some (t7 ys n2))
  (h : ∀ h', h'.get? (s.heap.objs.size + 4) = some (Y6 .none false (s.heap.objs.size + 2) (s.heap.objs.size + 3)) -> h'.get? (s.heap.objs.size + 2) = some (Nj (.ref s.heap.objs.size) (.ref (s.heap.objs.size + 1))) -> h'.get? (s.heap.objs.size + 3) = some (Nj .none .none) ->
   h'.get? s.heap.objs.size = some (Ff l1 0) -> h'.get? (s.heap.objs.size + 1) = some (Ff l2 0) -> (∀ c o, s.heap.get? c = some o -> h'.get? c = some o) -> Q₁ (.ref (s.heap.objs.size + 4)) { s with heap := h' }) :
  codeAny (model prog w) A (.call (.builtin "zip.__new__") ⟨[.type "zip", .ref l1, .ref l2], []⟩) (wants Q₁ E) s := by
 refine Aqg ?_
 show wpAny _ A.in1 (do checkBuiltinCall "zip.__new__" ⟨[.type "zip", .ref l1, .ref l2], []⟩; again (.builtin "zip.__new__" ⟨[.type "zip", .ref l1, .ref l2], []⟩)) _ _ s
 refine Am4 (wpAny_of_eq (F.newCall_zip_2 _ _) (Am7 ⟨Aqf F.called_zip.plain _, Aom F.entry_zip_new ?_⟩))
 rw [Ao0 F.called_zip.plain _]
 unfold Builtin.«zip.__new__»
 refine Am4 (Afi ?_)
 show wpAny _ _ (Builtin.SmallTypes.iterAll [.ref l1, .ref l2] >>= _) _ _ s
 unfold Builtin.SmallTypes.iterAll
 show wpAny _ _ ((forIn [Value.ref l1, Value.ref l2] (#[] : Array Value) _ >>= _) >>= _) _ _ s
 rw [Aph]
 refine Am4 (Am4 (Am4 (Am4 (Aou (Aq9 ⟨_, h1, rfl, n1.1, rfl⟩ (Am7 ?_))))))
 have k1 : ∀ c o, s.heap.get? c = some o -> (s.heap.push (Ff l1 0)).get? c = some o := λ c o e => Am5 _ e
 have g1 : (s.heap.push (Ff l1 0)).get? s.heap.objs.size = some (Ff l1 0) := Anc _ rfl
 have z1 : (s.heap.push (Ff l1 0)).objs.size = s.heap.objs.size + 1 := Aod ..
 show wpAny _ _ (forIn [Value.ref l2] (#[].push (Value.ref s.heap.objs.size)) _) _ _ { s with heap := s.heap.push (Ff l1 0) }
 generalize s.heap.push (Ff l1 0) = hA at *
 rw [Aph]
 refine Am4 (Am4 (Aou (Aq9 (s := { s with heap := hA }) ⟨_, k1 _ _ h2, rfl, n2.1, rfl⟩ (Am7 ?_))))
 have k2 : ∀ c o, hA.get? c = some o -> (hA.push (Ff l2 0)).get? c = some o := λ c o e => Am5 _ e
 have g2 : (hA.push (Ff l2 0)).get? hA.objs.size = some (Ff l2 0) := Anc _ rfl
 have z2 : (hA.push (Ff l2 0)).objs.size = hA.objs.size + 1 := Aod ..
 show wpAny _ _ (forIn [] ((#[].push (Value.ref s.heap.objs.size)).push (Value.ref hA.objs.size)) _) _ _ { s with heap := hA.push (Ff l2 0) }
 generalize hA.push (Ff l2 0) = hB at *
 rw [z1] at g2 z2 ⊢
 rw [List.forIn_nil]
 refine Am7 (Am7 ?_)
 show wpAny _ _ (newTuple [.ref s.heap.objs.size, .ref (s.heap.objs.size + 1)] >>= _) _ _ { s with heap := hB }
 simp only [newTuple]
 refine Am4 (An8 ?_ (by size_fits))
 have k3 : ∀ c o, hB.get? c = some o -> (hB.push (Nj (.ref s.heap.objs.size) (.ref (s.heap.objs.size + 1)))).get? c = some o := λ c o e => Am5 _ e
 have g3 : (hB.push (Nj (.ref s.heap.objs.size) (.ref (s.heap.objs.size + 1)))).get? hB.objs.size = some (Nj (.ref s.heap.objs.size) (.ref (s.heap.objs.size + 1))) := Anc _ rfl
 have z3 : (hB.push (Nj (.ref s.heap.objs.size) (.ref (s.heap.objs.size + 1)))).objs.size = hB.objs.size + 1 := Aod ..
 show wpAny _ _ _ _ _ { s with heap := hB.push (Nj (.ref s.heap.objs.size) (.ref (s.heap.objs.size + 1))) }
 generalize hB.push (Nj (.ref s.heap.objs.size) (.ref (s.heap.objs.size + 1))) = hC at *
 show wpAny _ _ (newTuple [.none, .none] >>= _) _ _ { s with heap := hC }
 simp only [newTuple]
 refine Am4 (An8 ?_ (by size_fits))
 have k4 : ∀ c o, hC.get? c = some o -> (hC.push (Nj .none .none)).get? c = some o := λ c o e => Am5 _ e
 have g4 : (hC.push (Nj .none .none)).get? hC.objs.size = some (Nj .none .none) := Anc _ rfl
 have z4 : (hC.push (Nj .none .none)).objs.size = hC.objs.size + 1 := Aod ..
 show wpAny _ _ _ _ _ { s with heap := hC.push (Nj .none .none) }
 generalize hC.push (Nj .none .none) = hD at *
 have e2 : hB.objs.size = s.heap.objs.size + 2 := z2
 have e3 : hC.objs.size = s.heap.objs.size + 3 := by rw [z3, e2]
 have e4 : hD.objs.size = s.heap.objs.size + 4 := by rw [z4, e3]
 rw [e2] at g3
 rw [e3] at g4
 show wpAny _ _ (newObj (.type "zip") (.fields #[.none, .bool false, .bool false, .ref hB.objs.size, .ref hC.objs.size]) >>= _) _ _ { s with heap := hD }
 rw [e2, e3]
 refine Am4 (An8 ?_ (by size_fits))
 show wpAny _ _ (ret (.ref hD.objs.size)) _ _ { s with heap := hD.push (Y6 .none false (s.heap.objs.size + 2) (s.heap.objs.size + 3)) }
 rw [e4]
 have k5 : ∀ c o, hD.get? c = some o -> (hD.push (Y6 .none false (s.heap.objs.size + 2) (s.heap.objs.size + 3))).get? c = some o := λ c o e => Am5 _ e
 have g5 : (hD.push (Y6 .none false (s.heap.objs.size + 2) (s.heap.objs.size + 3))).get? (s.heap.objs.size + 4) = some (Y6 .none false (s.heap.objs.size + 2) (s.heap.objs.size + 3)) := by rw [← e4]; exact Anc _ rfl
 exact Am7 (h _ g5 (k5 _ _ (k4 _ _ g3)) (k5 _ _ g4) (k5 _ _ (k4 _ _ (k3 _ _ (k2 _ _ g1)))) (k5 _ _ (k4 _ _ (k3 _ _ g2))) λ c o e => k5 _ _ (k4 _ _ (k3 _ _ (k2 _ _ (k1 _ _ e)))))
theorem Aar (h1 : s.heap.get? l1 = some (t7 xs n1)) (h2 : s.heap.get? l2 = some (t7 ys n2))
  (h : ∀ h', h'.get? (s.heap.objs.size + 4) = some (Y6 .none false (s.heap.objs.size + 2) (s.heap.objs.size + 3)) -> h'.get? (s.heap.objs.size + 2) = some (Nj (.ref s.heap.objs.size) (.ref (s.heap.objs.size + 1))) -> h'.get? (s.heap.objs.size + 3) = some (Nj .none .none) ->
   h'.get? s.heap.objs.size = some (Ff l1 0) -> h'.get? (s.heap.objs.size + 1) = some (Ff l2 0) -> (∀ c o, s.heap.get? c = some o -> h'.get? c = some o) -> Q (.ref (s.heap.objs.size + 4)) { s with heap := h' }) :
  wpAny (model prog w) A (call (.type "zip") [.ref l1, .ref l2]) Q E s := by
 obtain ⟨c, tl, hmro⟩ := F.called_zip.mro
 have m1 := F.called_zip.made
 have m2 := F.called_zip.sub
 have m3 := F.called_zip.notType
 have m4 := F.called_zip.canCreate
 have m5 := F.typeCall_zip_2 (.ref l1) (.ref l2)
 refine Aqz (Aqg ?_)
 show wpAny _ _ (callAny (.type "zip") _) _ _ _
 refine Am7 ⟨Apx _ dkk, Aom Are ?_⟩
 rw [Ara (Aqm "zip" [.ref l1, .ref l2] []) rfl]
 repeat (any_goals (first | assumption | wp_step))
 refine Ao7 (Ads (E := E) (Q₁ := λ v s1 => v = .ref (s.heap.objs.size + 4) /\ ∃ h', s1 = { s with heap := h' } /\ h'.get? (s.heap.objs.size + 4) = some (Y6 .none false (s.heap.objs.size + 2) (s.heap.objs.size + 3)) /\ h'.get? (s.heap.objs.size + 2) = some (Nj (.ref s.heap.objs.size) (.ref (s.heap.objs.size + 1))) /\ h'.get? (s.heap.objs.size + 3) = some (Nj .none .none) /\
   h'.get? s.heap.objs.size = some (Ff l1 0) /\ h'.get? (s.heap.objs.size + 1) = some (Ff l2 0) /\ ∀ c o, s.heap.get? c = some o -> h'.get? c = some o) h1 h2 λ h' a1 a2 a3 a4 a5 a6 => ⟨rfl, h', rfl, a1, a2, a3, a4, a5, a6⟩) λ r s1 hr => ?_
 rcases r with e | f
 · exact hr
 cases f with
 |
  ret v =>
  obtain ⟨rfl, h', rfl, a1, a2, a3, a4, a5, a6⟩ := hr
  have hT : Shared.TypeIs { s with heap := h' } (.ref (s.heap.objs.size + 4)) "zip" := ⟨_, a1, rfl⟩
  have i1 := F.called_zip.init.lookup
  have i2 := F.called_zip.init.bind (.ref (s.heap.objs.size + 4))
  repeat (any_goals (first | assumption | wp_step))
  refine Ap5 F.called_zip.init.plain F.entry_object_init (F.called_zip.init.check _ _ _ _ _ _ _ _ hT (F.args_object_init_3 _ _ _) ?_)
  show wpAny _ _ (Builtin.«object.__init__» ⟨[.ref (s.heap.objs.size + 4), .ref l1, .ref l2], []⟩) _ _ _
  unfold Builtin.«object.__init__»
  wp_walk
  exact h h' a1 a2 a3 a4 a5 a6
 | _ => exact hr.elim
structure ZSt (N : Nat) (z TI TO i1 i2 l1 l2 : Addr) (xs ys : Array Value) (n1 n2 : TM) (h : Heap) (i : Nat) (ts : List Addr) : Prop where
 ti : h.get? TI = some (Nj (.ref i1) (.ref i2))
 a1 : h.get? i1 = some (Ff l1 i)
 a2 : h.get? i2 = some (Ff l2 i)
 b1 : h.get? l1 = some (t7 xs n1)
 b2 : h.get? l2 = some (t7 ys n2)
 fl : (∃ a0 b0, h.get? z = some (Y6 .none false TI TO) /\ h.get? TO = some (Nj a0 b0)) ∨ ∃ (T : Nat) (b : Bool), h.get? z = some (Y6 (rawInt (T : Int)) b TI TO) /\ T ∈ ts
 len : ts.length = i
 prs : ∀ (j : Nat) (T : Addr), ts[j]? = some T -> N <= T /\ ∃ x y, xs[j]? = some x /\ ys[j]? = some y /\ h.get? T = some (Nj x y)
structure ZAp (N : Nat) (z TI TO i1 i2 l1 l2 S : Addr) : Prop extends ZipApart z TI TO i1 i2 l1 l2 where
 lz : z < N
 lTI : TI < N
 lTO : TO < N
 li1 : i1 < N
 li2 : i2 < N
 ll1 : l1 < N
 ll2 : l2 < N
 lS : S < N
 Sz : S ≠ z
 STI : S ≠ TI
 STO : S ≠ TO
 Si1 : S ≠ i1
 Si2 : S ≠ i2
 Sl1 : S ≠ l1
 Sl2 : S ≠ l2
abbrev t6 (ts : List Addr) (c : Nat) : Obj := { cls := .type "list", data := .seq (ts.map Value.ref).toArray c }
theorem Acu {N : Nat} {z TI TO i1 i2 l1 l2 S : Addr} {xs ys : Array Value} {n1 n2 : TM} {R : Result -> Shared -> Prop} {res : Value} (hh : A.handled = none) (D : ZAp N z TI TO i1 i2 l1 l2 S) (hxy : xs.size = ys.size) (hsz : xs.size <= 1000) :
  ∀ (k i : Nat) (s : Shared) (ts : List Addr) (c : Nat), xs.size - i = k -> i <= xs.size -> ZSt N z TI TO i1 i2 l1 l2 xs ys n1 n2 s.heap i ts -> s.heap.get? S = some (t6 ts c) -> N <= s.heap.objs.size ->
   (∀ h' ts' c', (∀ b o, b ≠ z -> b ≠ TO -> b ≠ i1 -> b ≠ i2 -> b ≠ S -> s.heap.get? b = some o -> h'.get? b = some o) -> h'.get? S = some (t6 ts' c') -> ts'.length = xs.size -> (∀ (j : Nat) (T : Addr), ts'[j]? = some T -> N <= T /\ ∃ x y, xs[j]? = some x /\ ys[j]? = some y /\ h'.get? T = some (Nj x y)) -> R (.ok (.ret res)) { s with heap := h' }) ->
   codeAny (model prog w) A (.builtin "list.extend.loop" ⟨[.ref S, .ref z, res], []⟩) R s := by
 intro k
 induction k with
 |
  zero =>
  intro i s ts c hk hi Z hS hN hR
  have e : i = xs.size := by omega
  have hx : xs[i]? = none := by rw [Array.getElem?_eq_none_iff]; omega
  refine Aom F.entry_extend_loop ?_
  rw [Ao0 Aq0 _]
  show wpAny _ A.in1 (pyNext (.ref z) >>= _) _ _ s
  have fin : ∀ h', (∀ c o, c ≠ z -> c ≠ i1 -> s.heap.get? c = some o -> h'.get? c = some o) -> R (.ok (.ret res)) { s with heap := h' } := λ h' kp =>
   hR h' ts c (λ b o q1 q2 q3 q4 q5 e => kp b o q1 q3 e) (kp _ _ D.Sz D.Si1 hS) (by rw [Z.len]; exact e) λ j T hj => by
    obtain ⟨p1, x, y, p2, p3, p4⟩ := Z.prs j T hj
    exact ⟨p1, x, y, p2, p3, kp _ _ (λ q => absurd D.lz (Aq3.mpr (q ▸ p1))) (λ q => absurd D.li1 (Aq3.mpr (q ▸ p1))) p4⟩
  rcases Z.fl with ⟨a0, b0, f1, f2⟩ | ⟨T, b, f1, f2⟩
  · exact Am4 (Ac2 (A := A.in1) hh D.toZipApart f1 Z.ti Z.a1 Z.b1 hx λ h' kp => Am7 (fin h' kp))
  ·
   obtain ⟨j, hj⟩ := Aob f2
   obtain ⟨_, x, y, _, _, p4⟩ := Z.prs j T hj
   exact Am4 (Adh (A := A.in1) hh D.toZipApart f1 Z.ti p4 Z.a1 Z.b1 hx λ h' kp => Am7 (fin h' kp))
 |
  succ k ih =>
  intro i s ts c hk hi Z hS hN hR
  have hlt : i < xs.size := by omega
  have hx : xs[i]? = some xs[i] := An0 hlt
  have hy : ys[i]? = some (ys[i]'dkm) := An0 dkm
  generalize xs[i] = x at hx
  generalize ys[i]'dkm = y at hy
  refine Aom F.entry_extend_loop ?_
  rw [Ao0 Aq0 _]
  show wpAny _ A.in1 (pyNext (.ref z) >>= _) _ _ s
  have nn : ∀ {b : Addr}, b < N -> b ≠ s.heap.objs.size := λ h e => absurd (Anv h hN) (by rw [e]; exact Aor _)
  have nT : ∀ {b T : Addr}, b < N -> N <= T -> T ≠ b := λ h1 h2 e => absurd h1 (Aq3.mpr (e ▸ h2))
  have old : ∀ {T : Addr}, T ∈ ts -> N <= T /\ ∃ o, s.heap.get? T = some o := λ h => by
   obtain ⟨j, hj⟩ := Aob h
   obtain ⟨p1, _, _, _, _, p4⟩ := Z.prs j _ hj
   exact ⟨p1, _, p4⟩
  have go : ∀ (h' : Heap), ((∃ (T : Nat) (b : Bool), h'.get? z = some (Y6 (rawInt (T : Int)) b TI TO) /\ T ∈ ts ++ [s.heap.objs.size])) -> h'.get? i1 = some (Ff l1 (i + 1)) -> h'.get? i2 = some (Ff l2 (i + 1)) -> h'.get? s.heap.objs.size = some (Nj x y) -> s.heap.objs.size <= h'.objs.size -> (∀ c o, c ≠ z -> c ≠ TO -> c ≠ i1 -> c ≠ i2 -> s.heap.get? c = some o -> h'.get? c = some o) ->
    wpAny (model prog w) A.in1 (do Builtin.List.listUpdate (.ref S) (λ q => q.push (.ref s.heap.objs.size)); again (.builtin "list.extend.loop" ⟨[.ref S, .ref z, res], []⟩)) (λ fin s' => match fin with
      | .done f => R (.ok f) s'
      | .again c' => c'.quiet = true /\ codeAny (model prog w) A c' R s') (λ e s' => R (.error e) s') { s with heap := h' } := λ h' hf g1 g2 g3 gs kp => by
   have hS' : h'.get? S = some (t6 ts c) := kp _ _ D.Sz D.STO D.Si1 D.Si2 hS
   refine Am4 (listUpdate_at (s := { s with heap := h' }) hS' rfl ?_ (by simp only [Anl, Am9]; rw [Z.len]; exact Anb (by omega : i <= 1000) dkd) (by simp only [Array.size_push, Anl, Am9]; rw [Z.len]; exact Anb (by omega : i + 1 <= 1000) dkd))
   have sU : Heap.SameBut S h' (h'.update S (Obj.mapSeq λ q => q.push (.ref s.heap.objs.size))) := Anp ..
   have gU : (h'.update S (Obj.mapSeq λ q => q.push (.ref s.heap.objs.size))).get? S = some (t6 (ts ++ [s.heap.objs.size]) (c + 1)) := by
    refine (Anq _ hS' rfl).trans ?_
    simp [Obj.mapSeq, t6]
   generalize h'.update S (Obj.mapSeq λ q => q.push (.ref s.heap.objs.size)) = hU at *
   refine Am7 ⟨Aqf Aq0 _, ih (i + 1) { s with heap := hU } (ts ++ [s.heap.objs.size]) (c + 1) dkm hlt ?_ gU (by show N <= hU.objs.size; rw [sU.1]; exact Anb hN gs) λ h2 ts' c' kp2 q1 q2 q3 => ?_⟩
   ·
    have up : ∀ {b : Addr} {o : Obj}, b ≠ z -> b ≠ TO -> b ≠ i1 -> b ≠ i2 -> b ≠ S -> s.heap.get? b = some o -> hU.get? b = some o := λ n1 n2 n3 n4 n5 e => (sU.2 _ n5).trans (kp _ _ n1 n2 n3 n4 e)
    refine ⟨up D.TIz D.TITO D.TIi1 D.TIi2 D.STI.symm Z.ti, (sU.2 _ D.Si1.symm).trans g1, (sU.2 _ D.Si2.symm).trans g2, up D.l1z D.l1TO D.l1i1 D.l1i2 D.Sl1.symm Z.b1, up D.l2z D.l2TO D.l2i1 D.l2i2 D.Sl2.symm Z.b2, ?_, by rw [Anj, Z.len]; rfl, λ j T hj => ?_⟩
    ·
     obtain ⟨T, b, f1, f2⟩ := hf
     exact .inr ⟨T, b, (sU.2 _ D.Sz.symm).trans f1, f2⟩
    ·
     by_cases hj' : j < ts.length
     ·
      rw [Aqy hj'] at hj
      obtain ⟨p1, x', y', p2, p3, p4⟩ := Z.prs j T hj
      exact ⟨p1, x', y', p2, p3, up (nT D.lz p1) (nT D.lTO p1) (nT D.li1 p1) (nT D.li2 p1) (nT D.lS p1) p4⟩
     ·
      rw [Aqs dkm] at hj
      have hj2 : j - ts.length = 0 := by
       have := (Ang.mp hj).1
       simp at this
       omega
      rw [hj2] at hj
      cases hj
      have : j = i := by rw [← Z.len]; omega
      subst this
      exact ⟨hN, x, y, hx, hy, (sU.2 _ (nn D.lS).symm).trans g3⟩
   · exact hR h2 ts' c' (λ b o n1 n2 n3 n4 n5 e => kp2 b o n1 n2 n3 n4 n5 ((sU.2 _ n5).trans (kp _ _ n1 n2 n3 n4 e))) q1 q2 q3
  rcases Z.fl with ⟨a0, b0, f1, f2⟩ | ⟨T, b, f1, f2⟩
  · exact Am4 (Abq (A := A.in1) D.toZipApart f1 Z.ti f2 Z.a1 Z.a2 Z.b1 Z.b2 hx hy λ h' o g0 g1 g2 g3 g4 kp => go h' ⟨_, _, g0, Ant _ (List.mem_singleton.mpr rfl)⟩ g2 g3 g4 (Apj (Ana g4)) kp)
  ·
   obtain ⟨p1, oT, p4⟩ := old f2
   exact Am4 (Abv (A := A.in1) D.toZipApart f1 Z.ti p4 Z.a1 Z.a2 Z.b1 Z.b2 hx hy λ h' g0 g2 g3 g4 kp => go h' ⟨T, true, g0, Apd _ f2⟩ g2 g3 g4 (Apj (Ana g4)) λ c o n1 n2 n3 n4 e => kp c o n1 n3 n4 e)
def yp : typeLookup (.type "zip") (Str.ofString "__len__") = pure none := by rw [Ary, Aqn]; kernel_rfl
def ud : typeLookup (.type "zip") (Str.ofString "__length_hint__") = pure none := by rw [Ary, Aqn]; kernel_rfl
def Ad5 (hT : s.TypeIs (.ref z) "zip") (h : Q true s) : wpAny (model prog w) A (Builtin.List.listLengthHint (.ref z)) Q E s := by
 unfold Builtin.List.listLengthHint
 refine Am4 (Arw hT yp ?_)
 refine Apm (λ q => absurd q dkk) (λ _ => ?_)
 refine Apm (λ q => absurd q dkd) (λ _ => ?_)
 refine Am4 (Arw hT ud ?_)
 exact Am7 h
theorem yx {z TI TO i1 i2 l1 l2 : Addr} {xs ys : Array Value} {n1 n2 : TM} {Q : Value -> Shared -> Prop} (hh : A.handled = none) (D : ZipApart z TI TO i1 i2 l1 l2) (hxy : xs.size = ys.size) (hsz : xs.size <= 1000)
  (hz : s.heap.get? z = some (Y6 .none false TI TO)) (hTO : s.heap.get? TO = some (Nj .none .none)) (ti : s.heap.get? TI = some (Nj (.ref i1) (.ref i2))) (a1 : s.heap.get? i1 = some (Ff l1 0)) (a2 : s.heap.get? i2 = some (Ff l2 0)) (b1 : s.heap.get? l1 = some (t7 xs n1)) (b2 : s.heap.get? l2 = some (t7 ys n2))
  (h : ∀ h' ts c, (∀ b o, b ≠ z -> b ≠ TO -> b ≠ i1 -> b ≠ i2 -> s.heap.get? b = some o -> h'.get? b = some o) -> h'.get? s.heap.objs.size = some (t6 ts c) -> ts.length = xs.size -> (∀ (j : Nat) (T : Addr), ts[j]? = some T -> s.heap.objs.size <= T /\ ∃ x y, xs[j]? = some x /\ ys[j]? = some y /\ h'.get? T = some (Nj x y)) -> Q (.ref s.heap.objs.size) { s with heap := h' }) :
  wpAny (model prog w) A (call (.type "list") [.ref z]) Q E s := by
 obtain ⟨c, tl, hmro⟩ := F.called_list.mro
 have m1 := F.called_list.made
 have m2 := F.called_list.sub
 have m3 := F.called_list.notType
 have m4 := F.called_list.canCreate
 have m5 := F.typeCall_list_1 (.ref z)
 refine Aqz (Aqg ?_)
 show wpAny _ _ (callAny (.type "list") _) _ _ _
 refine Am7 ⟨Apx _ dkk, Aom Are ?_⟩
 rw [Ara (Aqm "list" [.ref z] []) rfl]
 repeat (any_goals (first | assumption | wp_step))
 refine Ao7 (code_list_new (.ref z) (E := E) (Q₁ := λ v s1 => v = .ref s.heap.objs.size /\ s1 = { s with heap := s.heap.push (t6 [] 0) }) ⟨rfl, rfl⟩) λ r s1 hr => ?_
 rcases r with e | f
 · exact hr
 cases f with
 |
  ret v =>
  obtain ⟨rfl, rfl⟩ := hr
  have hS : (s.heap.push (t6 [] 0)).get? s.heap.objs.size = some (t6 [] 0) := Anc _ rfl
  have kp0 : ∀ b o, s.heap.get? b = some o -> (s.heap.push (t6 [] 0)).get? b = some o := λ b o e => Am5 _ e
  have sz0 : (s.heap.push (t6 [] 0)).objs.size = s.heap.objs.size + 1 := Aod ..
  generalize s.heap.push (t6 [] 0) = hA at *
  have hT : Shared.TypeIs { s with heap := hA } (.ref s.heap.objs.size) "list" := ⟨_, hS, rfl⟩
  have i1' := F.called_list.init.lookup
  have i2' := F.called_list.init.bind (.ref s.heap.objs.size)
  repeat (any_goals (first | assumption | wp_step))
  refine Ao7 (Ap5 (R := wants (λ r s2 => r = .none /\ ∃ h' ts c, s2 = { s with heap := h' } /\ (∀ b o, b ≠ z -> b ≠ TO -> b ≠ i1 -> b ≠ i2 -> s.heap.get? b = some o -> h'.get? b = some o) /\ h'.get? s.heap.objs.size = some (t6 ts c) /\ ts.length = xs.size /\ (∀ (j : Nat) (T : Addr), ts[j]? = some T -> s.heap.objs.size <= T /\ ∃ x y, xs[j]? = some x /\ ys[j]? = some y /\ h'.get? T = some (Nj x y))) E) F.called_list.init.plain F.entry_list_init (F.called_list.init.check _ _ _ _ _ _ _ _ hT (F.args_list_init_2 _ _) ?_)) λ r2 s2 h2 => ?_
  ·
   show wpAny _ A.in1.in1 (Builtin.«list.__init__» ⟨[.ref s.heap.objs.size, .ref z], []⟩) _ _ _
   unfold Builtin.«list.__init__»
   generalize hLE : Builtin.List.listExtendWith = LE
   wp_walk
   subst hLE
   have sB : Heap.SameBut s.heap.objs.size hA (hA.update s.heap.objs.size (Obj.mapSeq λ x => #[])) := Anp ..
   obtain ⟨cB, gB⟩ : ∃ c, (hA.update s.heap.objs.size (Obj.mapSeq λ x => #[])).get? s.heap.objs.size = some (t6 [] c) := ⟨_, Anq _ hS rfl⟩
   generalize hA.update s.heap.objs.size (Obj.mapSeq λ x => #[]) = hB at *
   have kpB : ∀ b o, s.heap.get? b = some o -> hB.get? b = some o := λ b o e => (sB.2 _ (Anm (Ana e))).trans (kp0 _ _ e)
   have hzS : s.heap.objs.size ≠ z := Aos (Ana hz)
   unfold Builtin.List.listExtendWith
   refine Am4 (Aq8 (T := "zip") ⟨_, kpB _ _ hz, rfl⟩ ?_)
   have e1 : Builtin.List.listSameRef (.ref s.heap.objs.size) (.ref z) = false := by simp [Builtin.List.listSameRef, hzS]
   have e2 : (Value.type "zip" == Value.type "list") = false := by decide
   have e3 : (Value.type "zip" == Value.type "tuple") = false := by decide
   simp only [e1, e2, e3, Bool.or_false, Bool.false_eq_true, if_false]
   refine Am4 (wpAny_pyIter_zip (s := { s with heap := hB }) (TI := TI) (TO := TO) (f0 := .none) (kpB _ _ hz) ?_)
   refine Am4 (Aou (Ad5 (s := { s with heap := hB }) ⟨_, kpB _ _ hz, rfl⟩ ?_))
   refine Apm (λ _ => ?_) (λ q => absurd (by rw [Ark]) q)
   refine Am4 (Aqk (Am4 ?_))
   show wpAny _ _ (updateSeq s.heap.objs.size (·.push .none) >>= λ _ => updateSeq s.heap.objs.size (·.pop)) _ _ { s with heap := hB }
   refine Am4 (Aqe (s := { s with heap := hB }) gB rfl ?_)
   have g2 := Anq (Obj.mapSeq (·.push Value.none)) gB rfl
   have s2 : Heap.SameBut s.heap.objs.size hB (hB.update s.heap.objs.size (Obj.mapSeq (·.push Value.none))) := Anp ..
   generalize hB.update s.heap.objs.size (Obj.mapSeq (·.push Value.none)) = hC at *
   refine Aqe (s := { s with heap := hC }) (hz := by seq_fits) g2 rfl ?_
   obtain ⟨cD, g3⟩ : ∃ c, (hC.update s.heap.objs.size (Obj.mapSeq (·.pop))).get? s.heap.objs.size = some (t6 [] c) := ⟨_, Anq _ g2 rfl⟩
   have s3 : Heap.SameBut s.heap.objs.size hC (hC.update s.heap.objs.size (Obj.mapSeq (·.pop))) := Anp ..
   generalize hC.update s.heap.objs.size (Obj.mapSeq (·.pop)) = hD at *
   have kpD : ∀ b o, s.heap.get? b = some o -> hD.get? b = some o := λ b o e => (s3.2 _ (Anm (Ana e))).trans ((s2.2 _ (Anm (Ana e))).trans (kpB _ _ e))
   have szD : hD.objs.size = s.heap.objs.size + 1 := by rw [s3.1, s2.1, sB.1, sz0]
   have lt : ∀ {b : Addr} {o : Obj}, s.heap.get? b = some o -> b < s.heap.objs.size + 1 := λ e => Ao1 (Ana e)
   have ne : ∀ {b : Addr} {o : Obj}, s.heap.get? b = some o -> s.heap.objs.size ≠ b := λ e => Aos (Ana e)
   refine Am7 ⟨Aqf Aq0 _, Acu (N := s.heap.objs.size + 1) (A := A.in1) hh ⟨D, lt hz, lt ti, lt hTO, lt a1, lt a2, lt b1, lt b2, Aoq _, ne hz, ne ti, ne hTO, ne a1, ne a2, ne b1, ne b2⟩ hxy hsz xs.size 0 { s with heap := hD } [] cD rfl (Aon _) ⟨kpD _ _ ti, kpD _ _ a1, kpD _ _ a2, kpD _ _ b1, kpD _ _ b2, .inl ⟨_, _, kpD _ _ hz, kpD _ _ hTO⟩, rfl, λ j T hj => nomatch hj⟩ g3 (by show _ <= hD.objs.size; rw [szD]; exact Anh _) λ h' ts' c' kp q1 q2 q3 => ?_⟩
   exact ⟨rfl, h', ts', c', rfl, λ b o n1 n2 n3 n4 e => kp b o n1 n2 n3 n4 (Anm (Ana e)) (kpD _ _ e), q1, q2, λ j T hj => let ⟨p1, p2⟩ := q3 j T hj; ⟨Nat.le_of_succ_le p1, p2⟩⟩
  ·
   rcases r2 with e | f2
   · exact h2
   cases f2 with
   |
    ret r =>
    obtain ⟨rfl, h', ts, c', rfl, q1, q2, q3, q4⟩ := h2
    repeat (any_goals (first | assumption | wp_step))
    exact h h' ts c' q1 q2 q3 q4
   | _ => exact h2.elim
 | _ => exact hr.elim
def Ac1 (I : Inv X pins σ H s) (k : ∀ b u, s.heap.get? b = some u -> h'.get? b = some u) (hS : s.heap.objs.size <= S)
  (hSo : h'.get? S = some (t6 (rs.map (·.1)) c)) (hz : rs.length <= sizeLine) (hr : ∀ x ∈ rs, s.heap.objs.size <= x.1 /\ ∃ t u, h'.get? x.1 = some (Nj (.int x.2.1 t) (.int x.2.2 u))) :
  ∃ H', Inv X pins σ H' { s with heap := h' } /\ Same H H' /\ H' S = some (.lst (refs rs)) /\ RowOk H' rs := by
 let H' : Hp := λ b => if b = S then some (.lst (refs rs)) else match rs.find? λ x => decide (x.1 = b) with
  | some x => some (.tup [.int x.2.1, .int x.2.2])
  | none => H b
 have hs : H' S = some (.lst (refs rs)) := if_pos rfl
 have hnS : ∀ x ∈ rs, x.1 ≠ S := λ x hx e => by
  obtain ⟨_, t, u, h1⟩ := hr x hx
  rw [e, hSo] at h1
  have h1 := Apw Obj.cls (An7 h1)
  simp at h1
 have hrow : ∀ x ∈ rs, H' x.1 = some (.tup [.int x.2.1, .int x.2.2]) := λ x hx => by
  show (if x.1 = S then _ else _) = _
  rw [if_neg (hnS x hx)]
  cases hf : rs.find? λ y => decide (y.1 = x.1) with
  | none => exact absurd (Am6 (rfl : x.1 = x.1)) (List.find?_eq_none.mp hf x hx)
  |
   some y =>
   have e : y.1 = x.1 := Am8 (by simpa using List.find?_some hf)
   obtain ⟨_, t, u, h1⟩ := hr y (Aqx hf)
   obtain ⟨_, t', u', h2⟩ := hr x hx
   rw [e, h2] at h1
   simp only [Ar1, Obj.mk.injEq, Data.seq.injEq, Array.mk.injEq, List.cons.injEq, Value.int.injEq, and_true, true_and] at h1
   show some (HO.tup [.int y.2.1, .int y.2.2]) = _
   rw [h1.1.1, h1.2.1]
 have hold : ∀ b, b < s.heap.objs.size -> H' b = H b := λ b hb => by
  show (if b = S then _ else _) = _
  rw [if_neg (Anm (Anv hb hS))]
  cases hf : rs.find? λ y => decide (y.1 = b) with
  | none => rfl
  |
   some y =>
   have e : y.1 = b := Am8 (by simpa using List.find?_some hf)
   have := (hr y (Aqx hf)).1
   rw [e] at this
   exact absurd hb (Aq3.mpr this)
 have hsame : Same H H' := λ b u e => by rw [hold b (I.hok.lt e)]; exact e
 have hcase : ∀ b u, H' b = some u -> H b = some u ∨ (b = S /\ u = .lst (refs rs)) ∨ ∃ x ∈ rs, x.1 = b /\ u = .tup [.int x.2.1, .int x.2.2] := λ b u e => by
  by_cases hb : b = S
  ·
   subst hb
   rw [hs] at e
   cases e
   exact .inr (.inl ⟨rfl, rfl⟩)
  ·
   have e' : (match rs.find? λ x => decide (x.1 = b) with
    | some x => some (HO.tup [.int x.2.1, .int x.2.2])
    | none => H b) = some u := by
    have : H' b = _ := if_neg hb
    rw [this] at e
    exact e
   cases hf : rs.find? λ y => decide (y.1 = b) with
   | none => rw [hf] at e'; exact .inl e'
   |
    some y =>
    rw [hf] at e'
    cases e'
    exact .inr (.inr ⟨y, Aqx hf, Am8 (by simpa using List.find?_some hf), rfl⟩)
 have hok : HOk X.prog X.w H' h' := λ b u e => by
  rcases hcase b u e with e | ⟨rfl, rfl⟩ | ⟨x, hx, rfl, rfl⟩
  · exact (I.hok b u e).stay (λ c v _ q => k c v q) (λ _ q => hsame _ _ q) λ _ _ q => hsame _ _ q
  ·
   refine ⟨by rw [Qi]; exact hz, (rs.map (·.1)).map Value.ref, c, ?_, hSo⟩
   refine Vals.of_get (by rw [Qi, Am9, Am9]) λ j x u a b => ?_
   obtain ⟨y, hy, _, rfl⟩ := l8 a
   rw [Anu, Anu, hy] at b
   cases b
   rfl
  ·
   obtain ⟨_, t, u, h1⟩ := hr x hx
   exact ⟨by show 2 <= sizeLine; decide, [.int x.2.1 t, .int x.2.2 u], .cons ⟨t, rfl⟩ (.cons ⟨u, rfl⟩ .nil), ⟨_, h1, rfl, _, rfl⟩⟩
 refine ⟨H', I.un (t' := s.toks) ⟨λ b u q _ _ _ => k b u q, λ b u q _ _ _ => ⟨u.slots, k b u q⟩, λ b u q n _ => by rw [hold b (Ana q)]; exact n, λ b u q _ => ⟨u, k b u q⟩, λ b ys q => hsame _ _ q, λ b o u q => hsame _ _ q, λ b ps q => ⟨#[], by rw [hsame _ _ q]; simp⟩⟩ hok, hsame, hs, hrow⟩
def Aj2 (K : W.Frag) (ta : TA) : TE := λ σ H Q => ta σ H λ vs H1 => ∃ (l1 l2 : Addr) (xs ys : List Int), vs = [.ref l1, .ref l2] /\ SqT K H1 l1 (xs.map V.int) /\ SqT K H1 l2 (ys.map V.int) /\ xs.length = ys.length /\ xs.length <= 1000 /\
 ∀ (L : Addr) H' (rs : List RA), Same H1 H' -> H' L = some (.lst (refs rs)) -> RowOk H' rs -> sps rs = xs.zip ys -> Q (.ref L) H'
theorem ym {X : Cx} {K : W.Frag} {a b : Expr} {ta : TA} {p pos p2 pos2 : Pos} (hK : X.K = K) (hc : X.calm = true) (hgl : Gl X "list") (hml : X.mg "list" = none) (hg : Gl X "zip") (hm : X.mg "zip" = none) (ha : PA X [a, b] ta)
  (hs : starEach [a, b] X.env = [(false, eval a X.env), (false, eval b X.env)] := by rfl) (hs2 : starEach [b] X.env = [(false, eval b X.env)] := by rfl)
  (hs3 : starEach [.Call (.Name "zip" p2) [a, b] [] pos2] X.env = [(false, eval (.Call (.Name "zip" p2) [a, b] [] pos2) X.env)] := by rfl) :
  PE X (.Call (.Name "list" p) [.Call (.Name "zip" p2) [a, b] [] pos2] [] pos) (Aj2 K ta) := by
 subst hK
 intro pins s σ H Q I h
 refine Ao8 (di I hgl hml boot_list ?_)
 refine Apa ?_ (by rw [hs3]; rfl) (by rfl)
 rw [hs3]
 show wpAny _ _ (spliced [(false, eval (.Call (.Name "zip" p2) [a, b] [] pos2) X.env)]) _ _ s
 refine Calls.spliced_cons (Ao8 (di I hg hm boot_zip (Apa (thn (ha pos2 pins s σ H _ I h) λ us s1 ⟨vs, H1, I1, r1, q1⟩ => ?_) (by rw [hs, hs2]) (by rw [hs2]; rfl))))
 obtain ⟨l1, l2, xs, ys, rfl, hq1, hq2, hl, hz, q⟩ := q1
 cases r1 with
 |
  cons r rr =>
  cases rr with
  |
   cons r' rr =>
   cases rr
   cases r
   cases r'
   obtain ⟨its1, rv1, p1, hz1⟩ := I1.tuple hq1
   obtain ⟨its2, rv2, p2, hz2⟩ := I1.tuple hq2
   obtain ⟨⟨c1, d1, s1', sl1⟩, ho1, hc1, n1, hd1⟩ := p1
   obtain ⟨⟨c2, d2, s2', sl2⟩, ho2, hc2, n2, hd2⟩ := p2
   simp only at hc1 hd1 hc2 hd2
   subst hc1 hd1 hc2 hd2
   have k1 := rv1.length
   have k2 := rv2.length
   rw [Am9] at k1 k2
   have lt1 : l1 < s1.heap.objs.size := Ana ho1
   have lt2 : l2 < s1.heap.objs.size := Ana ho2
   refine Aar (n1 := (n1, d1, sl1)) (n2 := (n2, d2, sl2)) ho1 ho2 λ h' g1 g2 g3 g4 g5 kp => Calls.spliced_nil ?_
   refine yx (s := { s1 with heap := h' }) (xs := its1.toArray) (ys := its2.toArray) (n1 := (n1, d1, sl1)) (n2 := (n2, d2, sl2)) (I1.ok.hd hc) (zipApart_new lt1 lt2) (by rw [Anl, Anl]; omega) (by rw [Anl]; omega) g1 g3 g2 g4 g5 (kp _ _ ho1) (kp _ _ ho2) λ h2 ts c kp2 q1 q2 q3 => ?_
   have hn : s1.heap.objs.size + 4 < h'.objs.size := Ana g1
   obtain ⟨rs, e1, e2, e3⟩ : ∃ rs : List RA, rs.map (·.1) = ts /\ sps rs = xs.zip ys /\ ∀ x ∈ rs, h'.objs.size <= x.1 /\ ∃ t u, h2.get? x.1 = some (Nj (.int x.2.1 t) (.int x.2.2 u)) := by
    have hlen : ts.length = (xs.zip ys).length := by rw [q2, Anl, List.length_zip]; omega
    refine ⟨ts.zip (xs.zip ys), List.map_fst_zip dkm, List.map_snd_zip dkm, λ x hx => ?_⟩
    obtain ⟨j, hj⟩ := Aob hx
    rw [List.getElem?_zip_eq_some] at hj
    obtain ⟨hj1, hj2⟩ := hj
    rw [List.getElem?_zip_eq_some] at hj2
    obtain ⟨p1, a1, a2, b1, b2, b3⟩ := q3 j _ hj1
    refine ⟨p1, ?_⟩
    obtain ⟨u1, hu1, ru1⟩ := rv1.get (show (xs.map V.int)[j]? = some (.int x.2.1) by rw [Anu, hj2.1]; rfl)
    obtain ⟨u2, hu2, ru2⟩ := rv2.get (show (ys.map V.int)[j]? = some (.int x.2.2) by rw [Anu, hj2.2]; rfl)
    obtain ⟨t, rfl⟩ := ru1
    obtain ⟨u, rfl⟩ := ru2
    have b1' : its1[j]? = some a1 := by simpa using b1
    have b2' : its2[j]? = some a2 := by simpa using b2
    rw [hu1] at b1'
    rw [hu2] at b2'
    cases b1'
    cases b2'
    exact ⟨t, u, b3⟩
   have kp3 : ∀ b o, s1.heap.get? b = some o -> h2.get? b = some o := λ b o e => by
    have hb := Ana e
    have ne : ∀ i, b ≠ s1.heap.objs.size + i := λ i z => by rw [z] at hb; exact absurd hb (Aq3.mpr (Arb _ _))
    exact kp2 b o (ne 4) (ne 3) (ne 0) (ne 1) (kp b o e)
   have hge : s1.heap.objs.size <= h'.objs.size := Apj (Aox (Arb _ _) hn)
   have hrl : rs.length <= sizeLine := by
    rw [← Nc, e2, List.length_zip]
    exact Anb (by omega : _ <= 1000) dkd
   obtain ⟨H', I2, sm, hL, hok⟩ := Ac1 I1 kp3 hge (by rw [e1]; exact q1) hrl λ x hx => let ⟨p, r⟩ := e3 x hx; ⟨Anb hge p, r⟩
   exact ⟨.ref h'.objs.size, H', I2, rfl, q _ H' rs sm hL hok e2⟩
end L2
namespace L2
open PySem PySem.Spec PyProof.Rows PySem.Calls PySem.SeqAt
variable {X : Cx}
def Aj8 (K : W.Frag) (n : Nat) (t : TGs) : TG := λ v σ H Q => ∃ a xs, v = .ref a /\ SqL K H a xs /\ xs.length = n /\ t xs σ H Q
def Ago (hc : X.calm = true) (h : PGs X es t)
  (hn : (assignEach es X.env).length = n := by rfl) (hst : (assignEach es X.env).findIdx? (·.1) = none := by rfl) : PG X (.Tuple es k pos) (Aj8 X.K n t) := by
 intro pins s σ H v u Q I r ⟨a, xs, e1, hq, hl, hw⟩
 subst e1
 cases r
 obtain ⟨its, rv, pl, hz⟩ := I.list hq
 rw [assign_Tuple]
 refine Am4 (wpAny_standAt ?_)
 unfold unpack
 rw [hst, show (assignEach es X.env).length = its.toArray.size by rw [Anl, ← rv.length, hl, hn]]
 refine Am4 (Aou (W.kun_itemsOf (I.ok.hd hc) pl.isList λ h' hx => ?_))
 have I1 : Inv X pins σ H { s with heap := h' } := I.kept (t' := s.toks) λ b o e => hx b o (Anm (Ana e)) e
 exact h pins _ σ H xs _ Q I1 (by simpa using rv) hw
end L2
namespace L2
open PySem PySem.Spec PyProof.Rows
abbrev AtM (K : W.Frag) (n : Str) (f : Addr) : Prop := W.nsIn K mainGlobals n = some (some (.ref f))
abbrev AtC (K : W.Frag) (x : Addr) (n : Str) (f : Addr) : Prop := W.findIn K (.ref x) n = some (some (.ref f))
abbrev NoA (K : W.Frag) (x : Addr) (n : Str) : Prop := W.findIn K (.ref x) n = some none
abbrev IsF (K : W.Frag) (f : Addr) : Prop := W.isFn K (.ref f) = true
abbrev NoM (K : W.Frag) (n : Str) : Prop := W.nsIn K mainGlobals n = some none
def Fun.b1 {K : W.Frag} {x qual : Str} {st : Stmt} {f : Addr} {fd : FuncData} {p1 : Str} (F : Fun K x qual st f fd) (h : ∀ (u1 : Value) (kV doc pm : Value) (an : Option Addr) (cdv ct : Value), bindArgs (W.fnOf x qual (Bc st) (Ay st) (Ah st) .none kV doc pm an cdv ct) ⟨[u1], []⟩ = pure [(p1, u1)]) : Binds K fd [p1] [] := F.binds λ a b c d e g us hl => match us, hl with | [u1], _ => h u1 a b c d e g
def Fun.b2 {K : W.Frag} {x qual : Str} {st : Stmt} {f : Addr} {fd : FuncData} {p1 p2 : Str} (F : Fun K x qual st f fd) (h : ∀ (u1 u2 : Value) (kV doc pm : Value) (an : Option Addr) (cdv ct : Value), bindArgs (W.fnOf x qual (Bc st) (Ay st) (Ah st) .none kV doc pm an cdv ct) ⟨[u1, u2], []⟩ = pure [(p1, u1), (p2, u2)]) : Binds K fd [p1, p2] [] := F.binds λ a b c d e g us hl => match us, hl with | [u1, u2], _ => h u1 u2 a b c d e g
def Fun.b3 {K : W.Frag} {x qual : Str} {st : Stmt} {f : Addr} {fd : FuncData} {p1 p2 p3 : Str} (F : Fun K x qual st f fd) (h : ∀ (u1 u2 u3 : Value) (kV doc pm : Value) (an : Option Addr) (cdv ct : Value), bindArgs (W.fnOf x qual (Bc st) (Ay st) (Ah st) .none kV doc pm an cdv ct) ⟨[u1, u2, u3], []⟩ = pure [(p1, u1), (p2, u2), (p3, u3)]) : Binds K fd [p1, p2, p3] [] := F.binds λ a b c d e g us hl => match us, hl with | [u1, u2, u3], _ => h u1 u2 u3 a b c d e g
def Fun.b4 {K : W.Frag} {x qual : Str} {st : Stmt} {f : Addr} {fd : FuncData} {p1 p2 p3 p4 : Str} (F : Fun K x qual st f fd) (h : ∀ (u1 u2 u3 u4 : Value) (kV doc pm : Value) (an : Option Addr) (cdv ct : Value), bindArgs (W.fnOf x qual (Bc st) (Ay st) (Ah st) .none kV doc pm an cdv ct) ⟨[u1, u2, u3, u4], []⟩ = pure [(p1, u1), (p2, u2), (p3, u3), (p4, u4)]) : Binds K fd [p1, p2, p3, p4] [] := F.binds λ a b c d e g us hl => match us, hl with | [u1, u2, u3, u4], _ => h u1 u2 u3 u4 a b c d e g
end L2
namespace DN
open DF
def No (r : Rl) (b c : Int) : Prop := ∀ k, b <= k -> k < c -> fl r k = false
def v7 (ok : Ok r) (h : fl r d = true) : 0 <= d /\ d < 146097 := by
 by_cases hd : d < 0 ∨ 146097 <= d
 · rw [Zh ok hd] at h; cases h
 · omega
def No.stop (ok : Ok r) (h : No r b c) (hc : e <= c ∨ 146097 <= c) : No r b e := λ k h1 h2 => by
 by_cases hk : k < c
 · exact h k h1 hk
 · exact Zh ok dkm
def No.step (h : No r b c) (hc : fl r c = false) : No r b (c + 1) := λ k h1 h2 => by
 by_cases hk : k < c
 · exact h k h1 hk
 · rw [show k = c by omega]; exact hc
def xf (st fi B : Int) (hs : 1 <= st) : B <= B + (fi - B) % st /\ (B + (fi - B) % st - fi) % st = 0 /\ ∀ k, B <= k -> k < B + (fi - B) % st -> (k - fi) % st ≠ 0 := by
 have h0 := Anz (fi - B) (by omega : st ≠ 0)
 have h1 := Anw (fi - B) (by omega : 0 < st)
 have hd : st ∣ (fi - B) - (fi - B) % st := Int.dvd_self_sub_emod
 refine ⟨dkm, ?_, λ k k1 k2 hk => ?_⟩
 ·
  obtain ⟨q, hq⟩ := hd
  exact Aq7 ⟨-q, by rw [Int.mul_neg, ← hq]; omega⟩
 ·
  obtain ⟨q, hq⟩ := hd
  obtain ⟨p, hp⟩ := Apl hk
  have e : k - B = (fi - B) % st + st * (q + p) := by rw [Int.mul_add]; omega
  have hlt : k - B < (fi - B) % st := by omega
  have : st * (q + p) < 0 := by omega
  have hneg : q + p <= -1 := by
   by_cases z : 0 <= q + p
   · have := Int.mul_nonneg (by omega : 0 <= st) z; omega
   · omega
  have : st * (q + p) <= st * (-1) := Ao6 hneg dkm
  omega
def Aal (ok : Ok (.ev st fi)) (hB : B = if fi > b then fi else b) : (B + (fi - B) % st < (if 146097 < e then 146097 else e) -> (b <= B + (fi - B) % st /\ B + (fi - B) % st < e /\ fl (.ev st fi) (B + (fi - B) % st) = true /\ No (.ev st fi) b (B + (fi - B) % st))) /\
  (¬ B + (fi - B) % st < (if 146097 < e then 146097 else e) -> No (.ev st fi) b e) := by
 obtain ⟨s1, s2, f0, f1⟩ := ok
 obtain ⟨m1, m2, m3⟩ := xf st fi B s1
 have hB1 : b <= B /\ fi <= B := by subst hB; split <;> omega
 have key : ∀ k, b <= k -> k < B + (fi - B) % st -> fl (.ev st fi) k = false := λ k k1 k2 => by
  show (isD k && (decide (fi <= k) && decide ((k - fi) % st = 0))) = false
  by_cases h1 : fi <= k
  ·
   have hk : B <= k := by subst hB; split <;> omega
   rw [Ane (m3 k hk k2), Ap0, Ap0]
  · rw [Ane h1, Apq, Ap0]
 refine ⟨λ h => ?_, λ h k k1 k2 => ?_⟩
 ·
  have he : B + (fi - B) % st < e /\ B + (fi - B) % st < 146097 := by
   split at h
   · omega
   · omega
  refine ⟨dkm, he.1, ?_, key⟩
  show (isD _ && (decide (fi <= _) && decide (_ = 0))) = true
  rw [Na.mpr ⟨dkm, he.2⟩, Am6 dkm, Am6 m2]
  rfl
 ·
  by_cases hk : k < B + (fi - B) % st
  · exact key k k1 hk
  ·
   refine Zh (r := .ev st fi) ⟨s1, s2, f0, f1⟩ ?_
   split at h
   · omega
   · omega
def Aey (h1 : 1 <= e) (ho : o = ((f + 5) / 7 - (fi + 5) / 7) % e) (hp : 0 < o) : f < ((f + 5) / 7 + e - o) * 7 - 5 /\ ∀ k, f <= k -> k < ((f + 5) / 7 + e - o) * 7 - 5 -> fl (.wk mk fi e) k = false := by
 have hl := Anw ((f + 5) / 7 - (fi + 5) / 7) (by omega : 0 < e)
 rw [← ho] at hl
 refine ⟨dkm, λ k k1 k2 => ?_⟩
 have hw : (f + 5) / 7 <= (k + 5) / 7 /\ (k + 5) / 7 < (f + 5) / 7 + e - o := by omega
 have hne : ((k + 5) / 7 - (fi + 5) / 7) % e ≠ 0 := by
  have e1 : (k + 5) / 7 - (fi + 5) / 7 = ((k + 5) / 7 - (f + 5) / 7) + ((f + 5) / 7 - (fi + 5) / 7) := by omega
  rw [e1, Int.add_emod, ← ho, Int.emod_eq_of_lt (a := (k + 5) / 7 - (f + 5) / 7) dkm dkm, Int.emod_eq_of_lt dkm dkm]
  omega
 show (if isD k = true /\ fi <= k then _ else false) = false
 split
 · rw [Ane hne, Apq]
 · rfl
def Akn (h0 : 0 <= f) (h1 : f < 146097) (hf : fi <= f) : fl (.wk mk fi e) f = (decide (((f + 5) / 7 - (fi + 5) / 7) % e = 0) && decide (mk / 2 ^ ((f + 5) % 7).toNat % 2 = 1)) := Ait h0 h1 hf
def fiM : Rl -> Int
 | .mo _ fi _ => fi
 | .nt _ _ fi _ => fi
 | .yr _ _ fi _ => fi
 | _ => 0
def orM : Rl -> Int
 | .mo _ fi _ => DM.mo fi
 | .nt _ _ fi _ => DM.mo fi
 | .yr mn _ fi _ => DM.mo fi / 12 * 12 + mn - 1
 | _ => 0
def stM : Rl -> Int
 | .mo _ _ e => e
 | .nt _ _ _ e => e
 | .yr _ _ _ e => e * 12
 | _ => 1
def gM : Rl -> Int -> Option Int
 | .mo dt _ _, n => Ce n dt
 | .nt w wd _ _, n => K7 n w wd
 | .yr _ dt _ _, n => Ce n dt
 | _, _ => none
def isM : Rl -> Prop
 | .mo _ _ _ => True
 | .nt _ _ _ _ => True
 | .yr _ _ _ _ => True
 | _ => False
theorem flM (h : isM r) (d : Int) : fl r d = byM (orM r) (stM r) (fiM r) (gM r) d := by
 cases r with
 | mo dt fi e => rfl
 | nt w wd fi e => rfl
 | yr mn dt fi e => rfl
 | _ => exact h.elim
theorem Ah4 (h : gM r n = some d) : DM.mb n <= d /\ d < DM.mb (n + 1) := by
 have inw_in : ∀ {b e f d : Int}, inw b e f = some d -> b <= d /\ d < e := λ {b e f d} h => by
  unfold inw at h
  split at h
  · cases h; assumption
  · cases h
 cases r with
 | mo dt fi e => exact inw_in h
 | nt w wd fi e => exact inw_in h
 | yr mn dt fi e => exact inw_in h
 | _ => cases h
def Acl (r : Rl) (b s n : Int) : Prop := ∀ k, b <= k -> 0 <= k -> k < s -> DM.mo k < n -> fl r k = false
def pk (hm : isM r) (hs : 1 <= stM r) (g : Acl r b s n) (hc : n <= c) (h : ∀ j, n <= j -> j < c -> (j - orM r) % stM r ≠ 0) : Acl r b s c := λ k k0 k1 k2 k3 => by
 by_cases hk : DM.mo k < n
 · exact g k k0 k1 k2 hk
 ·
  rw [flM hm]
  unfold byM
  split
  · rw [Ane (h _ dkm k3), Apq]
  · rfl
def yj (s1 : s <= 146097) (hm : isM r) (hs : 1 <= stM r) (hf : 0 <= fiM r) (hB : B = if fiM r > b then fiM r else b) (h1 : B < 146097) : Acl r b s (DM.mo B + (orM r - DM.mo B) % stM r) /\ DM.mo B <= DM.mo B + (orM r - DM.mo B) % stM r /\ (DM.mo B + (orM r - DM.mo B) % stM r - orM r) % stM r = 0 := by
 obtain ⟨m1, m2, m3⟩ := xf (stM r) (orM r) (DM.mo B) hs
 have hB1 : b <= B /\ fiM r <= B := by subst hB; split <;> omega
 obtain ⟨o1, o2, _, _⟩ := DM.d7 (d := B) dkm h1
 refine ⟨pk (n := DM.mo B) hm hs (λ k k0 k1 k2 k3 => ?_) m1 m3, m1, m2⟩
 obtain ⟨p1, p2, _, _⟩ := DM.d7 k1 dkm
 have hlt : k < B := by
  have := DM.Ov (a := DM.mo k + 1) (b := DM.mo B) dkm
  omega
 rw [flM hm]
 refine sq ?_
 subst hB
 split at hlt <;> omega
def ig (hm : isM r) (hs : 1 <= stM r) (g : Acl r b s n) (hn : (n - orM r) % stM r = 0) (h : ∀ k, b <= k -> k < s -> DM.mo k = n -> fl r k = false) : Acl r b s (n + stM r) /\ (n + stM r - orM r) % stM r = 0 := by
 have g1 : Acl r b s (n + 1) := λ k k0 k1 k2 k3 => by
  by_cases hk : DM.mo k < n
  · exact g k k0 k1 k2 hk
  · exact h k k0 k2 dkm
 refine ⟨pk hm hs g1 dkm λ j j1 j2 hj => ?_, ?_⟩
 ·
  obtain ⟨p, hp⟩ := Apl hn
  obtain ⟨q, hq⟩ := Apl hj
  have e : j - n = stM r * (q - p) := by rw [Int.mul_sub]; omega
  have h1 : 0 < stM r * (q - p) := by omega
  have h2 : stM r * (q - p) < stM r := by omega
  have h3 : 1 <= q - p := by
   by_cases z : q - p <= 0
   · have := Ao6 z (by omega : 0 <= stM r); omega
   · omega
  have := Ao6 h3 (by omega : 0 <= stM r)
  omega
 ·
  rw [show n + stM r - orM r = (n - orM r) + stM r by omega, Int.add_emod_right]
  exact hn
def Acm (hm : isM r) (h0 : 0 <= d) (h1 : d < 146097) (hf : fiM r <= d) (hn : (n - orM r) % stM r = 0) (hg : gM r n = some d) : fl r d = true /\ DM.mo d = n := by
 obtain ⟨g1, g2⟩ := Ah4 hg
 have e := DM.Ad7 h0 h1 g1 g2
 rw [flM hm, lj h0 h1 hf, e, Am6 hn, Am6 hg]
 exact ⟨rfl, rfl⟩
def yt (hm : isM r) (g : Acl r b s n) (ds : d < s) (h0 : 0 <= d) (h1 : d < 146097) (hf : fiM r <= d) (hn : (n - orM r) % stM r = 0) (hg : gM r n = some d) (ok : Ok r) : fl r d = true /\ No r b d := by
 obtain ⟨e1, e2⟩ := Acm hm h0 h1 hf hn hg
 refine ⟨e1, λ k k1 k2 => ?_⟩
 by_cases hk : k < 0
 · exact Zh ok (.inl hk)
 ·
  obtain ⟨p1, p2, _, _⟩ := DM.d7 (d := k) dkm dkm
  obtain ⟨q1, q2, _, _⟩ := DM.d7 h0 h1
  by_cases hl : DM.mo k < n
  · exact g k k1 dkm dkm hl
  ·
   have hkn : DM.mo k = n := by
    by_cases hgt : n < DM.mo k
    ·
     have := DM.Ov (a := DM.mo d + 1) (b := DM.mo k) dkm
     omega
    · omega
   rw [flM hm]
   unfold byM
   split
   · rw [hkn, hg, show decide (some d = some k) = false from Ane λ z => by have := An7 z; omega, Ap0]
   · rfl
def gone_none (hm : isM r) (hs : ∀ d, gM r n = some d -> ¬ ((if fiM r > b then fiM r else b) <= d /\ d < s)) (k0 : b <= k) (k1 : k < s) (hk : DM.mo k = n) : fl r k = false := by
 rw [flM hm]
 unfold byM
 split
 ·
  rename_i hc
  by_cases hg : gM r (DM.mo k) = some k
  ·
   rw [hk] at hg
   have := hs k hg
   split at this <;> omega
  · rw [Ane hg, Ap0]
 · rfl
def zr (hm : isM r) (ok : Ok r) (g : Acl r b s n) (hs : s <= DM.mb n) (he : s = if 146097 < e then 146097 else e) : No r b e := λ k k1 k2 => by
 by_cases hk : k < 0 ∨ 146097 <= k
 · exact Zh ok hk
 ·
  obtain ⟨p1, p2, _, _⟩ := DM.d7 (d := k) dkm dkm
  have ks : k < s := by subst he; split <;> omega
  refine g k k1 dkm ks ?_
  by_cases hl : DM.mo k < n
  · exact hl
  ·
   have := DM.Ov (a := n) (b := DM.mo k) dkm
   omega
def none_of (hm : isM r) (ok : Ok r) (hB : B = if fiM r > b then fiM r else b) (hs : s = if 146097 < e then 146097 else e) (h : s <= B) : No r b e := λ k k1 k2 => by
 by_cases hk : k < fiM r
 · rw [flM hm]; exact sq hk
 ·
  refine Zh ok ?_
  subst hB hs
  split at h <;> split at h <;> omega
theorem Af3 (hm : isM r) (ok : Ok r) : 1 <= stM r /\ 0 <= fiM r := by
 cases r with
 | mo dt fi e => obtain ⟨_, _, _, f0, f1, e0, e1⟩ := ok; exact ⟨e0, f0⟩
 | nt w wd fi e => obtain ⟨_, _, _, _, _, f0, f1, e0, e1⟩ := ok; exact ⟨e0, f0⟩
 | yr mn dt fi e => obtain ⟨_, _, _, _, f0, f1, e0, e1⟩ := ok; exact ⟨(by show 1 <= e * 12; omega), f0⟩
 | _ => exact hm.elim
end DN
namespace DR
inductive Rl where
 | nv
 | ev (st fi : Int)
 | dy (ds : List Int)
 | wh (st re : Int)
def fl : Rl -> Int -> Bool
 | .nv, _ => false
 | .ev st fi, d => decide (fi <= d) && decide ((d - fi) % st = 0)
 | .dy ds, d => decide (d ∈ ds)
 | .wh st re, d => decide (d % st = re)
def rng (b e : Int) : List Int := (List.range (e - b).toNat).map λ (i : Nat) => b + (i : Int)
def Aaj : k ∈ rng b e ↔ b <= k /\ k < e := by
 unfold rng
 rw [Anx]
 constructor
 ·
  rintro ⟨i, hi, rfl⟩
  rw [Ao9] at hi
  omega
 ·
  rintro ⟨h1, h2⟩
  exact ⟨(k - b).toNat, by rw [Ao9]; omega, dkm⟩
def Acv (b e : Int) : (rng b e).Pairwise (· < ·) := by
 unfold rng
 rw [Aq4]
 exact List.pairwise_lt_range.imp λ h => by omega
theorem E3 : ∀ {xs ys : List Int}, xs.Pairwise (· < ·) -> ys.Pairwise (· < ·) -> (∀ k, k ∈ xs ↔ k ∈ ys) -> xs = ys
 | [], [], _, _, _ => rfl
 | [], y :: ys, _, _, h => absurd ((h y).mpr (Ano ..)) dks
 | x :: xs, [], _, _, h => absurd ((h x).mp (Ano ..)) dks
 |
  x :: xs, y :: ys, hx, hy, h => by
  obtain ⟨x1, x2⟩ := Aps.mp hx
  obtain ⟨y1, y2⟩ := Aps.mp hy
  have e : x = y := by
   rcases Anf.mp ((h x).mp (Ano ..)) with e | e
   · exact e
   ·
    rcases Anf.mp ((h y).mpr (Ano ..)) with f | f
    · exact f.symm
    · have := y1 x e; have := x1 y f; omega
  subst e
  refine Apw (x :: ·) (E3 x2 y2 λ k => ⟨λ hk => ?_, λ hk => ?_⟩)
  ·
   rcases Anf.mp ((h k).mp (Ann _ hk)) with e | e
   · have := x1 k hk; omega
   · exact e
  ·
   rcases Anf.mp ((h k).mpr (Ann _ hk)) with e | e
   · have := y1 k hk; omega
   · exact e
def days (f : Int -> Bool) (b e : Int) : List Int := (rng b e).filter f
def A2 : k ∈ days f b e ↔ b <= k /\ k < e /\ f k = true := by
 unfold days
 rw [Aoj, Aaj, and_assoc]
def A6 (f : Int -> Bool) (b e : Int) : (days f b e).Pairwise (· < ·) := (Acv b e).filter _
def wo (f : Int -> Bool) (b e : Int) : (days f b e).length <= (e - b).toNat := by
 unfold days
 refine Anb (Apc _ _) ?_
 unfold rng
 rw [Am9, An5]
 exact Anh _
def Xb (h : ∀ k, b <= k -> k < e -> f k = false) : days f b e = [] := by
 refine E3 (A6 _ _ _) List.Pairwise.nil λ k => ?_
 rw [A2]
 constructor
 ·
  rintro ⟨h1, h2, h3⟩
  rw [h k h1 h2] at h3
  cases h3
 ·
  intro w
  exact nomatch w
def Ab0 (hb : b <= c) (h1 : c <= d) (h2 : f d = true) (h3 : ∀ k, c <= k -> k < d -> f k = false) : days f b c ++ [d] = days f b (d + 1) := by
 refine E3 ?_ (A6 _ _ _) λ k => ?_
 ·
  rw [List.pairwise_append]
  refine ⟨A6 _ _ _, List.pairwise_singleton _ _, λ x hx y hy => ?_⟩
  rw [An3] at hy
  have := (A2.mp hx).2.1
  omega
 ·
  rw [Aog, An3, A2, A2]
  constructor
  ·
   rintro (⟨a1, a2, a3⟩ | rfl)
   · exact ⟨a1, dkm, a3⟩
   · exact ⟨dkm, dkm, h2⟩
  ·
   rintro ⟨a1, a2, a3⟩
   by_cases hk : k < c
   · exact .inl ⟨a1, hk, a3⟩
   ·
    by_cases hd : k = d
    · exact .inr hd
    · rw [h3 k dkm dkm] at a3; cases a3
def Abt (hb : b <= c) (h1 : c <= e) (h3 : ∀ k, c <= k -> k < e -> f k = false) : days f b c = days f b e := by
 refine E3 (A6 _ _ _) (A6 _ _ _) λ k => ?_
 rw [A2, A2]
 constructor
 ·
  rintro ⟨a1, a2, a3⟩
  exact ⟨a1, dkm, a3⟩
 ·
  rintro ⟨a1, a2, a3⟩
  refine ⟨a1, ?_, a3⟩
  by_cases hk : k < c
  · exact hk
  · rw [h3 k dkm a2] at a3; cases a3
def Aal (hs : 0 < st) : let g := if fi > b then fi else b; let d := g + (fi - g) % st; b <= d /\ fl (.ev st fi) d = true /\ ∀ k, b <= k -> k < d -> fl (.ev st fi) k = false := by
 intro g d
 have hg : b <= g /\ fi <= g := by show b <= (if fi > b then fi else b) /\ fi <= (if fi > b then fi else b); split <;> omega
 have hg2 : ∀ k, b <= k -> k < g -> k < fi := λ k h1 h2 => by
  have h2' : k < (if fi > b then fi else b) := h2
  split at h2' <;> omega
 have r0 := Anz (fi - g) (by omega : st ≠ 0)
 have r1 := Anw (fi - g) hs
 have eq := Aqi (fi - g) st
 have hd : d = g + (fi - g) % st := rfl
 refine ⟨dkm, ?_, λ k h1 h2 => ?_⟩
 ·
  show (decide (fi <= d) && decide ((d - fi) % st = 0)) = true
  rw [Am6 dkm, An1]
  refine Am6 ?_
  have : d - fi = st * (-((fi - g) / st)) := by rw [Int.mul_neg]; omega
  rw [this]
  exact Int.mul_emod_right _ _
 ·
  show (decide (fi <= k) && decide ((k - fi) % st = 0)) = false
  by_cases hk : fi <= k
  ·
   rw [Am6 hk, An1]
   refine Ane λ hz => ?_
   have hkg : g <= k := Api.mp λ w => by have := hg2 k h1 w; omega
   have e2 := Aqi (k - fi) st
   rw [hz] at e2
   have e3 : st * ((k - fi) / st + (fi - g) / st) = k - g - (fi - g) % st := by rw [Int.mul_add]; omega
   have n1 : (k - fi) / st + (fi - g) / st < 0 := by
    refine Int.not_le.mp λ w => ?_
    have := Int.mul_nonneg (Ar9 hs) w
    omega
   have n2 : st * ((k - fi) / st + (fi - g) / st) <= st * (-1) := Ao6 dkm (Ar9 hs)
   omega
  · rw [Ane hk, Apq]
def Ain {st fi b d e : Int} {n : Nat} (hs : 0 < st) (hbd : b <= d) (hd : fl (.ev st fi) d = true) (h0 : ∀ k, b <= k -> k < d -> fl (.ev st fi) k = false) (hde : d < e) (hn : (n : Int) = (e - d - 1) / st + 1) :
  days (fl (.ev st fi)) b e = (List.range n).map λ (i : Nat) => d + (i : Int) * st := by
 have hd' : fi <= d /\ (d - fi) % st = 0 := by
  have : (decide (fi <= d) && decide ((d - fi) % st = 0)) = true := hd
  rw [Ani] at this
  exact ⟨Am8 this.1, Am8 this.2⟩
 refine E3 (A6 _ _ _) ?_ λ k => ?_
 ·
  rw [Aq4]
  refine List.pairwise_lt_range.imp λ {i j} h => ?_
  have : ((j : Int) - i) * st > 0 := Int.mul_pos dkm hs
  rw [Int.sub_mul] at this
  omega
 ·
  rw [A2, Anx]
  constructor
  ·
   rintro ⟨a1, a2, a3⟩
   have hkd : d <= k := Api.mp λ w => by rw [h0 k a1 w] at a3; cases a3
   have a3' : (decide (fi <= k) && decide ((k - fi) % st = 0)) = true := a3
   rw [Ani] at a3'
   have hz := Am8 a3'.2
   have e1 := Aqi (k - fi) st
   have e2 := Aqi (d - fi) st
   rw [hz] at e1
   rw [hd'.2] at e2
   have hq : k - d = st * ((k - fi) / st - (d - fi) / st) := by rw [Int.mul_sub]; omega
   generalize (k - fi) / st - (d - fi) / st = q at hq
   have q0 : 0 <= q := Api.mp λ w => by
    have : st * q <= st * (-1) := Ao6 dkm (Ar9 hs)
    omega
   have hq2 : q <= (e - d - 1) / st := by
    rw [Int.le_ediv_iff_mul_le hs, Ar7]
    omega
   exact ⟨q.toNat, by rw [Ao9]; omega, by rw [Int.toNat_of_nonneg q0, Ar7]; omega⟩
  ·
   rintro ⟨i, hi, rfl⟩
   rw [Ao9] at hi
   have i0 : 0 <= (i : Int) * st := Int.mul_nonneg dkm dkm
   have i1 : (i : Int) * st <= e - d - 1 := by
    rw [← Int.le_ediv_iff_mul_le hs]
    omega
   refine ⟨dkm, dkm, ?_⟩
   show (decide (fi <= d + (i : Int) * st) && decide ((d + (i : Int) * st - fi) % st = 0)) = true
   rw [Am6 dkm, An1]
   refine Am6 ?_
   rw [show d + (i : Int) * st - fi = (d - fi) + (i : Int) * st by omega, Int.add_mul_emod_self_right]
   exact hd'.2
end DR
namespace DJ
open DF (Rl fl isD Ok Na)
open DR (days A2 A6 E3)
inductive Rt where
 | s (r : Rl)
 | ei (a b : Rt)
 | bo (a b : Rt)
 | bu (a b : Rt)
 | wi (b e : Int) (r : Rt)
 | sh (n : Int) (r : Rt)
 | ch (r : Rt) (ls ms : List Int) (mv : List (Int × Int))
def dep : Rt -> Nat
 | .s _ => 0
 | .ei a b => max (dep a) (dep b) + 1
 | .bo a b => max (dep a) (dep b) + 1
 | .bu a b => max (dep a) (dep b) + 1
 | .wi _ _ r => dep r + 1
 | .sh _ r => dep r + 1
 | .ch r _ _ _ => dep r + 1
def Qh (f : Int -> Bool) (ls ms : List Int) (mv : List (Int × Int)) : List Int := ms ++ (mv.filter λ y => !decide (y.1 ∈ ls) && f y.1).map (·.2)
def oy (ls : List Int) (mv : List (Int × Int)) : List Int := ls ++ mv.map (·.1)
def ft : Rt -> Int -> Bool
 | .s r => λ d => fl r d
 | .ei a b => λ d => ft a d || ft b d
 | .bo a b => λ d => ft a d && ft b d
 | .bu a b => λ d => ft a d && !ft b d
 | .wi b e r => λ d => (decide (b <= d) && decide (d < e)) && ft r d
 | .sh n r => λ d => isD d && ft r (d - n)
 | .ch r ls ms mv => λ d => decide (d ∈ Qh (ft r) ls ms mv) || (!decide (d ∈ oy ls mv) && ft r d)
def Dy (d : Int) : Prop := 0 <= d /\ d < 146097
def Okt : Rt -> Prop
 | .s r => Ok r
 | .ei a b => Okt a /\ Okt b
 | .bo a b => Okt a /\ Okt b
 | .bu a b => Okt a /\ Okt b
 | .wi b e r => (-(2 ^ 58) < b /\ b < 2 ^ 58 /\ -(2 ^ 58) < e /\ e < 2 ^ 58) /\ Okt r
 | .sh n r => (-1000 <= n /\ n <= 1000) /\ Okt r
 | .ch r ls ms mv => Okt r /\ (ls.length <= 10 /\ ms.length <= 10 /\ mv.length <= 10) /\ (∀ d ∈ ls, Dy d) /\ (∀ d ∈ ms, Dy d) /\ ∀ y ∈ mv, Dy y.1 /\ Dy y.2
def Abg (h1 : ∀ d ∈ ms, Dy d) (h2 : ∀ y ∈ mv, Dy y.1 /\ Dy y.2) (hd : d ∈ Qh f ls ms mv) : Dy d := by
 rcases Aog.mp hd with h | h
 · exact h1 d h
 ·
  obtain ⟨y, hy, rfl⟩ := Anx.mp h
  exact (h2 y (Aoj.mp hy).1).2
theorem Nh : ∀ {t : Rt} {d : Int}, Okt t -> (d < 0 ∨ 146097 <= d) -> ft t d = false
 | .s r, d, ok, hd => DF.Zh ok hd
 | .ei a b, d, ok, hd => by show (ft a d || ft b d) = false; rw [Nh ok.1 hd, Nh ok.2 hd]; rfl
 | .bo a b, d, ok, hd => by show (ft a d && ft b d) = false; rw [Nh ok.1 hd]; rfl
 | .bu a b, d, ok, hd => by show (ft a d && !ft b d) = false; rw [Nh ok.1 hd]; rfl
 | .wi b e r, d, ok, hd => by show ((decide (b <= d) && decide (d < e)) && ft r d) = false; rw [Nh ok.2 hd, Ap0]
 |
  .sh n r, d, ok, hd => by
  show (isD d && ft r (d - n)) = false
  rw [show isD d = false from Ane dkm, Apq]
 |
  .ch r ls ms mv, d, ok, hd => by
  show (decide (d ∈ Qh (ft r) ls ms mv) || (!decide (d ∈ oy ls mv) && ft r d)) = false
  rw [Nh ok.1 hd, Ap0, Bool.or_false]
  refine Ane λ h => ?_
  obtain ⟨_, _, _, h1, h2⟩ := ok
  obtain ⟨d0, d1⟩ := Abg h1 h2 h
  omega
def xm (ok : Okt t) (h : ft t d = true) : 0 <= d /\ d < 146097 := by
 by_cases hd : d < 0 ∨ 146097 <= d
 · rw [Nh ok hd] at h; cases h
 · omega
def xc {f : Int -> Bool} {b e : Int} (hf : ∀ d, f d = true -> 0 <= d /\ d < 146097) {n : Nat} (h : (if 146097 < e then 146097 else e) - (if 0 > b then 0 else b) <= (n : Int)) : (days f b e).length <= n := by
 have e1 : days f b e = days f (if 0 > b then 0 else b) (if 146097 < e then 146097 else e) := by
  refine E3 (A6 _ _ _) (A6 _ _ _) λ k => ?_
  rw [A2, A2]
  constructor
  ·
   rintro ⟨a1, a2, a3⟩
   have := hf k a3
   refine ⟨?_, ?_, a3⟩ <;> split <;> omega
  ·
   rintro ⟨a1, a2, a3⟩
   refine ⟨?_, ?_, a3⟩
   · split at a1 <;> omega
   · split at a2 <;> omega
 rw [e1]
 refine Anb (DR.wo _ _ _) ?_
 omega
def bx {f : Int -> Bool} {b e : Int} (hf : ∀ d, f d = true -> 0 <= d /\ d < 146097) : (days f b e).length <= 146097 :=
 xc hf (n := 146097) (by split <;> split <;> omega)
def Aez (h1 : ms.Pairwise (· < ·)) (h2 : ∀ k, k ∈ ms ↔ k ∈ days (ft a) x y ∨ k ∈ days (ft b) x y) : ms = days (ft (.ei a b)) x y := by
 refine E3 h1 (A6 _ _ _) λ k => ?_
 rw [h2, A2, A2, A2]
 show _ ↔ x <= k /\ k < y /\ (ft a k || ft b k) = true
 rw [Arl]
 constructor
 ·
  rintro (⟨a1, a2, a3⟩ | ⟨a1, a2, a3⟩)
  · exact ⟨a1, a2, .inl a3⟩
  · exact ⟨a1, a2, .inr a3⟩
 ·
  rintro ⟨a1, a2, a3 | a3⟩
  · exact .inl ⟨a1, a2, a3⟩
  · exact .inr ⟨a1, a2, a3⟩
def Afe : (days (ft a) x y).filter (ft b) = days (ft (.bo a b)) x y := by
 refine E3 ((A6 _ _ _).filter _) (A6 _ _ _) λ k => ?_
 rw [Aoj, A2, A2]
 show _ ↔ x <= k /\ k < y /\ (ft a k && ft b k) = true
 rw [Ani]
 exact ⟨λ ⟨⟨a1, a2, a3⟩, a4⟩ => ⟨a1, a2, a3, a4⟩, λ ⟨a1, a2, a3, a4⟩ => ⟨⟨a1, a2, a3⟩, a4⟩⟩
def Af2 : (days (ft a) x y).filter (λ d => !ft b d) = days (ft (.bu a b)) x y := by
 refine E3 ((A6 _ _ _).filter _) (A6 _ _ _) λ k => ?_
 rw [Aoj, A2, A2]
 show _ ↔ x <= k /\ k < y /\ (ft a k && !ft b k) = true
 rw [Ani]
 exact ⟨λ ⟨⟨a1, a2, a3⟩, a4⟩ => ⟨a1, a2, a3, a4⟩, λ ⟨a1, a2, a3, a4⟩ => ⟨⟨a1, a2, a3⟩, a4⟩⟩
def Afa : days (ft r) (if wb > x then wb else x) (if we < y then we else y) = days (ft (.wi wb we r)) x y := by
 refine E3 (A6 _ _ _) (A6 _ _ _) λ k => ?_
 rw [A2, A2]
 show _ ↔ x <= k /\ k < y /\ ((decide (wb <= k) && decide (k < we)) && ft r k) = true
 rw [Ani, Ani, Apr, Apr]
 constructor
 ·
  rintro ⟨a1, a2, a3⟩
  refine ⟨?_, ?_, ⟨?_, ?_⟩, a3⟩
  · split at a1 <;> omega
  · split at a2 <;> omega
  · split at a1 <;> omega
  · split at a2 <;> omega
 ·
  rintro ⟨a1, a2, ⟨a3, a4⟩, a5⟩
  exact ⟨by split <;> omega, by split <;> omega, a5⟩
def Agn : (days (ft r) ((if 0 > x then 0 else x) - n) ((if 146097 < y then 146097 else y) - n)).map (· + n) = days (ft (.sh n r)) x y := by
 refine E3 ?_ (A6 _ _ _) λ k => ?_
 ·
  rw [Aq4]
  exact (A6 _ _ _).imp λ h => by omega
 ·
  rw [Anx, A2]
  show _ ↔ x <= k /\ k < y /\ (isD k && ft r (k - n)) = true
  rw [Ani, Na]
  constructor
  ·
   rintro ⟨d, hd, rfl⟩
   obtain ⟨a1, a2, a3⟩ := A2.mp hd
   rw [show d + n - n = d by omega]
   refine ⟨?_, ?_, ⟨?_, ?_⟩, a3⟩
   · split at a1 <;> omega
   · split at a2 <;> omega
   · split at a1 <;> omega
   · split at a2 <;> omega
  ·
   rintro ⟨a1, a2, ⟨a3, a4⟩, a5⟩
   exact ⟨k - n, A2.mpr ⟨by split <;> omega, by split <;> omega, a5⟩, dkm⟩
def Afw {r : Rt} {ls ms : List Int} {mv : List (Int × Int)} {x y : Int} {gs qs : List Int} (h1 : qs.Pairwise (· < ·)) (hg : ∀ k, k ∈ gs ↔ k ∈ Qh (ft r) ls ms mv)
  (h2 : ∀ k, k ∈ qs ↔ k ∈ (days (ft r) x y).filter (λ d => !decide (d ∈ oy ls mv)) ∨ (k ∈ gs /\ x <= k /\ k < y)) : qs = days (ft (.ch r ls ms mv)) x y := by
 refine E3 h1 (A6 _ _ _) λ k => ?_
 rw [h2, Aoj, A2, A2, hg]
 show _ ↔ x <= k /\ k < y /\ (decide (k ∈ Qh (ft r) ls ms mv) || (!decide (k ∈ oy ls mv) && ft r k)) = true
 rw [Arl, Ani, Apr]
 constructor
 ·
  rintro (⟨⟨a1, a2, a3⟩, a4⟩ | ⟨a1, a2, a3⟩)
  · exact ⟨a1, a2, .inr ⟨a4, a3⟩⟩
  · exact ⟨a2, a3, .inl a1⟩
 ·
  rintro ⟨a1, a2, a3 | ⟨a3, a4⟩⟩
  · exact .inr ⟨a3, a1, a2⟩
  · exact .inl ⟨⟨a1, a2, a4⟩, a3⟩
def v9 (hr : DC.zj gs) : ∀ k, k ∈ (gs.take (DC.below gs y)).drop (DC.below gs x) ↔ k ∈ gs /\ x <= k /\ k < y := by
 intro k
 rw [List.mem_iff_getElem?]
 constructor
 ·
  rintro ⟨i, hi⟩
  rw [Aqw, Arz] at hi
  split at hi
  ·
   rename_i hlt
   have h1 := (DC.Ew hr (x := y) hi).mp hlt
   have h2 : ¬ k < x := λ w => by
    have := (DC.Ew hr (x := x) hi).mpr w
    omega
   exact ⟨Aoa hi, dkm, h1⟩
  · cases hi
 ·
  rintro ⟨hk, h1, h2⟩
  obtain ⟨j, hj⟩ := Aob hk
  have a1 := (DC.Ew hr (x := y) hj).mpr h2
  have a2 : ¬ j < DC.below gs x := λ w => by
   have := (DC.Ew hr (x := x) hj).mp w
   omega
  refine ⟨j - DC.below gs x, ?_⟩
  rw [Aqw, Arz, if_pos dkm, show DC.below gs x + (j - DC.below gs x) = j by omega]
  exact hj
def xh (hr : DC.zj gs) : (∃ a, gs[DC.below gs x]? = some a /\ a = x) ↔ x ∈ gs := by
 constructor
 ·
  rintro ⟨a, h, rfl⟩
  exact Aoa h
 ·
  intro h
  obtain ⟨j, hj⟩ := Aob h
  have a1 : ¬ j < DC.below gs x := λ w => by
   have := (DC.Ew hr (x := x) hj).mp w
   omega
  have a2 : j < DC.below gs (x + 1) := (DC.Ew hr (x := x + 1) hj).mpr dkm
  by_cases hjb : DC.below gs x = j
  · rw [hjb]; exact ⟨x, hj, rfl⟩
  ·
   have hlt : DC.below gs x < gs.length := by have := (Ang.mp hj).1; omega
   have hb := An6 hlt
   have a3 : ¬ gs[DC.below gs x] < x := λ w => by
    have := (DC.Ew hr (x := x) hb).mpr w
    omega
   have a4 : gs[DC.below gs x] < x := by
    obtain ⟨hj2, e⟩ := Ang.mp hj
    have := Apz.mp hr (DC.below gs x) j hlt hj2 dkm
    omega
   exact absurd a4 a3
def Ac5 (hb : b <= c) (hce : c <= e ∨ c = b) (h : ∀ k, c <= k -> k < e -> f k = false) : days f b c = days f b e := by
 rcases hce with hc | rfl
 · exact DR.Abt hb hc h
 · rw [DR.Xb h, DR.Xb λ k h1 h2 => by omega]
def Agv {st fi b d e e1 : Int} {n : Nat} (ok : Ok (.ev st fi)) (he : e1 = if 146097 < e then 146097 else e) (h1 : b <= d) (h2 : d < e) (h3 : fl (.ev st fi) d = true) (h4 : DN.No (.ev st fi) b d) (hn : (n : Int) = (e1 - d - 1) / st + 1) :
  days (fl (.ev st fi)) b e = (List.range n).map λ (i : Nat) => d + (i : Int) * st := by
 obtain ⟨s1, s2, f0, f1⟩ := ok
 have hd := DN.v7 (r := .ev st fi) ⟨s1, s2, f0, f1⟩ h3
 have h3' : (isD d && (decide (fi <= d) && decide ((d - fi) % st = 0))) = true := h3
 rw [Ani] at h3'
 have e1d : d < e1 := by rw [he]; split <;> omega
 rw [← DR.Ain (b := d) dkm (Arv d) h3'.2 (λ k w1 w2 => by omega) e1d hn]
 refine E3 (A6 _ _ _) (A6 _ _ _) λ k => ?_
 rw [A2, A2]
 show b <= k /\ k < e /\ (isD k && (decide (fi <= k) && decide ((k - fi) % st = 0))) = true ↔ d <= k /\ k < e1 /\ (decide (fi <= k) && decide ((k - fi) % st = 0)) = true
 rw [Ani, Na]
 constructor
 ·
  rintro ⟨a1, a2, ⟨a3, a4⟩, a5⟩
  refine ⟨?_, by rw [he]; split <;> omega, a5⟩
  by_cases hk : d <= k
  · exact hk
  ·
   have := h4 k a1 dkm
   have this : (isD k && (decide (fi <= k) && decide ((k - fi) % st = 0))) = false := this
   rw [a5, Na.mpr ⟨a3, a4⟩] at this
   cases this
 ·
  rintro ⟨a1, a2, a3⟩
  have : e1 <= 146097 /\ e1 <= e := by rw [he]; split <;> omega
  exact ⟨dkm, dkm, ⟨dkm, dkm⟩, a3⟩
def Nar (b e : Int) : Prop := (if 146097 < e then 146097 else e) - (if 0 > b then 0 else b) <= 60
def Nar.few {t : Rt} {b e : Int} (h : Nar b e) (ok : Okt t) : (days (ft t) b e).length <= 1000 := Anb (xc (λ d hd => xm ok hd) (n := 60) h) dkd
def Nar.wi (h : Nar x y) : Nar (if wb > x then wb else x) (if we < y then we else y) := by
 unfold Nar at h ⊢
 (repeat' split at h) <;> (repeat' split) <;> omega
def Nar.sh (h : Nar x y) : Nar ((if 0 > x then 0 else x) - n) ((if 146097 < y then 146097 else y) - n) := by
 unfold Nar at h ⊢
 (repeat' split at h) <;> (repeat' split) <;> omega
end DJ
namespace L2
open PySem PySem.Spec PySem.Calls PyProof.Rows
def asV (o : Option (Option V)) (k : V -> Prop) : Prop := match o with | some (some v) => k v | _ => False
def asI (x : V) (k : Int -> Prop) : Prop := match x with | .int i => k i | _ => False
def asB (x : V) (k : Bool -> Prop) : Prop := match x with | .bl i => k i | _ => False
def asR (x : V) (k : Addr -> Prop) : Prop := match x with | .ref i => k i | _ => False
def asN (x : V) (k : Prop) : Prop := match x with | .non => k | _ => False
def as2 (xs : List V) (k : V -> V -> Prop) : Prop := match xs with | [x, y] => k x y | _ => False
def Ajt (j : Int) (k : Prop) : Prop := match j with | .ofNat (n + 1) => cond (Nat.ble (n + 1) 1073741823) k False | _ => False
def Ale (j : Int) (k : Prop) : Prop := match j with | .ofNat (_ + 1) => k | _ => False
def tupQ (n : Nat) (k : Prop) : Prop := cond (Nat.ble n 1000) k False
def Ald (vs : List V) (n : Nat) (k : Prop) : Prop := cond (Nat.beq vs.length n) k False
def Ai4 (h : asV o k) : ∃ v, o = some (some v) /\ k v := match o, h with | some (some v), h => ⟨v, rfl, h⟩ | some none, h => h.elim | none, h => h.elim
def Py (h : asI x k) : ∃ i, x = .int i /\ k i := by cases x <;> first | exact ⟨_, rfl, h⟩ | exact h.elim
def Wc (h : asB x k) : ∃ i, x = .bl i /\ k i := by cases x <;> first | exact ⟨_, rfl, h⟩ | exact h.elim
def kh (h : asR x k) : ∃ i, x = .ref i /\ k i := by cases x <;> first | exact ⟨_, rfl, h⟩ | exact h.elim
def Aew (h : asN x k) : x = .non /\ k := by cases x <;> first | exact ⟨rfl, h⟩ | exact h.elim
def Aeh (h : as2 xs k) : ∃ x y, xs = [x, y] /\ k x y := match xs, h with | [x, y], h => ⟨x, y, rfl, h⟩ | [], h => h.elim | [_], h => h.elim | _ :: _ :: _ :: _, h => h.elim
def cond_of (h : cond b k False) : b = true /\ k := by cases b with | true => exact ⟨rfl, h⟩ | false => exact h.elim
theorem Ae8 (h : Ajt j k) : (0 < j /\ j < 1073741824) /\ k := by
 match j, h with
 |
  .ofNat (n + 1), h =>
  obtain ⟨e, q⟩ := cond_of h
  have := Apb e
  refine ⟨⟨?_, ?_⟩, q⟩ <;> simp only [Int.ofNat_eq_natCast] <;> omega
theorem Agd (h : Ale j k) : 0 < j /\ k := by
 match j, h with
 | .ofNat (n + 1), h => exact ⟨by simp only [Int.ofNat_eq_natCast]; omega, h⟩
def zz (h : tupQ n k) : n <= sizeLine /\ k := by
 obtain ⟨e, q⟩ := cond_of h
 exact ⟨Anb (Apb e) dkd, q⟩
def Afo (h : Ald vs n k) : vs.length = n /\ k := by
 obtain ⟨e, q⟩ := cond_of h
 exact ⟨Nat.eq_of_beq_eq_true e, q⟩
structure Br (b : Bool) (A B : Prop) : Prop where
 t : b = true -> A
 f : ¬ b = true -> B
def Br.of (h : Br b A B) : if b = true then A else B := by cases b with | true => exact h.t rfl | false => exact h.f dkd
def F4 (h : A) : Br true A B := ⟨λ _ => h, λ e => absurd rfl e⟩
def Ct (h : B) : Br false A B := ⟨λ e => (nomatch e), λ _ => h⟩
def Ahp [Decidable c] (hc : c) (h : B) : Br (!decide c) A B := by rw [Am6 hc]; exact Ct h
def Ex (e : b = false) (h : B) : Br b A B := ⟨λ z => (nomatch e.symm.trans z), λ _ => h⟩
def br (e : b = true) (h : A) : Br b A B := ⟨λ _ => h, λ z => absurd e z⟩
def Am3 (h1 : b = true -> A) (h2 : ¬ b = true -> B) : Br b A B := ⟨h1, h2⟩
noncomputable def slot (σ : St) (i : Nat) : Option (Option V) := List.rec (motive := λ _ => Nat -> Option (Option V)) (λ _ => none) (λ a _ ih i => Nat.rec (some a) (λ j _ => ih j) i) σ i
theorem Aas : ∀ (σ : St) (i : Nat), slot σ i = σ[i]?
 | [], _ => rfl
 | _ :: _, 0 => rfl
 | _ :: σ, i + 1 => by rw [List.getElem?_cons_succ]; exact Aas σ i
noncomputable def Ak7 (i : Nat) : TE := λ σ H Q => asV (slot σ i) λ v => Q v H
def Akc : R2 := λ x y H Q => asI x λ i => asI y λ j => Q (.int (i + j)) H
def Ajw : R2 := λ x y H Q => asI x λ i => asI y λ j => Q (.int (i - j)) H
def Amx : R2 := λ x y H Q => asI x λ i => asI y λ j => Q (.bl (decide (i < j))) H
def Aml : R2 := λ x y H Q => asI x λ i => asI y λ j => Q (.bl (decide (i <= j))) H
def Al6 : R2 := λ x y H Q => asI x λ i => asI y λ j => Q (.bl (decide (j < i))) H
def Amu : R2 := λ x y H Q => asI x λ i => asI y λ j => Q (.bl (decide (j <= i))) H
def Aju : R2 := λ x y H Q => asI x λ i => asI y λ j => Ale j (Q (.int (i % j)) H)
def Ak6 : R2 := λ x y H Q => asI x λ i => asI y λ j => Ajt j (Q (.int (i / j)) H)
def Akd : V -> Hp -> VK -> Prop := λ x H Q => asI x λ i => Q (.int (-i)) H
def Amk : R2 := λ x y H Q => cond (Ahm x y) (Q (.bl (decide (x = y))) H) False
def Al4 : R2 := λ x y H Q => cond (Ahm x y) (Q (.bl (!decide (x = y))) H) False
def Amy : R2 := λ x y H Q => asN y (Q (.bl (decide (x = .non))) H)
def Alw : R2 := λ x y H Q => asN y (Q (.bl (!decide (x = .non))) H)
def Afm (t : TE) : TT := λ σ H Q => t σ H λ x H' => asB x λ k => Q k H'
def Ajy (ta tb : TE) : TE := λ σ H Q => ta σ H λ x H1 => asB x λ c => Br c (tb σ H1 Q) (Q (.bl false) H1)
def Al2 (ta tb : TE) : TE := λ σ H Q => ta σ H λ x H1 => asB x λ c => Br c (Q (.bl true) H1) (tb σ H1 Q)
def qIf (t : TT) (ta tb : TE) : TE := λ σ H Q => t σ H λ c H1 => Br c (ta σ H1 Q) (tb σ H1 Q)
def Amz (c : TT) (t u : TS) : TS := λ D σ H => c σ H λ b H1 => Br b (t D σ H1) (u D σ H1)
def Ame (t u : TT) : TT := λ σ H Q => t σ H λ c H1 => Br c (u σ H1 Q) (Q false H1)
def qOr (t u : TT) : TT := λ σ H Q => t σ H λ c H1 => Br c (Q true H1) (u σ H1 Q)
def Ahq (c : TT) (tb : TS) : TS := λ D σ H => ∃ W : Nat -> St -> Hp -> Prop, (∃ m, W m σ H) /\ ∀ m σ H, W m σ H ->
 c σ H λ b H1 => Br b (∃ N : St -> Hp -> Prop, (∀ σ' H', N σ' H' -> ∃ m', m' < m /\ W m' σ' H') /\ tb { D with nx := N, ct := N, bk := D.nx } σ H1) (D.nx σ H1)
def Ael (r r' : R2) (ta tb tc : TE) : TE := λ σ H Q => ta σ H λ x H1 => tb σ H1 λ y H2 => r x y H2 λ z H3 => asB z λ k => Br k (tc σ H3 λ w' H4 => r' y w' H4 Q) (Q (.bl false) H3)
def Aj3 (ta : TE) : TE := λ σ H Q => ta σ H λ x H1 => asB x λ c => Q (.bl (!c)) H1
def Amv (t : TA) : TE := λ σ H Q => t σ H λ xs H1 => tupQ xs.length (∀ p, H1 p = none -> Q (.ref p) (upd H1 p (.tup xs)))
def Ami (t : TA) : TE := λ σ H Q => t σ H λ xs H1 => tupQ xs.length (∀ p, H1 p = none -> Q (.ref p) (upd H1 p (.lst xs)))
def Ak4 : List V -> Hp -> VK -> Prop := λ xs H Q => as2 xs λ x y => asI x λ i => asI y λ j => Q (.int (if j > i then j else i)) H
def Ak1 : List V -> Hp -> VK -> Prop := λ xs H Q => as2 xs λ x y => asI x λ i => asI y λ j => Q (.int (if j < i then j else i)) H
inductive IxT (K : W.Frag) (H : Hp) (p : Addr) (i : Int) (k : V -> Prop) : Prop where
 | mk {xs : List V} {v : V} (h : SqT K H p xs) (e : atI xs i = some v) (q : k v) : IxT K H p i k
inductive IxL (K : W.Frag) (H : Hp) (p : Addr) (i : Int) (k : V -> Prop) : Prop where
 | mk {xs : List V} {v : V} (h : SqL K H p xs) (e : atI xs i = some v) (q : k v) : IxL K H p i k
def rQT (K : W.Frag) : R2 := λ x y H Q => asR x λ p => asI y λ i => IxT K H p i λ v => Q v H
def rQL (K : W.Frag) : R2 := λ x y H Q => asR x λ p => asI y λ i => IxL K H p i λ v => Q v H
inductive FdQ (K : W.Frag) (H : Hp) (a : Addr) (f : Str) (k : V -> Prop) : Prop where
 | mk {C dx : Addr} {fs : List (Str × V)} {v : V} (h : H a = some (.ins C dx fs)) (c : Cls K C) (n : NoAttr K C f) (e : fs.lookup f = some v) (q : k v) : FdQ K H a f k
def Alq (K : W.Frag) (ta : TE) (f : Str) : TE := λ σ H Q => ta σ H λ x H1 => asR x λ a => FdQ K H1 a f λ v => Q v H1
def Ae1 (f : Str) (v : V) : List (Str × V) -> List (Str × V)
 | [] => [(f, v)]
 | (g, x) :: r => cond (g == f) ((g, v) :: r) ((g, x) :: Ae1 f v r)
theorem Abi (f : Str) (v : V) : ∀ fs : List (Str × V), Ae1 f v fs = ou f v fs
 | [] => rfl
 |
  (g, x) :: r => by
  show cond (g == f) ((g, v) :: r) ((g, x) :: Ae1 f v r) = if g = f then (g, v) :: r else (g, x) :: ou f v r
  rw [Abi f v r]
  by_cases h : g = f
  · rw [if_pos h, show (g == f) = true by rw [beq_iff_eq]; exact h]; rfl
  · rw [if_neg h, show (g == f) = false by rw [beq_eq_false_iff_ne]; exact h]; rfl
def shQ (n : Nat) (k : Prop) : Prop := cond (Nat.ble n 999) k False
def Aic (h : shQ n k) : n < 1000 /\ k := by
 obtain ⟨e, q⟩ := cond_of h
 exact ⟨Nat.lt_succ_of_le (Apb e), q⟩
inductive SfQ (K : W.Frag) (H : Hp) (a : Addr) (f : Str) (y : V) (k : Hp -> Prop) : Prop where
 | mk {C dx : Addr} {fs : List (Str × V)} (h : H a = some (.ins C dx fs)) (c : Cls K C) (n : NoAttr K C f) (q : shQ fs.length (k (upd H a (.ins C dx (Ae1 f y fs))))) : SfQ K H a f y k
def Akz (K : W.Frag) (ta tv : TE) (f : Str) : TS := λ D σ H => tv σ H λ y H1 => ta σ H1 λ x H2 => asR x λ a => SfQ K H2 a f y (D.nx σ)
inductive MtQ (H : Hp) (a : Addr) (m : Str) (D : Addr -> (V -> List V -> Hp -> VK -> Prop) -> Prop) (k : (V -> List V -> Hp -> VK -> Prop) -> Prop) : Prop where
 | mk {C dx : Addr} {fs : List (Str × V)} {R : V -> List V -> Hp -> VK -> Prop} (h : H a = some (.ins C dx fs)) (e : fs.lookup m = none) (d : D C R) (q : k R) : MtQ H a m D k
def Aie (m : Str) (n : Nat) (D : Addr -> (V -> List V -> Hp -> VK -> Prop) -> Prop) (ta : TE) (t : TA) : TE := λ σ H Q => ta σ H λ x H1 => asR x λ a => MtQ H1 a m D λ R => t σ H1 λ vs H2 => Ald vs n (R x vs H2 Q)
def Aht (m : Str) (D : Addr -> (V -> List V -> Hp -> VK -> Prop) -> Prop) (ta : TE) : TE := λ σ H Q => ta σ H λ x H1 => asR x λ a => MtQ H1 a m D λ R => R x [] H1 Q
variable {X : Cx}
def OpR.mono (h : OpR X f r) (m : ∀ x y H Q, r' x y H Q -> r x y H Q) : OpR X f r' := λ p s σ H x y v u Q I rx ry q => h p s σ H x y v u Q I rx ry (m x y H Q q)
def PE.mono (h : PE X e t) (m : ∀ σ H Q, t' σ H Q -> t σ H Q) : PE X e t' := λ p s σ H Q I q => h p s σ H Q I (m σ H Q q)
def PT.mono (h : PT X e t) (m : ∀ σ H Q, t' σ H Q -> t σ H Q) : PT X e t' := λ p s σ H Q I q => h p s σ H Q I (m σ H Q q)
def Ag0 (h : OpR X f (rI0 g)) : OpR X f (λ x y H Q => asI x λ i => asI y λ j => Q (g i j) H) := h.mono λ x y H Q q => by
 obtain ⟨i, rfl, q1⟩ := Py q
 obtain ⟨j, rfl, q2⟩ := Py q1
 exact ⟨i, j, rfl, rfl, q2⟩
def Amf (h : OpR X f (rI C g)) (hc : ∀ i j : Int, 0 < j -> j < 1073741824 -> C i j) : OpR X f (λ x y H Q => asI x λ i => asI y λ j => Ajt j (Q (g i j) H)) := h.mono λ x y H Q q => by
 obtain ⟨i, rfl, q1⟩ := Py q
 obtain ⟨j, rfl, q2⟩ := Py q1
 obtain ⟨⟨l, u⟩, q⟩ := Ae8 q2
 exact ⟨i, j, rfl, rfl, hc i j l u, q⟩
def Ap : OpR X (binaryOp .Add) Akc := Ag0 Ahi
def A7 : OpR X (binaryOp .Sub) Ajw := Ag0 Ah3
def Ni : OpR X (compareOp .Lt) Amx := Ag0 Akb
def jn : OpR X (compareOp .LtE) Aml := Ag0 Aj6
def lr : OpR X (compareOp .Gt) Al6 := Ag0 Ajp
def Aaf : OpR X (compareOp .GtE) Amu := Ag0 Ajx
def As : OpR X (binaryOp .Mod) Aju := Og.mono λ x y H Q q => by
 obtain ⟨i, rfl, q1⟩ := Py q
 obtain ⟨j, rfl, q2⟩ := Py q1
 exact ⟨i, j, rfl, rfl, Agd q2⟩
def Au : OpR X (binaryOp .FloorDiv) Ak6 := Amf uh λ _ _ h g => ⟨h, g⟩
def Be : OpR X (compareOp .Eq) Amk := Agk.mono λ _ _ _ _ q => cond_of q
def yg : OpR X (compareOp .NotEq) Al4 := Akf.mono λ _ _ _ _ q => cond_of q
def k6 : OpR X (compareOp .Is) Amy := Ai1.mono λ _ _ _ _ q => Aew q
def vm : OpR X (compareOp .IsNot) Alw := Agy.mono λ _ _ _ _ q => Aew q
def Y0 : UnR X (unaryOp .USub) Akd := λ p s σ H x v Q I rx q => Aex p s σ H x v Q I rx (Py q)
def qv (i : Nat) (hN : X.N[i]? = some x := by rfl) (hv : Vis X.env.scope x := by first | exact Or.inl rfl | exact Or.inr (Or.inl rfl) | exact Or.inr (Or.inr rfl)) (hd : (x == ("__debug__" : Str)) = false := by decide)
 (hcd : (x == ("__classdict__" : Str)) = false := by decide) : PE X (.Name x pos) (Ak7 i) := (Aih hN hv hd hcd).mono λ σ _ _ q => by rw [Ak7, Aas] at q; exact Ai4 q
def clo (t : TE) : TE := λ σ H Q => ∃ R, t σ H R /\ ∀ x H1, R x H1 -> Q x H1
def Al5 (t : TA) : TA := λ σ H Q => ∃ R, t σ H R /\ ∀ x H1, R x H1 -> Q x H1
theorem PE.clo (h : PE X e t) : PE X e (clo t) := λ p s σ H _ I ⟨R, q, m⟩ => thn (h p s σ H R I q) λ _ _ ⟨v, H1, I1, r, q⟩ => ⟨v, H1, I1, r, m v H1 q⟩
def PA.clo (h : PA X es t) : PA X es (Al5 t) := λ o p s σ H _ I ⟨R, q, m⟩ => thn (h o p s σ H R I q) λ _ _ ⟨v, H1, I1, r, q⟩ => ⟨v, H1, I1, r, m v H1 q⟩
def OpR.clo (h : OpR X f r) : OpR X f (λ x y H Q => ∃ R, r x y H R /\ ∀ x H1, R x H1 -> Q x H1) := λ p s σ H x y v u _ I rx ry ⟨R, q, m⟩ => thn (h p s σ H x y v u R I rx ry q) λ _ _ ⟨v, H1, I1, r, q⟩ => ⟨v, H1, I1, r, m v H1 q⟩
def Al7 (t : TT) : TT := λ σ H Q => ∃ R, t σ H R /\ ∀ x H1, R x H1 -> Q x H1
def PT.clo (h : PT X e t) : PT X e (Al7 t) := λ p s σ H _ I ⟨R, q, m⟩ => thn (h p s σ H R I q) λ _ _ ⟨H1, I1, q⟩ => ⟨H1, I1, m _ H1 q⟩
def Al (ho : OpR X (compareOp op) r) (ha : PE X a ta) (hb : PE X b tb) (hm : behindInMarks op b = false) : PT X (.Compare a [op] [b] pos) (Afm (tOp r ta tb)) :=
 (Afy ho.clo ha.clo hb.clo hm).mono λ _ _ _ q => ⟨_, q, λ _ _ q => ⟨_, q, λ _ _ q => ⟨_, q, λ _ _ q => Wc q⟩⟩⟩
def Dz (h : PE X e t) (he : ∀ whole, isTrue e X.env whole = (do let v ← whole; standAt e.pos; holding [v] (truthy v)) := by intro _; rfl) : PT X e (Afm t) :=
 (Aij h.clo he).mono λ _ _ _ q => ⟨_, q, λ _ _ q => Wc q⟩
def Dx {a : Expr} {ta tb : TE} {pos : Pos} {rest : List Expr} (ha : PE X a ta) (hb : PE X (.BoolOp .And (b :: rest) pos) tb) : PE X (.BoolOp .And (a :: b :: rest) pos) (Ajy ta tb) := (Ahh ha.clo hb).mono λ _ _ _ q => ⟨_, q, λ _ _ q => (Wc q).elim λ c q => ⟨c, q.1, q.2.of⟩⟩
def zt {a : Expr} {ta tb : TE} {pos : Pos} {rest : List Expr} (ha : PE X a ta) (hb : PE X (.BoolOp .Or (b :: rest) pos) tb) : PE X (.BoolOp .Or (a :: b :: rest) pos) (Al2 ta tb) := (Akp ha.clo hb).mono λ _ _ _ q => ⟨_, q, λ _ _ q => (Wc q).elim λ c q => ⟨c, q.1, q.2.of⟩⟩
def M9 {a : Expr} {pos : Pos} {rest : List Expr} {tA tB' : TT} (ha : PT X a tA) (hb : PW X (.BoolOp .And (b :: rest) pos) tB') : PW X (.BoolOp .And (a :: b :: rest) pos) (Ame tA tB') := λ wh p s σ H Q I q => Ag6 ha.clo hb wh p s σ H Q I ⟨_, q, λ _ _ q => q.of⟩
def o8 {a : Expr} {pos : Pos} {rest : List Expr} {tA tB' : TT} (ha : PT X a tA) (hb : PW X (.BoolOp .Or (b :: rest) pos) tB') : PW X (.BoolOp .Or (a :: b :: rest) pos) (qOr tA tB') := λ wh p s σ H Q I q => Akh ha.clo hb wh p s σ H Q I ⟨_, q, λ _ _ q => q.of⟩
def Ey (hc : PT X c tA) (ha : PE X a ta) (hb : PE X b tb) : PE X (.IfExp c a b pos) (qIf tA ta tb) := (Adb hc.clo ha hb).mono λ _ _ _ q => ⟨_, q, λ _ _ q => q.of⟩
def A4 (hc : PT X c tc) (ha : PSs X sa t) (hb : PSs X sb u) : PS X (.If c sa sb pos) (Amz tc t u) := λ p s σ H D I q => Ak3 hc.clo ha hb p s σ H D I ⟨_, q, λ _ _ q => q.of⟩
def Uq (hp : PassesOwn (model X.prog X.w) X.A X.env X.xe) (hc : PT X c tc) (hb : PSs X body tb) : PS X (.While c body [] pos) (Ahq tc tb) := λ p s σ H D I ⟨W, w, q⟩ => Adm hp hc.clo hb p s σ H D I ⟨W, w, λ m σ H w => ⟨_, q m σ H w, λ _ _ q => q.of⟩⟩
def mj (ho : OpR X (compareOp op) r) (ho' : OpR X (compareOp op') r') (ha : PE X a ta) (hb : PE X b tb) (hc : PE X c tc)
  (hm : lastMarks [op, op'] [b, c] = false := by with_unfolding_all rfl) : PE X (.Compare a [op, op'] [b, c] pos) (Ael r r' ta tb tc) :=
 (Ady ho.clo ho'.clo ha.clo hb.clo hc.clo hm).mono λ _ _ _ q => ⟨_, q, λ _ _ q => ⟨_, q, λ _ _ q => ⟨_, q, λ _ _ q => (Wc q).elim λ c q => ⟨c, q.1, by
  have := q.2.of
  cases c with
  | true => exact ⟨_, this, λ _ _ q => ⟨_, q, λ _ _ q => q⟩⟩
  | false => exact this⟩⟩⟩⟩
def bw (ho : OpR X (compareOp op) r) (ho' : OpR X (compareOp op') r') (ha : PE X a ta) (hb : PE X b tb) (hc : PE X c tc)
  (hm : lastMarks [op, op'] [b, c] = false := by with_unfolding_all rfl) : PT X (.Compare a [op, op'] [b, c] pos) (Afm (Ael r r' ta tb tc)) :=
 (Ac0 ho.clo ho'.clo ha.clo hb.clo hc.clo hm).mono λ _ _ _ q => ⟨_, q, λ _ _ q => ⟨_, q, λ _ _ q => ⟨_, q, λ _ _ q => (Wc q).elim λ c q => ⟨c, q.1, by
  have := q.2.of
  cases c with
  | true => exact ⟨_, this, λ _ _ q => ⟨_, q, λ _ _ q => Wc q⟩⟩
  | false => exact Wc this⟩⟩⟩⟩
def Abo (ha : PE X a ta) : PE X (.UnaryOp .Not a pos) (Aj3 ta) := (Aii ha.clo).mono λ _ _ _ q => ⟨_, q, λ _ _ q => Wc q⟩
def Bo {x1} (h : PA X es t) : PE X (.Tuple es x1 pos) (Amv t) := (Aja h.clo).mono λ _ _ _ q => ⟨_, q, λ _ _ q => zz q⟩
def Lb (h : PA X es t) : PE X (.List es pos) (Ami t) := (Aiw h.clo).mono λ _ _ _ q => ⟨_, q, λ _ _ q => zz q⟩
def O4 (hc : X.calm = true) : J0 X (.builtin "max") Ak4 := λ p s σ H xs us Q I r q => zy hc p s σ H xs us Q I r (by
 obtain ⟨x, y, rfl, q0⟩ := Aeh q
 obtain ⟨i, rfl, q1⟩ := Py q0
 obtain ⟨j, rfl, q2⟩ := Py q1
 exact ⟨i, j, rfl, q2⟩)
def J1 (hc : X.calm = true) : J0 X (.builtin "min") Ak1 := λ p s σ H xs us Q I r q => Aba hc p s σ H xs us Q I r (by
 obtain ⟨x, y, rfl, q0⟩ := Aeh q
 obtain ⟨i, rfl, q1⟩ := Py q0
 obtain ⟨j, rfl, q2⟩ := Py q1
 exact ⟨i, j, rfl, q2⟩)
def IxR.mono (h : IxR X r) (m : ∀ x y H Q, r' x y H Q -> r x y H Q) : IxR X r' := λ a b p s σ H x y v u Q I rx ry q => h a b p s σ H x y v u Q I rx ry (m x y H Q q)
def Aha {K : W.Frag} (hK : X.K = K) : IxR X (rQT K) := (Ags hK).mono λ x y H Q q => by
 obtain ⟨p, rfl, q0⟩ := kh q
 obtain ⟨i, rfl, h, e, q⟩ := Py q0
 exact ⟨p, _, i, _, rfl, rfl, h, e, q⟩
def Af7 {K : W.Frag} (hK : X.K = K) : IxR X (rQL K) := (Aco hK).mono λ x y H Q q => by
 obtain ⟨p, rfl, q0⟩ := kh q
 obtain ⟨i, rfl, h, e, q⟩ := Py q0
 exact ⟨p, _, i, _, rfl, rfl, h, e, q⟩
def Ajg {e : Expr} {ta : TE} {K : W.Frag} {f : Str} (hK : X.K = K) (he : PE X e ta) (hb : attributeBase e f X.env (eval e X.env) = eval e X.env := by rfl) : PE X (.Attribute e f pos) (Alq K ta f) := (Agc hK he.clo hb).mono λ _ _ _ q => ⟨_, q, λ _ _ q => by
 obtain ⟨p, rfl, h, c, n, e, q⟩ := kh q
 exact ⟨p, _, _, _, _, rfl, h, c, n, e, q⟩⟩
def Ci {ta : TE} {pos : Pos} {K : W.Frag} {f : Str} {o value : Expr} {tv : TE} {pos' : Pos} (hK : X.K = K) (ha : PE X o ta) (hv : PE X value tv) (hs : swapsWith value (some (.Attribute o f pos')) pos.line X.env = pure false := by rfl) : PS X (.Assign [.Attribute o f pos'] value pos) (Akz K ta tv f) :=
 λ p s σ H D I q => Agb hK ha.clo hv.clo hs p s σ H D I ⟨_, q, λ _ _ q => ⟨_, q, λ _ _ q => by
  obtain ⟨p, rfl, h, c, n, q⟩ := kh q
  obtain ⟨l, q⟩ := Aic q
  rw [Abi] at q
  exact ⟨p, _, _, _, rfl, h, c, n, l, q⟩⟩⟩
def Ax (he : PE X o ta) (hD : ∀ C R, D C R -> Ans X m n C R) (ha : PA X (e :: es) t)
  (hst : starEach (e :: es) X.env = (false, eval e X.env) :: starEach es X.env := by rfl) (hpl : (backTo pos (starEach es X.env)).any (·.1) = false := by rfl)
  (ht : eval (.Call (.Attribute o m apos) (e :: es) [] pos) X.env = (do
   let ov ← eval o X.env
   standAt apos.atName
   let (f, first) ← holding [ov] (getMethod ov m pl)
   callWith pos f first (backTo pos (starEach (e :: es) X.env)) (backToKw pos (keywordEach [] X.env))) := by rfl) :
  PE X (.Call (.Attribute o m apos) (e :: es) [] pos) (Aie m n D ta t) := (Adw he.clo hD ha.clo hst hpl ht).mono λ _ _ _ q => ⟨_, q, λ _ _ q => by
 obtain ⟨p, rfl, h, e, d, q⟩ := kh q
 exact ⟨p, _, _, _, _, rfl, h, e, d, _, q, λ _ _ q => Afo q⟩⟩
def eo (he : PE X o ta) (hD : ∀ C R, D C R -> Ans X m 0 C R)
  (ht : eval (.Call (.Attribute o m apos) [] [] pos) X.env = (do
   let ov ← eval o X.env
   standAt apos.atName
   let (f, first) ← holding [ov] (getMethod ov m pl)
   callWith pos f first (backTo pos (starEach [] X.env)) (backToKw pos (keywordEach [] X.env))) := by rfl) :
  PE X (.Call (.Attribute o m apos) [] [] pos) (Aht m D ta) := (Ab6 he.clo hD ht).mono λ _ _ _ q => ⟨_, q, λ _ _ q => by
 obtain ⟨p, rfl, h, e, d, q⟩ := kh q
 exact ⟨p, _, _, _, _, rfl, h, e, d, q⟩⟩
def qc {es : List Expr} {t : TA} {x : Str} {j k : Nat} {f : Addr} {fd : FuncData} {ps : List Str} {sp : Sp} {x1 x2 : Str} {st : Stmt} (F : FnOk X.prog X.w X.K X.mg X.base CX0 true j f fd ps sp) (hr : Room true k X.A) (hm : X.mg x = some (.ref f)) (G : Fun X.K x1 x2 st f fd) (hb : Binds X.K fd ps []) (ha : PA X (e :: es) t)
 (hj : j <= k := by first | decide | lia) (hg : Gl X x := by rfl) (hdb : (x == ("__debug__" : Str)) = false := by decide) (he : starEach (e :: es) X.env = (false, eval e X.env) :: starEach es X.env := by rfl) (hpl : (backTo pos (starEach es X.env)).any (·.1) = false := by rfl) :
 PE X (.Call (.Name x p) (e :: es) [] pos) (Agx sp [] E0 t) := Agw (F.mono hj) hr hg hm G.kp hb .nil Js ha hdb he hpl
def Cr (i : Nat) (hN : X.N.Nodup) (he : PE X e te) (hi : X.N[i]? = some x := by rfl) (hx : Loc X.env.scope x := by first | exact .inl rfl | exact .inr rfl) (hs : swapsWith e (some (.Name x pos')) pos.line X.env = pure false := by rfl)
 (hf : X.fn x = true ∨ X.env.scope.names.lookup x = some .local := by first | exact .inl rfl | exact .inr rfl | assumption) : PS X (.Assign [.Name x pos'] e pos) (Ajl te (df i)) := Ai3 hN hi hx he hs hf
def qnm (i : Nat) (hN : X.N.Nodup) (hi : X.N[i]? = some x := by rfl) (hx : Loc X.env.scope x := by first | exact .inl rfl | exact .inr rfl)
 (hf : X.fn x = true ∨ X.env.scope.names.lookup x = some .local := by first | exact .inl rfl | exact .inr rfl | assumption) : PG X (.Name x pos) (df i) := Hi hN hi hx hf
def qsc (h1 : s.kind = .function := by rfl) (h2 : s.isCoroutine = false := by rfl) (h3 : s.isGenerator = false := by rfl) (h4 : N.Nodup := by decide +kernel) (h5 : N.take P.length = P := by rfl)
 (h6 : ∀ x ∈ P, s.names.lookup x = some .local ∨ s.names.lookup x = some .cell := by decide +kernel) (h7 : ∀ y ∈ s.names, y.2 ≠ .free := by decide +kernel) : Aw N P s := ⟨h1, h2, h3, h4, h5, h6, h7⟩
def qix (K) (ha : PE X a ta) (hb : PE X b tb) (hK : X.K = K := by rfl) (hs : vt b := by exact λ _ _ => rfl) : PE X (.Subscript a b pos) (tOp (rQT K) ta tb) := Ag8 (Aha hK) ha hb hs
def qil (K) (ha : PE X a ta) (hb : PE X b tb) (hK : X.K = K := by rfl) (hs : vt b := by exact λ _ _ => rfl) : PE X (.Subscript a b pos) (tOp (rQL K) ta tb) := Ag8 (Af7 hK) ha hb hs
def qf (K) (he : PE X e te) (hK : X.K = K := by rfl) (hb : attributeBase e f' X.env (eval e X.env) = eval e X.env := by rfl) : PE X (.Attribute e f' pos) (Alq K te f') := Ajg hK he hb
def Fun.go {P : Program} {w : World} {K : W.Frag} {mg : Str -> Option Value} {base : Heap} {cm : Bool} {x qual : Str} {st : Stmt} {f : Addr} {fd : FuncData} {N ps : List Str} {k : Nat} {sp : Sp} (F : Fun K x qual st f fd) (S : Aw N ps (Ah st))
 (hbody : ∀ (cdv : Value) (A : Around) (outer : List Env) (s : Shared) (H : Hp) (vs : List V) (Q : VK) (E : XK), Room cm k (A.deeper (envOfC qual (Ah st) s.heap.objs.size f cdv)) -> sp vs H Q E ->
  ∃ t, PSs (xn CX0 cm P w K mg base N qual (Ah st) f cdv A outer s H E).nox (Ay st) t /\ t { nx := λ _ H' => Q .non H', rt := λ _ => Q } (start N vs) H)
 (len : ∀ vs H Q E, sp vs H Q E -> vs.length = ps.length := by intro vs H Q E h; (repeat (first | (obtain ⟨e, _⟩ := h; subst e; rfl) | obtain ⟨_, h⟩ := h))) : FnOk P w K mg base CX0 cm (k + 1) f fd ps sp := F.ok S len hbody
def Fun.gq {P : Program} {w : World} {K : W.Frag} {mg : Str -> Option Value} {base : Heap} {cm : Bool} {x qual : Str} {st : Stmt} {f : Addr} {fd : FuncData} {ps : List Str} {k : Nat} {sp : Sp} (F : Fun K x qual st f fd) (N : List Str)
 (hbody : ∀ (cdv : Value) (A : Around) (outer : List Env) (s : Shared) (H : Hp) (vs : List V) (Q : VK) (E : XK), Room cm k (A.deeper (envOfC qual (Ah st) s.heap.objs.size f cdv)) -> sp vs H Q E ->
  ∃ t, PSs (xn CX0 cm P w K mg base N qual (Ah st) f cdv A outer s H E).nox (Ay st) t /\ t { nx := λ _ H' => Q .non H', rt := λ _ => Q } (start N vs) H)
 (S : Aw N ps (Ah st) := by exact qsc) (len : ∀ vs H Q E, sp vs H Q E -> vs.length = ps.length := by intro vs H Q E h; (repeat (first | (obtain ⟨e, _⟩ := h; subst e; rfl) | obtain ⟨_, h⟩ := h))) : FnOk P w K mg base CX0 cm (k + 1) f fd ps sp := F.ok S len hbody
def FunD.go {P : Program} {w : World} {K : W.Frag} {mg : Str -> Option Value} {base : Heap} {cm : Bool} {x qual : Str} {st : Stmt} {f : Addr} {fd : FuncData} {N ps : List Str} {k : Nat} {sp : Sp} (F : FunD K x qual st f fd) (S : Aw N ps (Ah st))
 (hbody : ∀ (cdv : Value) (A : Around) (outer : List Env) (s : Shared) (H : Hp) (vs : List V) (Q : VK) (E : XK), Room cm k (A.deeper (envOfC qual (Ah st) s.heap.objs.size f cdv)) -> sp vs H Q E ->
  ∃ t, PSs (xn CX0 cm P w K mg base N qual (Ah st) f cdv A outer s H E).nox (Ay st) t /\ t { nx := λ _ H' => Q .non H', rt := λ _ => Q } (start N vs) H)
 (len : ∀ vs H Q E, sp vs H Q E -> vs.length = ps.length := by intro vs H Q E h; (repeat (first | (obtain ⟨e, _⟩ := h; subst e; rfl) | obtain ⟨_, h⟩ := h))) : FnOk P w K mg base CX0 cm (k + 1) f fd ps sp := F.ok S len hbody
def FunD.gq {P : Program} {w : World} {K : W.Frag} {mg : Str -> Option Value} {base : Heap} {cm : Bool} {x qual : Str} {st : Stmt} {f : Addr} {fd : FuncData} {ps : List Str} {k : Nat} {sp : Sp} (F : FunD K x qual st f fd) (N : List Str)
 (hbody : ∀ (cdv : Value) (A : Around) (outer : List Env) (s : Shared) (H : Hp) (vs : List V) (Q : VK) (E : XK), Room cm k (A.deeper (envOfC qual (Ah st) s.heap.objs.size f cdv)) -> sp vs H Q E ->
  ∃ t, PSs (xn CX0 cm P w K mg base N qual (Ah st) f cdv A outer s H E).nox (Ay st) t /\ t { nx := λ _ H' => Q .non H', rt := λ _ => Q } (start N vs) H)
 (S : Aw N ps (Ah st) := by exact qsc) (len : ∀ vs H Q E, sp vs H Q E -> vs.length = ps.length := by intro vs H Q E h; (repeat (first | (obtain ⟨e, _⟩ := h; subst e; rfl) | obtain ⟨_, h⟩ := h))) : FnOk P w K mg base CX0 cm (k + 1) f fd ps sp := F.ok S len hbody
def qan (c : Cls X.K C) (hm : Meth X.K C m f) (F : FnOk X.prog X.w X.K X.mg X.base CX0 cm k f fd ps sp) (hr : Room cm k X.A) (hb : Binds X.K fd ps []) : Ans X m n C (λ x vs H Q => sp (x :: (vs ++ [])) H Q E0) :=
 ⟨c, _, _, _, _, _, _, _, _, _, _, hm, F, hr, hb, .nil, Js, λ _ _ _ _ _ h => h⟩
def qb {es : List Expr} {t : TA} {x : Str} {id : String} {r : List V -> Hp -> VK -> Prop} (hc : J0 X (.builtin id) r) (hm : X.mg x = none) (ha : PA X (e :: es) t) (hg : Gl X x := by rfl) (hv : bootBuiltins x = some (.builtin id) := by decide +kernel) (hn : x ≠ "__name__" := by decide) (hdb : (x == ("__debug__" : Str)) = false := by decide)
 (he : starEach (e :: es) X.env = (false, eval e X.env) :: starEach es X.env := by rfl) (hpl : (backTo pos (starEach es X.env)).any (·.1) = false := by rfl) : PE X (.Call (.Name x p) (e :: es) [] pos) (tCB r t) := Acr hc hg hm hv ha hn hdb he hpl
def qty (hc : J0 X (.type T) r) (hm : X.mg x = none) (ha : PA X (e :: es) t) (hg : Gl X x := by rfl) (hv : bootBuiltins x = some (.type T) := by decide +kernel) (hn : x ≠ "__name__" := by decide) (hdb : (x == ("__debug__" : Str)) = false := by decide)
 (he : starEach (e :: es) X.env = (false, eval e X.env) :: starEach es X.env := by rfl) (hpl : (backTo pos (starEach es X.env)).any (·.1) = false := by rfl) : PE X (.Call (.Name x p) (e :: es) [] pos) (tCB r t) := Aaw hc hg hm hv ha hn hdb he hpl
def qm (M : Mk X.K C f) (F : FnOk X.prog X.w X.K X.mg X.base CX0 true j f fd ps sp) (hr : Room true (k + 1) X.A) (hm : X.mg x = some (.ref C)) (hb : Binds X.K fd ps []) (ha : PA X (e :: es) t) (hj : j <= k := by first | decide | lia) (hg : Gl X x := by rfl)
 (hdb : (x == ("__debug__" : Str)) = false := by decide) (he : starEach (e :: es) X.env = (false, eval e X.env) :: starEach es X.env := by rfl) (hpl : (backTo pos (starEach es X.env)).any (·.1) = false := by rfl) :
 PE X (.Call (.Name x p) (e :: es) [] pos) (Air C sp [] E0 t) := Gm M (F.mono hj) hr hg hm hb .nil Js ha hdb he hpl
end L2
set_option smartUnfolding false
namespace K14
open PySem L2
def top (i : Nat) : Stmt := PySem.Challenge.pw_hourhouse_k14_joined_falls.main.body.getD i (.Pass ⟨0, 0, 0, 0⟩)
abbrev xi : Stmt := top 11
abbrev pd : Stmt := top 12
abbrev Ss : Stmt := top 14
abbrev qj : Stmt := top 18
abbrev Va : Stmt := top 22
abbrev Qm : Stmt := top 29
abbrev Tc : Stmt := inClass (top 30) 0
abbrev Cw : Stmt := inClass (top 30) 1
abbrev Bx : Stmt := inClass (top 31) 2
abbrev R8 : Stmt := inClass (top 33) 0
abbrev U8 : Stmt := inClass (top 38) 0
abbrev xl : Stmt := top 42
abbrev Bj : Stmt := inClass (top 43) 0
abbrev Px : Stmt := inClass (top 44) 1
abbrev Sm : Stmt := inClass (top 44) 0
abbrev Xn : Stmt := inClass (top 45) 0
abbrev Sl : Stmt := inClass (top 45) 1
abbrev Ow : Stmt := inClass (top 45) 2
abbrev Zd : Stmt := inClass (top 46) 0
abbrev Ql : Stmt := inClass (top 46) 2
abbrev U1 : Stmt := inClass (top 46) 1
abbrev Ry : Stmt := inClass (top 47) 2
abbrev Tj : Stmt := inClass (top 47) 0
abbrev Pk : Stmt := inClass (top 47) 1
abbrev Gb : Stmt := inClass (top 48) 2
abbrev Dt : Stmt := inClass (top 49) 1
abbrev Hl : Stmt := inClass (top 49) 2
abbrev Bm : Stmt := inClass (top 49) 0
abbrev Xi : Stmt := top 51
abbrev X5 : Stmt := top 52
abbrev la : Stmt := top 53
abbrev Yo : Stmt := top 55
abbrev lg : Stmt := top 59
abbrev k9 : Stmt := top 60
abbrev dn : Stmt := top 62
abbrev Zc : Stmt := top 13
abbrev Qd : Stmt := top 15
abbrev fe : Stmt := top 23
abbrev rq : Stmt := top 25
abbrev Zj : Stmt := top 26
abbrev M8 : Stmt := inClass (top 31) 3
abbrev Rv : Stmt := inClass (top 31) 1
abbrev Ly : Stmt := inClass (top 32) 1
abbrev Ca : Stmt := inClass (top 37) 2
abbrev Lk : Stmt := inClass (top 38) 1
abbrev R5 : Stmt := inClass (top 44) 2
abbrev R3 : Stmt := inClass (top 48) 0
abbrev N8 : Stmt := inClass (top 48) 1
abbrev Ge : Stmt := inClass (top 49) 5
abbrev Gk : Stmt := inClass (top 49) 3
abbrev Y9 : Stmt := top 54
abbrev gj : Stmt := top 61
abbrev Rg : Stmt := top 64
abbrev Ya : Stmt := top 16
abbrev Xl : Stmt := top 24
abbrev Q0 : Stmt := top 27
abbrev Tf : Stmt := top 28
abbrev Cz : Stmt := inClass (top 31) 0
abbrev M7 : Stmt := inClass (top 32) 2
abbrev Sf : Stmt := inClass (top 37) 1
abbrev Q4 : Stmt := inClass (top 37) 0
abbrev Bw : Stmt := inClass (top 38) 2
abbrev N3 : Stmt := inClass (top 49) 4
abbrev Xy : Stmt := top 56
abbrev ed : Stmt := top 57
abbrev d4 : Stmt := top 17
abbrev Cj : Stmt := inClass (top 32) 0
abbrev Pg : Stmt := inClass (top 32) 3
abbrev Bl : Stmt := inClass (top 32) 4
abbrev Ro : Stmt := inClass (top 34) 1
abbrev Bz : Stmt := inClass (top 34) 0
abbrev Ep : Stmt := inClass (top 35) 0
abbrev Za : Stmt := inClass (top 35) 1
abbrev Sx : Stmt := inClass (top 36) 1
abbrev O6 : Stmt := top 58
abbrev Np : Stmt := top 63
abbrev Lo : Stmt := top 66
abbrev Bg : Stmt := inClass (top 33) 3
abbrev Iv : Stmt := inClass (top 33) 2
abbrev Bv : Stmt := inClass (top 36) 0
abbrev Vn : Stmt := top 67
abbrev O8 : Stmt := top 70
abbrev Hs : Stmt := top 71
abbrev Pb : Stmt := inClass (top 30) 2
abbrev X2 : Stmt := top 65
abbrev Qp : Stmt := top 68
abbrev Yg : Stmt := top 72
abbrev M3 : Stmt := top 73
abbrev Kp : Stmt := top 74
abbrev G8 : Stmt := top 75
abbrev vj : Stmt := top 76
set_option genInjectivity false
set_option genSizeOf false
structure Adr where
 aw : Addr
 bj : FuncData
 Wa : Addr
 Ws : FuncData
 N7 : Addr
 Nv : FuncData
 Xr : Addr
 Wk : FuncData
 Kt : Addr
 Kz : FuncData
 L5 : Addr
 Mc : FuncData
 Jj : Addr
 Ig : FuncData
 Ko : Addr
 Kk : FuncData
 Iw : Addr
 Ji : FuncData
 Fe : Addr
 Gy : FuncData
 Kh : Addr
 Kj : FuncData
 bq : Addr
 a9 : FuncData
 Bk : Addr
 Fd : FuncData
 Em : Addr
 Ee : FuncData
 Jp : Addr
 Hy : FuncData
 Mn : Addr
 Ml : FuncData
 F1 : Addr
 Fu : FuncData
 Gv : Addr
 Gn : FuncData
 Om : Addr
 Nr : FuncData
 Jd : Addr
 Jn : FuncData
 Gw : Addr
 Gp : FuncData
 E8 : Addr
 Fb : FuncData
 Iu : Addr
 Im : FuncData
 Ed : Addr
 Eb : FuncData
 Ea : Addr
 Eh : FuncData
 Dj : Addr
 Du : FuncData
 E7 : Addr
 E5 : FuncData
 G5 : Addr
 Cp : FuncData
 Mb : Addr
 L8 : FuncData
 Ui : Addr
 T4 : FuncData
 Ue : Addr
 Uk : FuncData
 Ul : Addr
 Uo : FuncData
 Uh : Addr
 Ug : FuncData
 Um : Addr
 T6 : FuncData
 Qy : Addr
 Qt : FuncData
 Of : Addr
 Od : FuncData
 Mh : Addr
 Md : FuncData
 Qe : Addr
 Rc : FuncData
 Xo : Addr
 Wo : FuncData
 Oi : Addr
 Nq : FuncData
 Jq : Addr
 Ip : FuncData
 Ha : Addr
 Hd : FuncData
 D4 : Addr
 D7 : FuncData
 Km : Addr
 Kl : FuncData
 G7 : Addr
 G4 : FuncData
 Fh : Addr
 Fc : FuncData
 G1 : Addr
 G6 : FuncData
 Dr : Addr
 Dl : FuncData
 Ei : Addr
 Ek : FuncData
 D6 : Addr
 D3 : FuncData
 Oc : Addr
 Nu : FuncData
 Rh : Addr
 Q8 : FuncData
 Ra : Addr
 Qs : FuncData
 T5 : Addr
 Up : FuncData
 L7 : Addr
 Ma : FuncData
 Mm : Addr
 Mj : FuncData
 N4 : Addr
 N2 : FuncData
 K0 : Addr
 Gr : FuncData
 Ez : Addr
 E6 : FuncData
 Iz : Addr
 Jh : FuncData
 Mo : Addr
 L6 : FuncData
 Ib : Addr
 Jb : FuncData
 Dn : Addr
 Dq : FuncData
 Ua : Addr
 T8 : FuncData
 Wd : Addr
 Wm : FuncData
 W2 : Addr
 Wb : FuncData
 Iy : Addr
 Eg : FuncData
 Gf : Addr
 Ga : FuncData
 Hb : Addr
 Gz : FuncData
 Hg : Addr
 G3 : FuncData
 He : Addr
 Dg : FuncData
 Ot : Addr
 Ht : FuncData
 Oq : Addr
 Oe : FuncData
 Ii : Addr
 Jo : FuncData
 K1 : Addr
 Ku : FuncData
 Nl : Addr
 Oj : FuncData
 G2 : Addr
 Hf : FuncData
 C4 : Addr
 F7 : FuncData
 Co : Addr
 Fp : FuncData
 Jk : Addr
 Ej : FuncData
 Q7 : Addr
 Q6 : FuncData
 Kn : Addr
 Kr : FuncData
 Pn : Addr
 Uj : FuncData
 Bq : Addr
 K2 : FuncData
 J5 : Addr
 J9 : FuncData
 Hk : Addr
 Hj : FuncData
 Jx : Addr
 J8 : FuncData
 Ja : Addr
 Ic : FuncData
 K3 : Addr
 Ki : FuncData
 G9 : Addr
 G0 : FuncData
 y9 : Addr
 vf : FuncData
 Jv : Addr
 A5 : Addr
 Fy : Addr
 Dc : Addr
 En : Addr
 Lc : Addr
 Ba : Addr
 Ak : Addr
 Fo : Addr
 Bi : Addr
 Cd : Addr
 Av : Addr
 Fm : Addr
 Gh : Addr
 Bb : Addr
 A3 : Addr
 B3 : Addr
 Bf : Addr
 Az : Addr
structure Txt (K : W.Frag) (mg : Str -> Option Value) (a : Adr) : Prop where
 Nz : Fun K "is_day" "is_day" xi a.aw a.bj
 Ri : mg "is_day" = some (.ref a.aw)
 Qk : Binds K a.bj ["number"] []
 eh : Fun K "is_leap" "is_leap" pd a.Wa a.Ws
 sd : mg "is_leap" = some (.ref a.Wa)
 ph : Binds K a.Ws ["year"] []
 Zb : Fun K "year_begin" "year_begin" Ss a.N7 a.Nv
 pz : mg "year_begin" = some (.ref a.N7)
 tp : Binds K a.Nv ["year"] []
 Qb : Fun K "weekday" "weekday" qj a.Xr a.Wk
 Tp : mg "weekday" = some (.ref a.Xr)
 Sk : Binds K a.Wk ["day"] []
 Bp : Fun K "check_bounds" "check_bounds" Va a.Kt a.Kz
 Cc : mg "check_bounds" = some (.ref a.Kt)
 Cb : Binds K a.Kz ["number", "least", "most"] []
 Ir : Fun K "count_below" "count_below" Qm a.L5 a.Mc
 Mi : mg "count_below" = some (.ref a.L5)
 Mf : Binds K a.Mc ["days", "number"] []
 gb : Fun K "falls_on" "Rule.falls_on" Tc a.Jj a.Ig
 cx : Binds K a.Ig ["self", "day"] []
 jq : FunD K "next_in" "Rule.next_in" Cw a.Ko a.Kk
 U5 : Binds K a.Kk ["self", "day", "end"] []
 fw : FunD K "next_in" "Every.next_in" Bx a.Iw a.Ji
 Mt : Binds K a.Ji ["self", "day", "end"] []
 Z6 : Fun K "__init__" "ByMonth.__init__" R8 a.Fe a.Gy
 Lr : Binds K a.Gy ["self", "origin", "stride", "first"] []
 ji : Fun K "__init__" "Where.__init__" U8 a.Kh a.Kj
 jf : Binds K a.Kj ["self", "test"] []
 oo : Fun K "merged" "merged" xl a.bq a.a9
 xk : mg "merged" = some (.ref a.bq)
 xo : Binds K a.a9 ["one", "other"] []
 Zp : FunD K "next_in" "Joined.next_in" Bj a.Bk a.Fd
 Df : Binds K a.Fd ["self", "day", "end"] []
 Ny : ∃ ds, Binds K a.Fd ["self", "day", "end"] ds /\ Vals [.int 0, .int 146097] ds
 Yd : Fun K "falls_on" "Either.falls_on" Px a.Em a.Ee
 Yn : Binds K a.Ee ["self", "day"] []
 ef : Fun K "__init__" "Either.__init__" Sm a.Jp a.Hy
 gy : Binds K a.Hy ["self", "one", "other"] []
 og : Fun K "__init__" "Both.__init__" Xn a.Mn a.Ml
 mz : Binds K a.Ml ["self", "one", "other"] []
 ib : Fun K "falls_on" "Both.falls_on" Sl a.F1 a.Fu
 cz : Binds K a.Fu ["self", "day"] []
 jv : Fun K "days_in" "Both.days_in" Ow a.Gv a.Gn
 jx : Binds K a.Gn ["self", "begin", "end"] []
 sv : Fun K "__init__" "But.__init__" Zd a.Om a.Nr
 o5 : Binds K a.Nr ["self", "one", "other"] []
 mi : Fun K "days_in" "But.days_in" Ql a.Jd a.Jn
 ni : Binds K a.Jn ["self", "begin", "end"] []
 i5 : Fun K "falls_on" "But.falls_on" U1 a.Gw a.Gp
 j4 : Binds K a.Gp ["self", "day"] []
 Zy : Fun K "days_in" "Within.days_in" Ry a.E8 a.Fb
 ag : Binds K a.Fb ["self", "begin", "end"] []
 gz : Fun K "__init__" "Within.__init__" Tj a.Iu a.Im
 dj : Binds K a.Im ["self", "rule", "begin", "end"] []
 Yl : Fun K "falls_on" "Within.falls_on" Pk a.Ed a.Eb
 Yr : Binds K a.Eb ["self", "day"] []
 Xw : Fun K "days_in" "Shifted.days_in" Gb a.Ea a.Eh
 X1 : Binds K a.Eh ["self", "begin", "end"] []
 S7 : Fun K "days_gained" "Changed.days_gained" Dt a.Dj a.Du
 Sq : Binds K a.Du ["self"] []
 Vk : Fun K "days_lost" "Changed.days_lost" Hl a.E7 a.E5
 Vv : Binds K a.E5 ["self"] []
 Z4 : FunD K "__init__" "Changed.__init__" Bm a.G5 a.Cp
 Zm : Binds K a.Cp ["self", "rule", "left", "more", "moved"] []
 N1 : ∃ ds, Binds K a.Cp ["self", "rule", "left", "more", "moved"] ds /\ Vals [.non] ds
 Nw : ∃ ds, Binds K a.Cp ["self", "rule", "left", "more", "moved"] ds /\ Vals [.non, .non] ds
 N5 : ∃ ds, Binds K a.Cp ["self", "rule", "left", "more", "moved"] ds /\ Vals [.non, .non, .non] ds
 Bu : Fun K "_law_cell_at" "_law_cell_at" Xi a.Mb a.L8
 B9 : mg "_law_cell_at" = some (.ref a.Mb)
 B7 : Binds K a.L8 ["_law_script", "_law_k"] []
 Cm : Fun K "_law_next" "_law_next" X5 a.Ui a.T4
 C7 : mg "_law_next" = some (.ref a.Ui)
 C6 : Binds K a.T4 ["_law_pick"] []
 kj : Fun K "_law_leap" "_law_leap" la a.Ue a.Uk
 yh : mg "_law_leap" = some (.ref a.Ue)
 y8 : Binds K a.Uk ["_law_year_here"] []
 P0 : Fun K "_law_year" "_law_year" Yo a.Ul a.Uo
 Uc : mg "_law_year" = some (.ref a.Ul)
 T3 : Binds K a.Uo ["_law_year_here"] []
 kr : Fun K "_law_same" "_law_same" lg a.Uh a.Ug
 ze : mg "_law_same" = some (.ref a.Uh)
 yl : Binds K a.Ug ["_law_found", "_law_due_here"] []
 Gd : Fun K "_law_near" "_law_near" k9 a.Um a.T6
 Hw : mg "_law_near" = some (.ref a.Um)
 Hv : Binds K a.T6 ["_law_pick", "_law_base"] []
 dz : Fun K "_law_often" "_law_often" dn a.Qy a.Qt
 uj : mg "_law_often" = some (.ref a.Qy)
 ua : Binds K a.Qt ["_law_pick"] []
 Yz : Fun K "month_days" "month_days" Zc a.Of a.Od
 rm : mg "month_days" = some (.ref a.Of)
 qe : Binds K a.Od ["year", "month"] []
 Cv : Fun K "month_begin" "month_begin" Qd a.Mh a.Md
 Dm : mg "month_begin" = some (.ref a.Mh)
 Dp : Binds K a.Md ["number"] []
 Hh : Fun K "check_day" "check_day" fe a.Qe a.Rc
 Jy : mg "check_day" = some (.ref a.Qe)
 Kd : Binds K a.Rc ["number"] []
 V8 : Fun K "week_of" "week_of" rq a.Xo a.Wo
 g9 : mg "week_of" = some (.ref a.Xo)
 ek : Binds K a.Wo ["day"] []
 Zi : Fun K "week_begin" "week_begin" Zj a.Oi a.Nq
 tu : mg "week_begin" = some (.ref a.Oi)
 oz : Binds K a.Nq ["number"] []
 iz : Fun K "days_in" "Every.days_in" M8 a.Jq a.Ip
 d9 : Binds K a.Ip ["self", "begin", "end"] []
 Zu : Fun K "falls_on" "Every.falls_on" Rv a.Ha a.Hd
 av : Binds K a.Hd ["self", "day"] []
 Uw : Fun K "has_weekday" "Weekly.has_weekday" Ly a.D4 a.D7
 Lx : Binds K a.D7 ["self", "day"] []
 j6 : FunD K "next_in" "Days.next_in" Ca a.Km a.Kl
 Pa : Binds K a.Kl ["self", "day", "end"] []
 aj : Fun K "falls_on" "Where.falls_on" Lk a.G7 a.G4
 Rq : Binds K a.G4 ["self", "day"] []
 Zv : Fun K "days_in" "Either.days_in" R5 a.Fh a.Fc
 Zl : Binds K a.Fc ["self", "begin", "end"] []
 Zx : Fun K "__init__" "Shifted.__init__" R3 a.G1 a.G6
 Lq : Binds K a.G6 ["self", "rule", "many"] []
 Wx : Fun K "falls_on" "Shifted.falls_on" N8 a.Dr a.Dl
 Wz : Binds K a.Dl ["self", "day"] []
 X6 : Fun K "days_in" "Changed.days_in" Ge a.Ei a.Ek
 Yk : Binds K a.Ek ["self", "begin", "end"] []
 Ur : Fun K "has_gained" "Changed.has_gained" Gk a.D6 a.D3
 Ut : Binds K a.D3 ["self", "day"] []
 Hu : Fun K "_law_length" "_law_length" Y9 a.Oc a.Nu
 Ld : mg "_law_length" = some (.ref a.Oc)
 K5 : Binds K a.Nu ["_law_year_here", "_law_month"] []
 cf : Fun K "_law_first" "_law_first" gj a.Rh a.Q8
 vd : mg "_law_first" = some (.ref a.Rh)
 va : Binds K a.Q8 ["_law_pick", "_law_base"] []
 Nd : Fun K "_law_spots" "_law_spots" Rg a.Ra a.Qs
 Qr : mg "_law_spots" = some (.ref a.Ra)
 Qu : Binds K a.Qs ["_law_pick", "_law_base", "_law_many"] []
 Mp : Fun K "month_of" "month_of" Ya a.T5 a.Up
 Pe : mg "month_of" = some (.ref a.T5)
 Pw : Binds K a.Up ["day"] []
 Jl : Fun K "check_every" "check_every" Xl a.L7 a.Ma
 L9 : mg "check_every" = some (.ref a.L7)
 Me : Binds K a.Ma ["first", "every"] []
 Qq : Fun K "day_of_date" "day_of_date" Q0 a.Mm a.Mj
 Wg : mg "day_of_date" = some (.ref a.Mm)
 Wl : Binds K a.Mj ["number", "date"] []
 Y2 : Fun K "day_of_nth" "day_of_nth" Tf a.N4 a.N2
 qq : mg "day_of_nth" = some (.ref a.N4)
 sk : Binds K a.N2 ["number", "which", "weekday_of"] []
 j9 : FunD K "__init__" "Every.__init__" Cz a.K0 a.Gr
 i6 : Binds K a.Gr ["self", "step", "first"] []
 Dh : ∃ ds, Binds K a.Gr ["self", "step", "first"] ds /\ Vals [.int 0] ds
 Vh : Fun K "weeks_over" "Weekly.weeks_over" M7 a.Ez a.E6
 Mu : Binds K a.E6 ["self", "day"] []
 gi : Fun K "falls_on" "Days.falls_on" Sf a.Iz a.Jh
 fm : Binds K a.Jh ["self", "day"] []
 nh : Fun K "__init__" "Days.__init__" Q4 a.Mo a.L6
 lq : Binds K a.L6 ["self", "days"] []
 eu : FunD K "next_in" "Where.next_in" Bw a.Ib a.Jb
 Sn : Binds K a.Jb ["self", "day", "end"] []
 V7 : Fun K "falls_on" "Changed.falls_on" N3 a.Dn a.Dq
 Wj : Binds K a.Dq ["self", "day"] []
 Fl : Fun K "_law_date" "_law_date" Xy a.Ua a.T8
 F8 : mg "_law_date" = some (.ref a.Ua)
 Gg : Binds K a.T8 ["_law_day_here"] []
 qw : Fun K "_law_day" "_law_day" ed a.Wd a.Wm
 Ach : mg "_law_day" = some (.ref a.Wd)
 Aa8 : Binds K a.Wm ["_law_year_here", "_law_month", "_law_date_here"] []
 pf : Fun K "date_of" "date_of" d4 a.W2 a.Wb
 Aam : mg "date_of" = some (.ref a.W2)
 Abr : Binds K a.Wb ["day"] []
 dv : FunD K "__init__" "Weekly.__init__" Cj a.Iy a.Eg
 ee : Binds K a.Eg ["self", "mask", "first", "every"] []
 Pf : ∃ ds, Binds K a.Eg ["self", "mask", "first", "every"] ds /\ Vals [.int 1] ds
 Pm : ∃ ds, Binds K a.Eg ["self", "mask", "first", "every"] ds /\ Vals [.int 0, .int 1] ds
 Yw : Fun K "falls_on" "Weekly.falls_on" Pg a.Gf a.Ga
 Yc : Binds K a.Ga ["self", "day"] []
 Zw : FunD K "next_in" "Weekly.next_in" Bl a.Hb a.Gz
 R7 : Binds K a.Gz ["self", "day", "end"] []
 ae : Fun K "day_in" "Monthly.day_in" Ro a.Hg a.G3
 Rw : Binds K a.G3 ["self", "number"] []
 aa : FunD K "__init__" "Monthly.__init__" Bz a.He a.Dg
 Zn : Binds K a.Dg ["self", "date", "first", "every"] []
 Ou : ∃ ds, Binds K a.Dg ["self", "date", "first", "every"] ds /\ Vals [.int 1] ds
 Nm : ∃ ds, Binds K a.Dg ["self", "date", "first", "every"] ds /\ Vals [.int 0, .int 1] ds
 pj : FunD K "__init__" "Nth.__init__" Ep a.Ot a.Ht
 pb : Binds K a.Ht ["self", "which", "weekday_of", "first", "every"] []
 Vb : ∃ ds, Binds K a.Ht ["self", "which", "weekday_of", "first", "every"] ds /\ Vals [.int 1] ds
 Ux : ∃ ds, Binds K a.Ht ["self", "which", "weekday_of", "first", "every"] ds /\ Vals [.int 0, .int 1] ds
 o9 : Fun K "day_in" "Nth.day_in" Za a.Oq a.Oe
 Zf : Binds K a.Oe ["self", "number"] []
 fg : Fun K "day_in" "Yearly.day_in" Sx a.Ii a.Jo
 Tx : Binds K a.Jo ["self", "number"] []
 Uy : Fun K "_law_some_day" "_law_some_day" O6 a.K1 a.Ku
 jh : mg "_law_some_day" = some (.ref a.K1)
 i7 : Binds K a.Ku ["_law_cell"] []
 Y4 : Fun K "_law_simple" "_law_simple" Np a.Nl a.Oj
 o7 : mg "_law_simple" = some (.ref a.Nl)
 sj : Binds K a.Oj ["_law_pick", "_law_base"] []
 Ru : Fun K "_law_months_off" "_law_months_off" Lo a.G2 a.Hf
 Zt : mg "_law_months_off" = some (.ref a.G2)
 Z9 : Binds K a.Hf ["_law_day_here", "_law_date_here", "_law_first_here", "_law_often_here"] []
 Yh : FunD K "next_in" "ByMonth.next_in" Bg a.C4 a.F7
 C5 : Binds K a.F7 ["self", "day", "end"] []
 Xp : Fun K "falls_on" "ByMonth.falls_on" Iv a.Co a.Fp
 Iq : Binds K a.Fp ["self", "day"] []
 ip : FunD K "__init__" "Yearly.__init__" Bv a.Jk a.Ej
 cg : Binds K a.Ej ["self", "month", "date", "first", "every"] []
 Pz : ∃ ds, Binds K a.Ej ["self", "month", "date", "first", "every"] ds /\ Vals [.int 1] ds
 Po : ∃ ds, Binds K a.Ej ["self", "month", "date", "first", "every"] ds /\ Vals [.int 0, .int 1] ds
 gr : Fun K "_law_plain" "_law_plain" Vn a.Q7 a.Q6
 ug : mg "_law_plain" = some (.ref a.Q7)
 uo : Binds K a.Q6 ["_law_rule_here", "_law_day_here", "_law_date_here"] []
 U4 : Fun K "_law_by_month" "_law_by_month" O8 a.Kn a.Kr
 ke : mg "_law_by_month" = some (.ref a.Kn)
 kc : Binds K a.Kr ["_law_tree_here", "_law_short"] []
 lh : Fun K "_law_rule" "_law_rule" Hs a.Pn a.Uj
 zd : mg "_law_rule" = some (.ref a.Pn)
 zc : Binds K a.Uj ["_law_tree_here", "_law_short"] []
 jg : Fun K "days_in" "Rule.days_in" Pb a.Bq a.K2
 Dw : Binds K a.K2 ["self", "begin", "end"] []
 T7 : Fun K "_law_tree" "_law_tree" X2 a.J5 a.J9
 Yb : mg "_law_tree" = some (.ref a.J5)
 X9 : Binds K a.J9 ["_law_pick", "_law_base", "_law_deep"] []
 Dv : Fun K "_law_falls" "_law_falls" Qp a.Hk a.Hj
 Et : mg "_law_falls" = some (.ref a.Hk)
 Es : Binds K a.Hj ["_law_rule_here", "_law_day_here", "_law_date_here"] []
 Di : Fun K "_law_made" "_law_made" Yg a.Jx a.J8
 D9 : mg "_law_made" = some (.ref a.Jx)
 Ec : Binds K a.J8 ["_law_tree_here", "_law_short"] []
 Si : Fun K "_law_all_falls" "_law_all_falls" M3 a.Ja a.Ic
 gh : mg "_law_all_falls" = some (.ref a.Ja)
 fh : Binds K a.Ic ["_law_made_here", "_law_begin", "_law_days", "_law_falling"] []
 U0 : Fun K "_law_all_next" "_law_all_next" Kp a.K3 a.Ki
 j7 : mg "_law_all_next" = some (.ref a.K3)
 ju : Binds K a.Ki ["_law_script", "_law_made_here", "_law_days", "_law_falling"] []
 Rp : Fun K "_law_moved_good" "_law_moved_good" G8 a.G9 a.G0
 ah : mg "_law_moved_good" = some (.ref a.G9)
 aq : Binds K a.G0 ["_law_cell"] []
 Ake : Fun K "law" "law" vj a.y9 a.vf
 Ajz : mg "law" = some (.ref a.y9)
 Ama : Binds K a.vf ["_law_script"] []
 N6 : ∃ t, mg "DAYS" = some (.int 146097 t)
 Lg : mg "DAYS_AHEAD" = some (.ref a.Fy)
 pq : ∀ H : Hp, SqT K H a.Fy [.int 0, .int 31, .int 59, .int 90, .int 120, .int 151, .int 181, .int 212, .int 243, .int 273, .int 304, .int 334]
 Fx : ∃ t, mg "FIRST_WEEKDAY" = some (.int 5 t)
 Jg : ∃ t, mg "FIRST_WIDTH" = some (.int 4 t)
 Eo : ∃ t, mg "FIRST_YEAR" = some (.int 2000 t)
 M0 : ∃ t, mg "LONG_YEAR" = some (.int 2000 t)
 V5 : ∃ t, mg "MONTHS" = some (.int 4800 t)
 Fv : mg "MONTH_LENGTHS" = some (.ref a.Dc)
 Te : ∀ H : Hp, SqT K H a.Dc [.int 31, .int 28, .int 31, .int 30, .int 31, .int 30, .int 31, .int 31, .int 30, .int 31, .int 30, .int 31]
 Le : ∃ t, mg "MOST_EVERY" = some (.int 1000 t)
 J2 : ∃ t, mg "MOST_MANY" = some (.int 1000 t)
 Ke : Aim K a.Ba "__init__" a.Fe
 Ai0 : mg "Both" = some (.ref a.En)
 Qo : Cls K a.En
 gd : Mk K a.En a.Mn
 Xx : NoAttr K a.En "one"
 Tr : NoAttr K a.En "other"
 cq : Meth K a.En "days_in" a.Gv
 Zz : Meth K a.En "falls_on" a.F1
 cn : Meth K a.En "next_in" a.Bk
 Ajq : mg "But" = some (.ref a.Lc)
 Wt : Cls K a.Lc
 sg : Mk K a.Lc a.Om
 il : NoAttr K a.Lc "one"
 Vp : NoAttr K a.Lc "other"
 jw : Meth K a.Lc "days_in" a.Jd
 ic : Meth K a.Lc "falls_on" a.Gw
 jk : Meth K a.Lc "next_in" a.Bk
 dq : mg "ByMonth" = some (.ref a.Ba)
 Agz : Cls K a.Ba
 Ud : Mk K a.Ba a.Fe
 zl : NoAttr K a.Ba "origin"
 zm : NoAttr K a.Ba "stride"
 Aci : NoAttr K a.Ba "first"
 Wr : mg "Changed" = some (.ref a.Ak)
 Ar : Cls K a.Ak
 Hr : Mk K a.Ak a.G5
 Kx : NoAttr K a.Ak "rule"
 Gu : NoAttr K a.Ak "left"
 Kw : NoAttr K a.Ak "more"
 F3 : NoAttr K a.Ak "moved"
 Cq : NoAttr K a.Ak "gained"
 Ox : NoAttr K a.Ak "lost"
 Se : Meth K a.Ak "days_gained" a.Dj
 Wh : Meth K a.Ak "days_in" a.Ei
 Uv : Meth K a.Ak "days_lost" a.E7
 Vu : Meth K a.Ak "falls_on" a.Dn
 Tq : Meth K a.Ak "has_gained" a.D6
 Oh : Meth K a.Ak "next_in" a.Bk
 Aia : mg "Days" = some (.ref a.Fo)
 Pc : Cls K a.Fo
 iu : Mk K a.Fo a.Mo
 Mw : NoAttr K a.Fo "days"
 gw : Meth K a.Fo "days_in" a.Bq
 au : Meth K a.Fo "falls_on" a.Iz
 Nf : Meth K a.Fo "next_in" a.Km
 Ad1 : mg "Either" = some (.ref a.Bi)
 Ie : Cls K a.Bi
 T1 : Mk K a.Bi a.Jp
 Ta : NoAttr K a.Bi "one"
 Oy : NoAttr K a.Bi "other"
 Ys : Meth K a.Bi "days_in" a.Fh
 V9 : Meth K a.Bi "falls_on" a.Em
 Yt : Meth K a.Bi "next_in" a.Bk
 ml : mg "Every" = some (.ref a.Cd)
 Fn : Cls K a.Cd
 Nk : Mk K a.Cd a.K0
 Ob : NoAttr K a.Cd "step"
 Hz : NoAttr K a.Cd "first"
 Z2 : Meth K a.Cd "days_in" a.Jq
 Yp : Meth K a.Cd "falls_on" a.Ha
 Lp : Meth K a.Cd "next_in" a.Iw
 iq : mg "Monthly" = some (.ref a.Av)
 Cn : Cls K a.Av
 Kc : Mk K a.Av a.He
 U9 : NoAttr K a.Av "date"
 gn : NoAttr K a.Av "every"
 Lu : NoAttr K a.Av "origin"
 Ll : NoAttr K a.Av "stride"
 M6 : NoAttr K a.Av "first"
 Pd : Meth K a.Av "day_in" a.Hg
 W9 : Meth K a.Av "days_in" a.Bq
 Ve : Meth K a.Av "falls_on" a.Co
 Oo : Meth K a.Av "next_in" a.C4
 Ae3 : mg "Nth" = some (.ref a.Fm)
 Lz : Cls K a.Fm
 cj : Mk K a.Fm a.Ot
 gx : NoAttr K a.Fm "which"
 R4 : NoAttr K a.Fm "weekday_of"
 ve : NoAttr K a.Fm "every"
 So : NoAttr K a.Fm "origin"
 Sr : NoAttr K a.Fm "stride"
 Vr : NoAttr K a.Fm "first"
 W4 : Meth K a.Fm "day_in" a.Oq
 j5 : Meth K a.Fm "days_in" a.Bq
 f6 : Meth K a.Fm "falls_on" a.Co
 Vc : Meth K a.Fm "next_in" a.C4
 Ahr : mg "Rule" = some (.ref a.Gh)
 md : Cls K a.Gh
 Afj : MkN K a.Gh
 dk : Meth K a.Gh "days_in" a.Bq
 Zq : Meth K a.Gh "falls_on" a.Jj
 Tb : Meth K a.Gh "next_in" a.Ko
 ik : mg "Shifted" = some (.ref a.Bb)
 El : Cls K a.Bb
 Kb : Mk K a.Bb a.G1
 O7 : NoAttr K a.Bb "rule"
 Gx : NoAttr K a.Bb "many"
 W6 : Meth K a.Bb "days_in" a.Ea
 Vd : Meth K a.Bb "falls_on" a.Dr
 V6 : Meth K a.Bb "next_in" a.Bk
 l7 : mg "Weekly" = some (.ref a.A3)
 Cg : Cls K a.A3
 Mz : Mk K a.A3 a.Iy
 W3 : NoAttr K a.A3 "mask"
 Ks : NoAttr K a.A3 "first"
 O0 : NoAttr K a.A3 "every"
 Xu : Meth K a.A3 "days_in" a.Bq
 Xd : Meth K a.A3 "falls_on" a.Gf
 K9 : Meth K a.A3 "has_weekday" a.D4
 P8 : Meth K a.A3 "next_in" a.Hb
 Lw : Meth K a.A3 "weeks_over" a.Ez
 Afz : mg "Where" = some (.ref a.B3)
 Q3 : Cls K a.B3
 Xh : Mk K a.B3 a.Kh
 Y5 : NoAttr K a.B3 "test"
 ai : Meth K a.B3 "days_in" a.Bq
 Qa : Meth K a.B3 "falls_on" a.G7
 Rj : Meth K a.B3 "next_in" a.Ib
 Adg : mg "Within" = some (.ref a.Bf)
 E9 : Cls K a.Bf
 Sj : Mk K a.Bf a.Iu
 Qx : NoAttr K a.Bf "rule"
 O5 : NoAttr K a.Bf "begin"
 Tn : NoAttr K a.Bf "end"
 Yq : Meth K a.Bf "days_in" a.E8
 Xe : Meth K a.Bf "falls_on" a.Ed
 Ym : Meth K a.Bf "next_in" a.Bk
 m7 : mg "Yearly" = some (.ref a.Az)
 C9 : Cls K a.Az
 Nb : Mk K a.Az a.Jk
 ja : NoAttr K a.Az "month"
 Vz : NoAttr K a.Az "date"
 jr : NoAttr K a.Az "every"
 Mx : NoAttr K a.Az "origin"
 Ms : NoAttr K a.Az "stride"
 O9 : NoAttr K a.Az "first"
 R6 : Meth K a.Az "day_in" a.Ii
 Xt : Meth K a.Az "days_in" a.Bq
 V1 : Meth K a.Az "falls_on" a.Co
 Pl : Meth K a.Az "next_in" a.C4
 yk : mg "abs" = none
 Wf : mg "bool" = none
 oh : mg "int" = none
 B1 : mg "isinstance" = none
 Zs : mg "len" = none
 V4 : mg "list" = none
 V3 : mg "max" = none
 Su : mg "min" = none
 Hm : mg "range" = none
 vc : mg "set" = none
 Qj : mg "sorted" = none
 x8 : mg "str" = none
 Aax : mg "sum" = none
 Jf : mg "tuple" = none
 Aa5 : mg "zip" = none
 vh : Xv K a.Pn = some a.Jv
structure Vy (K : W.Frag) (mg : Str -> Option Value) (base : Heap) (a : Adr) : Prop extends Txt K mg a where
 zg : MkL mg base a.Jv a.A5
abbrev B0 : Expr := Aj7 (Aiq (Als (Ah9 (Als (Ay Hs) 3)) 0)) 0
abbrev Ub : Str := ("_law_rule" ++ ".<locals>.") ++ "<lambda>"
def si : oj "_law_day_here" ["_law_tree_here"] (ba B0) := ⟨rfl, rfl, rfl, dkk, dkk, dkk, dkk, dkk⟩
def qx : ∀ (u : Value) (cl : List (Str × Addr)) (pm cd ctv : Value), bindArgs (W.kla_fn "<lambda>" Ub (uk B0) (uq B0) (ba B0) cl pm cd ctv) ⟨[u], []⟩ = pure [(("_law_day_here" : Str), u)] := λ _ _ _ _ _ => rfl
def ko : Sp := λ vs H Q _ => ∃ y : Int, vs = [.int y] /\ Q (.bl (DM.leap y)) H
def mr : Sp := λ vs H Q _ => ∃ y m : Int, vs = [.int y, .int m] /\ 1 <= m /\ m <= 12 /\ Q (.int (DM.len y m)) H
def W5 : Sp := λ vs H Q _ => ∃ y : Int, vs = [.int y] /\ Q (.int (DM.year y)) H
def kf : Sp := λ vs H Q _ => ∃ n : Int, vs = [.int n] /\ Q (.int (DM.mb n)) H
def vk : Sp := λ vs H Q _ => ∃ d : Int, vs = [.int d] /\ Q (.int (DM.mo d)) H
def yi : Sp := λ vs H Q _ => ∃ d : Int, vs = [.int d] /\ Q (.int ((d + 5) % 7)) H
def je (K : W.Frag) : Sp := λ vs H Q _ => ∃ (p : Addr) (ns : List Int) (k : Int), vs = [.ref p, .int k] /\ SqL K H p (ns.map V.int) /\ 0 <= k /\ ∀ v : Int, Q (.int v) H
def t8 : Sp := λ vs H Q _ => ∃ p : Int, vs = [.int p] /\ ∀ n : Int, 0 <= n -> Q (.int n) H
def ng : Sp := λ vs H Q _ => ∃ y m : Int, vs = [.int y, .int m] /\ ∀ H', Same H H' -> Q (.int (DM.len y m)) H'
def uc : Sp := λ vs H Q _ => ∃ d : Int, vs = [.int d] /\ 0 <= d /\ d < 146097 /\ ∀ p H', Same H H' -> H p = none -> H' p = some (.tup [.int (2000 + DM.mo d / 12), .int (DM.mo d % 12 + 1), .int (d - DM.mb (DM.mo d) + 1)]) -> Q (.ref p) H'
def yz : Sp := λ vs H Q _ => ∃ y m d : Int, vs = [.int y, .int m, .int d] /\ 1 <= m /\ m <= 12 /\ ∀ H', Same H H' -> Q (.int (DM.mb (12 * (y - 2000) + (m - 1)) + d - 1)) H'
def ir : Sp := λ vs H Q _ => ∃ c : Int, vs = [.int c] /\ ∀ (d : Int) H', 0 <= d -> d < 146097 -> Same H H' -> Q (.int d) H'
def Ag9 (h1 : 1 <= m) (h2 : m <= 12) (h : ¬ (m = 2 /\ DM.leap y = true)) : atI [V.int 31, .int 28, .int 31, .int 30, .int 31, .int 30, .int 31, .int 31, .int 30, .int 31, .int 30, .int 31] (m - 1) = some (.int (DM.len y m)) := by
 have hm : m = 1 ∨ m = 2 ∨ m = 3 ∨ m = 4 ∨ m = 5 ∨ m = 6 ∨ m = 7 ∨ m = 8 ∨ m = 9 ∨ m = 10 ∨ m = 11 ∨ m = 12 := by omega
 rcases hm with e | e | e | e | e | e | e | e | e | e | e | e <;> subst e
 case inr.inl =>
  have e : DM.leap y = false := by simpa using h
  simp only [DM.len, e]
  rfl
 all_goals rfl
def Aki (n : Int) : atI [V.int 0, .int 31, .int 59, .int 90, .int 120, .int 151, .int 181, .int 212, .int 243, .int 273, .int 304, .int 334] (n % 12 + 1 - 1) = some (.int (DM.ahead (n % 12 + 1))) := by
 have hr : n % 12 = 0 ∨ n % 12 = 1 ∨ n % 12 = 2 ∨ n % 12 = 3 ∨ n % 12 = 4 ∨ n % 12 = 5 ∨ n % 12 = 6 ∨ n % 12 = 7 ∨ n % 12 = 8 ∨ n % 12 = 9 ∨ n % 12 = 10 ∨ n % 12 = 11 := by omega
 rcases hr with e | e | e | e | e | e | e | e | e | e | e | e <;> rw [e] <;> rfl
theorem k7 (y : Int) : ∀ n : Nat, ((List.range n).map λ (i : Nat) => DM.len y (1 + (i : Int))).sum = DM.sums y n
 | 0 => rfl
 |
  n + 1 => by
  rw [List.range_succ, Apg, List.sum_append, k7 y n]
  rw [DM.zo]
  simp [Int.add_comm]
def Agr : ∀ t ∈ ([0, 146096, 59, 60, 365, 366, 36584, 36583, 73108, 146037, 146036, 1460] : List Int), 0 <= t /\ t < 146097 := by decide
def Sb : decide (V.int i = V.int j) = decide (i = j) := Aop.mpr (by rw [V.int.injEq])
def Xq {ts : List Int} {i : Int} (lo hi : Int) (h0 : 0 <= i) (h1 : i < ts.length) (hb : ∀ t ∈ ts, lo <= t /\ t <= hi) : ∃ t, lo <= t /\ t <= hi /\ atI (ts.map V.int) i = some (.int t) := by
 obtain ⟨t, ht, e⟩ := ax (ts := ts) h0 h1
 exact ⟨t, (hb t ht).1, (hb t ht).2, e⟩
def j8 (K : W.Frag) : Sp := λ vs H Q _ => ∃ (p : Addr) (ns : List Int) (x : Int), vs = [.ref p, .int x] /\ SqT K H p (ns.map V.int) /\ DC.zj ns /\ ns.length <= 1000 /\ Q (.int (DC.below ns x : Nat)) H
def half {lo hi : Nat} : ((lo : Int) + (hi : Int)) / 2 = (((lo + hi) / 2 : Nat) : Int) := by omega
def Aa9 {ns : List Int} {i : Nat} {a : Int} (h : ns[i]? = some a) : (ns.map V.int)[i]? = some (.int a) := by rw [Anu, h]; rfl
def Abe {ns : List Int} {i : Nat} (h : i < ns.length) : ∃ a, ns[i]? = some a := ⟨ns[i], by simp [h]⟩
def Afl {a b : Str} {v : V} {r : List (Str × V)} (h : (a == b) = false) : List.lookup a ((b, v) :: r) = List.lookup a r := by
 show (match a == b with | true => some v | false => List.lookup a r) = _
 rw [h]
open DF (Rl fl Ce K7 isD byM Ok Fi)
def oV : Option Int -> V
 | some d => .int d
 | none => .non
structure RAd where
 r : Addr
 e : Addr
 k : Addr
 m : Addr
 n : Addr
 y : Addr
 d : Addr
 w : Addr
def TreeAt (H : Hp) (t : Addr) : Rl -> Prop
 | .nv => H t = some (.tup [.str "never"])
 | .ev st fi => H t = some (.tup [.str "every", .int st, .int fi])
 | .wk mk fi e => H t = some (.tup [.str "weekly", .int mk, .int fi, .int e])
 | .mo dt fi e => H t = some (.tup [.str "monthly", .int dt, .int fi, .int e])
 | .nt w wd fi e => H t = some (.tup [.str "nth", .int w, .int wd, .int fi, .int e])
 | .yr mn dt fi e => H t = some (.tup [.str "yearly", .int mn, .int dt, .int fi, .int e])
 | .dy ds => ∃ u, H t = some (.tup [.str "days", .ref u]) /\ H u = some (.tup (ds.map V.int))
 | .wh m r => H t = some (.tup [.str "where", .int m, .int r])
theorem TreeAt.up (h : TreeAt H t r) (s : Same H H') : TreeAt H' t r := by
 cases r with
 | dy ds => obtain ⟨u, e1, e2⟩ := h; exact ⟨u, s _ _ e1, s _ _ e2⟩
 | _ => exact s _ _ h
abbrev Amb (H : Hp) (f t : Addr) : Prop := ∃ cl cd, LamIs H f (uk B0) (uq B0) (ba B0) Ub ["_law_tree_here"] [.ref t] cl cd
abbrev Agg (H : Hp) (pt : Addr) : Prop := LTab H pt (Aeo B0) Ub
def RuleAt (A : RAd) (H : Hp) (x : Addr) : Rl -> Prop
 | .nv => ∃ dx, H x = some (.ins A.r dx [])
 | .ev st fi => ∃ dx, H x = some (.ins A.e dx [("step", .int st), ("first", .int fi)])
 | .wk mk fi e => ∃ dx, H x = some (.ins A.k dx [("mask", .int mk), ("first", .int fi), ("every", .int e)])
 | .mo dt fi e => ∃ dx, H x = some (.ins A.m dx [("origin", .int (DM.mo fi)), ("stride", .int e), ("first", .int fi), ("date", .int dt), ("every", .int e)])
 | .nt w wd fi e => ∃ dx, H x = some (.ins A.n dx [("origin", .int (DM.mo fi)), ("stride", .int e), ("first", .int fi), ("which", .int w), ("weekday_of", .int wd), ("every", .int e)])
 | .yr mn dt fi e => ∃ dx, H x = some (.ins A.y dx [("origin", .int (DM.mo fi / 12 * 12 + mn - 1)), ("stride", .int (e * 12)), ("first", .int fi), ("month", .int mn), ("date", .int dt), ("every", .int e)])
 | .dy ds => ∃ dx d ms, H x = some (.ins A.d dx [("days", .ref d)]) /\ H d = some (.tup (ms.map V.int)) /\ DC.zj ms /\ ms.length <= 1000 /\ ∀ k, k ∈ ms ↔ k ∈ ds
 | .wh m r => ∃ dx f t, H x = some (.ins A.w dx [("test", .ref f)]) /\ Amb H f t /\ H t = some (.tup [.str "where", .int m, .int r])
theorem RuleAt.up (h : RuleAt A H x r) (s : Same H H') : RuleAt A H' x r := by
 cases r with
 | dy ds => obtain ⟨dx, d, ms, e, f, g⟩ := h; exact ⟨dx, d, ms, s _ _ e, s _ _ f, g⟩
 | wh m r => obtain ⟨dx, f, t, e, ⟨cl, cd, L⟩, g⟩ := h; exact ⟨dx, f, t, s _ _ e, ⟨cl, cd, L.same s⟩, s _ _ g⟩
 | _ => obtain ⟨dx, e⟩ := h; exact ⟨dx, s _ _ e⟩
abbrev ad (a : Adr) : RAd := ⟨a.Gh, a.Cd, a.A3, a.Av, a.Fm, a.Az, a.Fo, a.B3⟩
def z5 : Sp := λ vs H Q _ => ∃ d : Int, vs = [.int d] /\ Q (.bl (isD d)) H
def xy : Sp := λ vs H Q _ => ∃ d : Int, vs = [.int d] /\ 0 <= d /\ d < 146097 /\ ∀ p H', Same H H' -> H p = none -> H' p = some (.tup [.int (2000 + DM.mo d / 12), .int (DM.mo d % 12 + 1), .int (d - DM.mb (DM.mo d) + 1)]) -> Q (.ref p) H'
def gg : Sp := λ vs H Q _ => ∃ n l m : Int, vs = [.int n, .int l, .int m] /\ l <= n /\ n <= m /\ Q .non H
def rh : Sp := λ vs H Q _ => ∃ n : Int, vs = [.int n] /\ 0 <= n /\ n < 146097 /\ Q .non H
def jy : Sp := λ vs H Q _ => ∃ f e : Int, vs = [.int f, .int e] /\ Fi f e /\ Q .non H
def yb : Sp := λ vs H Q _ => ∃ d : Int, vs = [.int d] /\ Q (.int ((d + 5) / 7)) H
def kg : Sp := λ vs H Q _ => ∃ n dt : Int, vs = [.int n, .int dt] /\ Q (oV (Ce n dt)) H
def oa : Sp := λ vs H Q _ => ∃ n w wd : Int, vs = [.int n, .int w, .int wd] /\ Q (oV (K7 n w wd)) H
def Fon (A : RAd) (r : Rl -> Prop) : Sp := λ vs H Q _ => ∃ (x : Addr) (d : Int) (r0 : Rl), vs = [.ref x, .int d] /\ r r0 /\ RuleAt A H x r0 /\ Ok r0 /\ Q (.bl (fl r0 d)) H
def Z7 : Sp := λ vs H Q _ => ∃ (x : Addr) (d : Int), vs = [.ref x, .int d] /\ Q (.bl false) H
def X3 (A : RAd) : Sp := λ vs H Q _ => ∃ (x : Addr) (d st fi : Int), vs = [.ref x, .int d] /\ RuleAt A H x (.ev st fi) /\ Ok (.ev st fi) /\ Q (.bl (fl (.ev st fi) d)) H
def Fw (A : RAd) : Sp := λ vs H Q _ => ∃ (x : Addr) (d mk fi e : Int), vs = [.ref x, .int d] /\ RuleAt A H x (.wk mk fi e) /\ Q (.bl (decide (mk / 2 ^ ((d + 5) % 7).toNat % 2 = 1))) H
def Gi (A : RAd) : Sp := λ vs H Q _ => ∃ (x : Addr) (d mk fi e : Int), vs = [.ref x, .int d] /\ RuleAt A H x (.wk mk fi e) /\ 1 <= e /\ Q (.int (((d + 5) / 7 - (fi + 5) / 7) % e)) H
def V2 (A : RAd) : Sp := λ vs H Q _ => ∃ (x : Addr) (d mk fi e : Int), vs = [.ref x, .int d] /\ RuleAt A H x (.wk mk fi e) /\ Ok (.wk mk fi e) /\ Q (.bl (fl (.wk mk fi e) d)) H
def isM : Rl -> Prop
 | .mo _ _ _ => True
 | .nt _ _ _ _ => True
 | .yr _ _ _ _ => True
 | _ => False
def Vx (A : RAd) : Sp := Fon A isM
def J7 (A : RAd) : Sp := λ vs H Q _ => ∃ (x : Addr) (n dt fi e : Int), vs = [.ref x, .int n] /\ RuleAt A H x (.mo dt fi e) /\ Q (oV (Ce n dt)) H
def Q5 (A : RAd) : Sp := λ vs H Q _ => ∃ (x : Addr) (n w wd fi e : Int), vs = [.ref x, .int n] /\ RuleAt A H x (.nt w wd fi e) /\ Q (oV (K7 n w wd)) H
def Lh (A : RAd) : Sp := λ vs H Q _ => ∃ (x : Addr) (n mn dt fi e : Int), vs = [.ref x, .int n] /\ RuleAt A H x (.yr mn dt fi e) /\ Q (oV (Ce n dt)) H
def Zr (A : RAd) : Sp := λ vs H Q _ => ∃ (x : Addr) (d : Int) (ds : List Int), vs = [.ref x, .int d] /\ RuleAt A H x (.dy ds) /\ Q (.bl (fl (.dy ds) d)) H
def Sh (A : RAd) : Sp := λ vs H Q _ => ∃ (x : Addr) (b e : Int) (ds : List Int), vs = [.ref x, .int b, .int e] /\ RuleAt A H x (.dy ds) /\ (∀ d, b <= d -> d < e -> d ∈ ds -> (∀ k, b <= k -> k < d -> k ∉ ds) -> Q (.int d) H) /\ ((∀ k, b <= k -> k < e -> k ∉ ds) -> Q .non H)
def Pq (A : RAd) : Sp := λ vs H Q _ => ∃ (x : Addr) (d m r : Int), vs = [.ref x, .int d] /\ RuleAt A H x (.wh m r) /\ 1 <= m /\ -(2 ^ 63) < d /\ d < 2 ^ 63 /\ Q (.bl (fl (.wh m r) d)) H
def gc (K : W.Frag) : Sp := λ vs H Q _ => ∃ (x c dx : Addr) (o s f : Int), vs = [.ref x, .int o, .int s, .int f] /\ (Cls K c /\ NoAttr K c "origin" /\ NoAttr K c "stride" /\ NoAttr K c "first") /\ H x = some (.ins c dx []) /\ ∀ H', F5 x H H' -> H' x = some (.ins c dx [("origin", .int o), ("stride", .int s), ("first", .int f)]) -> Q .non H'
def mq (A : RAd) : Sp := λ vs H Q _ => ∃ (x dx : Addr) (st fi : Int), vs = [.ref x, .int st, .int fi] /\ H x = some (.ins A.e dx []) /\ Ok (.ev st fi) /\ ∀ H', F5 x H H' -> RuleAt A H' x (.ev st fi) -> Q .non H'
def jz (A : RAd) : Sp := λ vs H Q _ => ∃ (x dx : Addr) (mk fi e : Int), vs = [.ref x, .int mk, .int fi, .int e] /\ H x = some (.ins A.k dx []) /\ Ok (.wk mk fi e) /\ ∀ H', F5 x H H' -> RuleAt A H' x (.wk mk fi e) -> Q .non H'
def fz (A : RAd) : Sp := λ vs H Q _ => ∃ (x dx : Addr) (dt fi e : Int), vs = [.ref x, .int dt, .int fi, .int e] /\ H x = some (.ins A.m dx []) /\ Ok (.mo dt fi e) /\ ∀ H', F5 x H H' -> RuleAt A H' x (.mo dt fi e) -> Q .non H'
def uw (A : RAd) : Sp := λ vs H Q _ => ∃ (x dx : Addr) (w wd fi e : Int), vs = [.ref x, .int w, .int wd, .int fi, .int e] /\ H x = some (.ins A.n dx []) /\ Ok (.nt w wd fi e) /\ ∀ H', F5 x H H' -> RuleAt A H' x (.nt w wd fi e) -> Q .non H'
def jb (A : RAd) : Sp := λ vs H Q _ => ∃ (x dx : Addr) (mn dt fi e : Int), vs = [.ref x, .int mn, .int dt, .int fi, .int e] /\ H x = some (.ins A.y dx []) /\ Ok (.yr mn dt fi e) /\ ∀ H', F5 x H H' -> RuleAt A H' x (.yr mn dt fi e) -> Q .non H'
def ql (A : RAd) : Sp := λ vs H Q _ => ∃ (x dx p : Addr) (ds : List Int), vs = [.ref x, .ref p] /\ H x = some (.ins A.d dx []) /\ H p = some (.tup (ds.map V.int)) /\ Ok (.dy ds) /\ ∀ H', F5 x H H' -> RuleAt A H' x (.dy ds) -> Q .non H'
def W0 (C : Addr) : Sp := λ vs H Q _ => ∃ (x dx f : Addr), vs = [.ref x, .ref f] /\ H x = some (.ins C dx []) /\ ∀ H', F5 x H H' -> H' x = some (.ins C dx [("test", .ref f)]) -> Q .non H'
def Aee (h1 : -b <= i) (h2 : i <= b) (h3 : i ≠ 0) : 1 <= (if i < 0 then -i else i) /\ (if i < 0 then -i else i) <= b := by split <;> omega
theorem cb : ∀ {ms ds : List Int}, ms.Nodup -> (∀ k ∈ ms, k ∈ ds) -> ms.length <= ds.length
 | [], _, _, _ => Aon _
 |
  x :: ms, ds, h, hs => by
  obtain ⟨h1, h2⟩ := Aqp.mp h
  have hx := hs x (Ano ..)
  have ih := cb (ds := ds.erase x) h2 λ k hk => (List.mem_erase_of_ne (λ e => h1 (by rw [← e]; exact hk))).mpr (hs k (Ann _ hk))
  rw [List.length_erase_of_mem hx] at ih
  have : 0 < ds.length := List.length_pos_of_mem hx
  show ms.length + 1 <= ds.length
  omega
def vb (o : Option Int) (d : Int) : Ahm (oV o) (.int d) = true := by cases o <;> rfl
theorem Agi (o : Option Int) (d : Int) : decide (oV o = V.int d) = decide (o = some d) := by
 cases o with
 | none => rfl
 | some z => exact Aop.mpr (by show V.int z = V.int d ↔ _; rw [V.int.injEq, Ar1])
def uu : Sp := λ vs H Q _ => ∃ p b : Int, vs = [.int p, .int b] /\ ∀ v : Int, 0 <= v -> v < 146097 -> Q (.int v) H
def rl : Sp := λ vs H Q _ => ∃ p b : Int, vs = [.int p, .int b] /\ ∀ (v : Int) H', 0 <= v -> v < 146097 -> Same H H' -> Q (.int v) H'
def qu : Sp := λ vs H Q _ => ∃ p : Int, vs = [.int p] /\ ∀ (v : Int) H', 1 <= v -> v <= 1000 -> Same H H' -> Q (.int v) H'
def n6 : Sp := λ vs H Q _ => ∃ p b : Int, vs = [.int p, .int b] /\ ∀ (t : Addr) (r : Rl) H', Same H H' -> TreeAt H' t r -> Ok r -> Q (.ref t) H'
abbrev Afp (d : Int) : HO := .tup [.int (2000 + DM.mo d / 12), .int (DM.mo d % 12 + 1), .int (d - DM.mb (DM.mo d) + 1)]
def X0 : Sp := λ vs H Q _ => ∃ (d : Int) (p : Addr) (fi e : Int), vs = [.int d, .ref p, .int fi, .int e] /\ H p = some (Afp d) /\ 0 <= fi /\ fi < 146097 /\ 1 <= e /\ ∀ H', Same H H' -> Q (.int ((DM.mo d - DM.mo fi) % e)) H'
def qa : Sp := λ vs H Q _ => ∃ (t p : Addr) (d : Int) (r : Rl), vs = [.ref t, .int d, .ref p] /\ TreeAt H t r /\ Ok r /\ 0 <= d /\ d < 146097 /\ H p = some (Afp d) /\ ∀ H', Same H H' -> Q (.bl (fl r d)) H'
def Aaa {ts : List Int} {i : Int} (P : Int -> Prop) (h0 : 0 <= i) (h1 : i < ts.length) (hb : ∀ t ∈ ts, P t) : ∃ t, P t /\ atI (ts.map V.int) i = some (.int t) := by
 obtain ⟨t, ht, e⟩ := ax (ts := ts) h0 h1
 exact ⟨t, hb t ht, e⟩
def Ahs : ∀ t ∈ ([1, 2, 5, -1, -5, 3, -2, 4, -3, -4] : List Int), -5 <= t /\ t <= 5 /\ t ≠ 0 := by decide
def Aka (d : Int) : atI [V.int 1, .int 2, .int 4, .int 8, .int 16, .int 32, .int 64] ((d + 5) % 7) = some (.int (2 ^ ((d + 5) % 7).toNat)) := by
 have h0 : 0 <= (d + 5) % 7 := Anz _ dkd
 have h1 : (d + 5) % 7 < 7 := Anw _ dkd
 have e := DF.Agf ⟨((d + 5) % 7).toNat, dkm⟩
 have : atI (([1, 2, 4, 8, 16, 32, 64] : List Int).map V.int) (((d + 5) % 7).toNat : Int) = some (.int (2 ^ ((d + 5) % 7).toNat)) := Q1 (by rw [Anu, e]; rfl)
 rw [Int.toNat_of_nonneg h0] at this
 exact this
def Aik (d : Int) : 0 < (2 : Int) ^ ((d + 5) % 7).toNat /\ (2 : Int) ^ ((d + 5) % 7).toNat < 1073741824 := by
 have h1 : (d + 5) % 7 < 7 := Anw _ dkd
 have : ∀ k : Fin 7, 0 < (2 : Int) ^ k.val /\ (2 : Int) ^ k.val < 1073741824 := by decide
 exact this ⟨((d + 5) % 7).toNat, dkm⟩
def Ajc : atI [u, v] (if c = true then 1 else 0) = some (if c = true then v else u) := by cases c <;> rfl
theorem Vg {P : Int -> Prop} : ∀ {ys : List V}, (∀ v ∈ ys, ∃ d : Int, v = .int d /\ P d) -> ∃ ds : List Int, ys = ds.map V.int /\ ∀ d ∈ ds, P d
 | [], _ => ⟨[], rfl, λ _ h => nomatch h⟩
 |
  y :: ys, h => by
  obtain ⟨d, rfl, hd⟩ := h y (Ano ..)
  obtain ⟨ds, rfl, hds⟩ := Vg λ v hv => h v (Ann _ hv)
  exact ⟨d :: ds, rfl, λ z hz => by
   rcases Anf.mp hz with rfl | hz
   · exact hd
   · exact hds z hz⟩
def Hn (nx : H1 x = none) (ndx : H1 dx = none) (S : Same H H1) (sx : F5 x (upd (upd H1 dx (.own x)) x (.ins C dx [])) H3) : Same H H3 := λ q u eq => by
 have e1 := S _ _ eq
 exact sx _ _ (Aq e1 nx) (by rw [An (Aq e1 nx), An (Aq e1 ndx)]; exact e1)
def iw (A : RAd) : Sp := λ vs H Q _ => ∃ (t : Addr) (b : Bool) (r : Rl), vs = [.ref t, .bl b] /\ TreeAt H t r /\ Ok r /\ isM r /\ ∀ x H', Same H H' -> RuleAt A H' x r -> Q (.ref x) H'
def vn (A : RAd) (pt : Addr) : Sp := λ vs H Q _ => ∃ (t : Addr) (b : Bool) (r : Rl), vs = [.ref t, .bl b] /\ TreeAt H t r /\ Ok r /\ Agg H pt /\ ∀ x H', F5 pt H H' -> Agg H' pt -> RuleAt A H' x r -> Q (.ref x) H'
def Ams (a b c d : V) : xx [a, b, c, d] (some (-2)) none = [c, d] := rfl
def Alf (a b c d e : V) : xx [a, b, c, d, e] (some (-2)) none = [d, e] := rfl
def NX (r : Rl) (b e : Int) (Q : VK) (H : Hp) : Prop := (∀ d, b <= d -> d < e -> fl r d = true -> DN.No r b d -> Q (.int d) H) /\ (DN.No r b e -> Q .non H)
def gm : Sp := λ vs H Q _ => ∃ (x : Addr) (b e : Int), vs = [.ref x, .int b, .int e] /\ Q .non H
def Wi (b e : Int) : Prop := -(2 ^ 60) < b /\ b < 2 ^ 60 /\ -(2 ^ 60) < e /\ e < 2 ^ 60
def Rk (A : RAd) : Sp := λ vs H Q _ => ∃ (x : Addr) (b e st fi : Int), vs = [.ref x, .int b, .int e] /\ RuleAt A H x (.ev st fi) /\ Ok (.ev st fi) /\ NX (.ev st fi) b e Q H
def X8 (A : RAd) : Sp := λ vs H Q _ => ∃ (x : Addr) (b e mk fi ev : Int), vs = [.ref x, .int b, .int e] /\ RuleAt A H x (.wk mk fi ev) /\ Ok (.wk mk fi ev) /\ NX (.wk mk fi ev) b e Q H
def Xj (A : RAd) : Sp := λ vs H Q _ => ∃ (x : Addr) (b e : Int) (r : Rl), vs = [.ref x, .int b, .int e] /\ DN.isM r /\ RuleAt A H x r /\ Ok r /\ NX r b e Q H
def ab (A : RAd) : Sp := λ vs H Q _ => ∃ (x : Addr) (b e m r : Int), vs = [.ref x, .int b, .int e] /\ RuleAt A H x (.wh m r) /\ Ok (.wh m r) /\ Wi b e /\ NX (.wh m r) b e Q H
def mw : Sp := λ vs H Q _ => ∃ n : Int, vs = [.int n] /\ Q (.int (n * 7 - 5)) H
def Aet (a : Adr) : Addr -> (V -> List V -> Hp -> VK -> Prop) -> Prop := λ C R => (C = a.Av /\ R = λ x vs H Q => (J7 (ad a)) (x :: (vs ++ ([] : List V))) H Q E0) ∨ (C = a.Fm /\ R = λ x vs H Q => (Q5 (ad a)) (x :: (vs ++ ([] : List V))) H Q E0) ∨ (C = a.Az /\ R = λ x vs H Q => (Lh (ad a)) (x :: (vs ++ ([] : List V))) H Q E0)
theorem Aap (T : Vy K mg base a) (hm : DN.isM r) (hr : RuleAt (ad a) H x r) : ∃ (C dx : Addr) (fs : List (Str × V)), H x = some (.ins C dx fs) /\ Cls K C /\ (NoAttr K C "first" /\ fs.lookup ("first" : Str) = some (.int (DN.fiM r))) /\ (NoAttr K C "origin" /\ fs.lookup ("origin" : Str) = some (.int (DN.orM r))) /\ (NoAttr K C "stride" /\ fs.lookup ("stride" : Str) = some (.int (DN.stM r))) /\ fs.lookup ("day_in" : Str) = none /\
  ∃ R' : V -> List V -> Hp -> VK -> Prop, Aet a C R' /\ ∀ (n : Int) (R : VK), R (oV (DN.gM r n)) H -> R' (.ref x) [.int n] H R := by
 cases r with
 | mo dt fi e => obtain ⟨dx, hx⟩ := id hr; exact ⟨_, dx, _, hx, T.Cn, ⟨T.M6, rfl⟩, ⟨T.Lu, rfl⟩, ⟨T.Ll, rfl⟩, rfl, _, .inl ⟨rfl, rfl⟩, λ n R k => ⟨x, n, dt, fi, e, rfl, hr, k⟩⟩
 | nt w wd fi e => obtain ⟨dx, hx⟩ := id hr; exact ⟨_, dx, _, hx, T.Lz, ⟨T.Vr, rfl⟩, ⟨T.So, rfl⟩, ⟨T.Sr, rfl⟩, rfl, _, .inr (.inl ⟨rfl, rfl⟩), λ n R k => ⟨x, n, w, wd, fi, e, rfl, hr, k⟩⟩
 | yr mn dt fi e => obtain ⟨dx, hx⟩ := id hr; exact ⟨_, dx, _, hx, T.C9, ⟨T.O9, rfl⟩, ⟨T.Mx, rfl⟩, ⟨T.Ms, rfl⟩, rfl, _, .inr (.inr ⟨rfl, rfl⟩), λ n R k => ⟨x, n, mn, dt, fi, e, rfl, hr, k⟩⟩
 | _ => exact hm.elim
open DJ (Rt ft dep Okt Qh oy Dy)
open DR (days)
theorem noK {m : Str} : ∀ {fs : List (Str × V)} {ks : List Str}, fs.map (·.1) = ks -> (ks.all λ k => !(m == k)) = true -> fs.lookup m = none
 | [], _, _, _ => rfl
 |
  (k, v) :: fs, _, rfl, h => by
  rw [An9, List.all_cons, Ani, Ar3] at h
  rw [Afl h.1]
  exact noK rfl h.2
structure JAd where
 s : RAd
 ei : Addr
 bo : Addr
 bu : Addr
 wi : Addr
 sh : Addr
 ch : Addr
abbrev jd (a : Adr) : JAd := ⟨ad a, a.Bi, a.En, a.Lc, a.Bf, a.Bb, a.Ak⟩
abbrev F2 (y z : Addr) : List (Str × V) := [("one", .ref y), ("other", .ref z)]
abbrev FW (y : Addr) (b e : Int) : List (Str × V) := [("rule", .ref y), ("begin", .int b), ("end", .int e)]
abbrev FS (y : Addr) (n : Int) : List (Str × V) := [("rule", .ref y), ("many", .int n)]
abbrev FC (y p q o g l : Addr) : List (Str × V) := [("rule", .ref y), ("left", .ref p), ("more", .ref q), ("moved", .ref o), ("gained", .ref g), ("lost", .ref l)]
def RtAt (A : JAd) (H : Hp) : Rt -> Addr -> Prop
 | .s r => λ x => RuleAt A.s H x r
 | .ei a b => λ x => ∃ dx y z, H x = some (.ins A.ei dx (F2 y z)) /\ RtAt A H a y /\ RtAt A H b z
 | .bo a b => λ x => ∃ dx y z, H x = some (.ins A.bo dx (F2 y z)) /\ RtAt A H a y /\ RtAt A H b z
 | .bu a b => λ x => ∃ dx y z, H x = some (.ins A.bu dx (F2 y z)) /\ RtAt A H a y /\ RtAt A H b z
 | .wi b e r => λ x => ∃ dx y, H x = some (.ins A.wi dx (FW y b e)) /\ RtAt A H r y
 | .sh n r => λ x => ∃ dx y, H x = some (.ins A.sh dx (FS y n)) /\ RtAt A H r y
 | .ch r ls ms mv => λ x => ∃ dx y p q o g l gs kvs, H x = some (.ins A.ch dx (FC y p q o g l)) /\ RtAt A H r y /\ (H g = some (.tup (gs.map V.int)) /\ DC.zj gs /\ gs.length <= 20 /\ ∀ k, k ∈ gs ↔ k ∈ Qh (ft r) ls ms mv) /\ H l = some (.dK kvs) /\ ∀ k : Int, (T2 kvs (Sum.inl k)).isSome = decide (k ∈ oy ls mv)
set_option smartUnfolding true in
theorem RtAt.up (s : Same H H') : ∀ {t : Rt} {x : Addr}, RtAt A H t x -> RtAt A H' t x
 | .s r, x, h => RuleAt.up h s
 | .ei a b, x, ⟨dx, y, z, h, h1, h2⟩ => ⟨dx, y, z, s _ _ h, h1.up s, h2.up s⟩
 | .bo a b, x, ⟨dx, y, z, h, h1, h2⟩ => ⟨dx, y, z, s _ _ h, h1.up s, h2.up s⟩
 | .bu a b, x, ⟨dx, y, z, h, h1, h2⟩ => ⟨dx, y, z, s _ _ h, h1.up s, h2.up s⟩
 | .wi b e r, x, ⟨dx, y, h, h1⟩ => ⟨dx, y, s _ _ h, h1.up s⟩
 | .sh n r, x, ⟨dx, y, h, h1⟩ => ⟨dx, y, s _ _ h, h1.up s⟩
 | .ch r ls ms mv, x, ⟨dx, y, p, q, o, g, l, gs, kvs, h, h1, ⟨h2, h3⟩, h4, h5⟩ => ⟨dx, y, p, q, o, g, l, gs, kvs, s _ _ h, h1.up s, ⟨s _ _ h2, h3⟩, s _ _ h4, h5⟩
set_option smartUnfolding true in
def RtAt.isEi : RtAt A H (.ei p q) x ↔ ∃ dx y z, H x = some (.ins A.ei dx (F2 y z)) /\ RtAt A H p y /\ RtAt A H q z := Aqr
set_option smartUnfolding true in
def RtAt.isBo : RtAt A H (.bo p q) x ↔ ∃ dx y z, H x = some (.ins A.bo dx (F2 y z)) /\ RtAt A H p y /\ RtAt A H q z := Aqr
set_option smartUnfolding true in
def RtAt.isBu : RtAt A H (.bu p q) x ↔ ∃ dx y z, H x = some (.ins A.bu dx (F2 y z)) /\ RtAt A H p y /\ RtAt A H q z := Aqr
set_option smartUnfolding true in
def RtAt.isWi : RtAt A H (.wi b e r) x ↔ ∃ dx y, H x = some (.ins A.wi dx (FW y b e)) /\ RtAt A H r y := Aqr
set_option smartUnfolding true in
def RtAt.isSh : RtAt A H (.sh n r) x ↔ ∃ dx y, H x = some (.ins A.sh dx (FS y n)) /\ RtAt A H r y := Aqr
set_option smartUnfolding true in
def RtAt.isCh : RtAt A H (.ch r ls ms mv) x ↔ ∃ dx y p q o g l gs kvs, H x = some (.ins A.ch dx (FC y p q o g l)) /\ RtAt A H r y /\ (H g = some (.tup (gs.map V.int)) /\ DC.zj gs /\ gs.length <= 20 /\ ∀ k, k ∈ gs ↔ k ∈ Qh (ft r) ls ms mv) /\ H l = some (.dK kvs) /\ ∀ k : Int, (T2 kvs (Sum.inl k)).isSome = decide (k ∈ oy ls mv) := Aqr
def kd : Rt -> Nat
 | .s .nv => 0
 | .s (.ev _ _) => 1
 | .s (.wk _ _ _) => 2
 | .s (.mo _ _ _) => 3
 | .s (.nt _ _ _ _) => 4
 | .s (.yr _ _ _ _) => 5
 | .s (.dy _) => 6
 | .s (.wh _ _) => 7
 | .ei _ _ => 8
 | .bo _ _ => 9
 | .bu _ _ => 10
 | .wi _ _ _ => 11
 | .sh _ _ => 12
 | .ch _ _ _ _ => 13
def jc (A : JAd) : Nat -> Addr
 | 0 => A.s.r
 | 1 => A.s.e
 | 2 => A.s.k
 | 3 => A.s.m
 | 4 => A.s.n
 | 5 => A.s.y
 | 6 => A.s.d
 | 7 => A.s.w
 | 8 => A.ei
 | 9 => A.bo
 | 10 => A.bu
 | 11 => A.wi
 | 12 => A.sh
 | _ => A.ch
theorem Agh (t) : kd t < 14 := by
 cases t with
 | s r => cases r <;> exact Apb rfl
 | _ => exact Apb rfl
def kdP (t : Rt) : Nat -> Prop
 | 0 => t = .s .nv
 | 1 => ∃ x0 x1, t = .s (.ev x0 x1)
 | 2 => ∃ x0 x1 x2, t = .s (.wk x0 x1 x2)
 | 3 => ∃ x0 x1 x2, t = .s (.mo x0 x1 x2)
 | 4 => ∃ x0 x1 x2 x3, t = .s (.nt x0 x1 x2 x3)
 | 5 => ∃ x0 x1 x2 x3, t = .s (.yr x0 x1 x2 x3)
 | 6 => ∃ x0, t = .s (.dy x0)
 | 7 => ∃ x0 x1, t = .s (.wh x0 x1)
 | 8 => ∃ x0 x1, t = .ei x0 x1
 | 9 => ∃ x0 x1, t = .bo x0 x1
 | 10 => ∃ x0 x1, t = .bu x0 x1
 | 11 => ∃ x0 x1 x2, t = .wi x0 x1 x2
 | 12 => ∃ x0 x1, t = .sh x0 x1
 | _ => ∃ x0 x1 x2 x3, t = .ch x0 x1 x2 x3
theorem kdA : ∀ t, kdP t (kd t)
 | .s .nv => rfl
 | .s (.ev _ _) => ⟨_, _, rfl⟩
 | .s (.wk _ _ _) => ⟨_, _, _, rfl⟩
 | .s (.mo _ _ _) => ⟨_, _, _, rfl⟩
 | .s (.nt _ _ _ _) => ⟨_, _, _, _, rfl⟩
 | .s (.yr _ _ _ _) => ⟨_, _, _, _, rfl⟩
 | .s (.dy _) => ⟨_, rfl⟩
 | .s (.wh _ _) => ⟨_, _, rfl⟩
 | .ei _ _ => ⟨_, _, rfl⟩
 | .bo _ _ => ⟨_, _, rfl⟩
 | .bu _ _ => ⟨_, _, rfl⟩
 | .wi _ _ _ => ⟨_, _, _, rfl⟩
 | .sh _ _ => ⟨_, _, rfl⟩
 | .ch _ _ _ _ => ⟨_, _, _, _, rfl⟩
def kdJ (h : kd t = i) : kdP t i := h ▸ kdA t
def kd0 (h : kd t = 0) : t = .s .nv := kdJ h
theorem Alm (hk : kd t = i) (hi : 8 <= i) (hd : dep t <= 0) : False := by
 subst hk
 cases t with
 | s r => cases r <;> exact absurd (show false = true from Nat.ble_eq_true_of_le hi) dkd
 | _ => exact absurd hd (Nat.not_succ_le_zero _)
def Nom (fs : List (Str × V)) : Prop := fs.lookup ("falls_on" : Str) = none /\ fs.lookup ("days_in" : Str) = none /\ fs.lookup ("next_in" : Str) = none
def Pr (h : fs.map (·.1) = ks) (h1 : (ks.all λ k => !(("falls_on" : Str) == k) && !(("days_in" : Str) == k) && !(("next_in" : Str) == k)) = true) : Nom fs := by
 have all := List.all_eq_true.mp h1
 refine ⟨noK h (Aqj.mpr λ k hk => ?_), noK h (Aqj.mpr λ k hk => ?_), noK h (Aqj.mpr λ k hk => ?_)⟩
 all_goals
  have := all k hk
  rw [Ani, Ani] at this
  first | exact this.1.1 | exact this.1.2 | exact this.2
set_option smartUnfolding true in
theorem xt : ∀ {t : Rt} {x : Addr}, RtAt (jd a) H t x -> ∃ dx fs, H x = some (.ins (jc (jd a) (kd t)) dx fs) /\ Nom fs
 | .s .nv, x, ⟨dx, h⟩ => ⟨dx, _, h, rfl, rfl, rfl⟩
 | .s (.ev _ _), x, ⟨dx, h⟩ => ⟨dx, _, h, Pr (ks := ["step", "first"]) rfl dkk⟩
 | .s (.wk _ _ _), x, ⟨dx, h⟩ => ⟨dx, _, h, Pr (ks := ["mask", "first", "every"]) rfl dkk⟩
 | .s (.mo _ _ _), x, ⟨dx, h⟩ => ⟨dx, _, h, Pr (ks := ["origin", "stride", "first", "date", "every"]) rfl dkk⟩
 | .s (.nt _ _ _ _), x, ⟨dx, h⟩ => ⟨dx, _, h, Pr (ks := ["origin", "stride", "first", "which", "weekday_of", "every"]) rfl dkk⟩
 | .s (.yr _ _ _ _), x, ⟨dx, h⟩ => ⟨dx, _, h, Pr (ks := ["origin", "stride", "first", "month", "date", "every"]) rfl dkk⟩
 | .s (.dy _), x, ⟨dx, u, ms, h, _⟩ => ⟨dx, _, h, Pr (ks := ["days"]) rfl dkk⟩
 | .s (.wh _ _), x, ⟨dx, f, t, h, _⟩ => ⟨dx, _, h, Pr (ks := ["test"]) rfl dkk⟩
 | .ei _ _, x, ⟨dx, y, z, h, _⟩ => ⟨dx, _, h, Pr (ks := ["one", "other"]) rfl dkk⟩
 | .bo _ _, x, ⟨dx, y, z, h, _⟩ => ⟨dx, _, h, Pr (ks := ["one", "other"]) rfl dkk⟩
 | .bu _ _, x, ⟨dx, y, z, h, _⟩ => ⟨dx, _, h, Pr (ks := ["one", "other"]) rfl dkk⟩
 | .wi _ _ _, x, ⟨dx, y, h, _⟩ => ⟨dx, _, h, Pr (ks := ["rule", "begin", "end"]) rfl dkk⟩
 | .sh _ _, x, ⟨dx, y, h, _⟩ => ⟨dx, _, h, Pr (ks := ["rule", "many"]) rfl dkk⟩
 | .ch _ _ _ _, x, ⟨dx, y, p, q, o, g, l, gs, kvs, h, _⟩ => ⟨dx, _, h, Pr (ks := ["rule", "left", "more", "moved", "gained", "lost"]) rfl dkk⟩
def Bd (d : Int) : Prop := -(2 ^ 61) < d /\ d < 2 ^ 61
def spF (A : JAd) (n i : Nat) : Sp := λ vs H Q _ => ∃ (x : Addr) (d : Int) (t : Rt), vs = [.ref x, .int d] /\ kd t = i /\ dep t <= n /\ RtAt A H t x /\ Okt t /\ Bd d /\ Q (.bl (ft t d)) H
def dF (a : Adr) (n : Nat) : Addr -> (V -> List V -> Hp -> VK -> Prop) -> Prop := λ C R => ∃ i, i < 14 /\ C = jc (jd a) i /\ R = λ x vs H Q => spF (jd a) n i (x :: (vs ++ [])) H Q E0
def De (hr : RtAt (jd a) H t x) (hn : dep t <= n) (ok : Okt t) (hd : Bd d) :
  ∃ (C dx : Addr) (fs : List (Str × V)) (R' : V -> List V -> Hp -> VK -> Prop), H x = some (.ins C dx fs) /\ fs.lookup ("falls_on" : Str) = none /\ dF a n C R' /\ ∀ R : VK, R (.bl (ft t d)) H -> R' (.ref x) [.int d] H R := by
 obtain ⟨dx, fs, h, h1, _⟩ := xt hr
 exact ⟨_, dx, fs, _, h, h1, ⟨kd t, Agh t, rfl, rfl⟩, λ R k => ⟨x, d, t, rfl, rfl, hn, hr, ok, hd, k⟩⟩
def K8 (C : Addr) : Sp := λ vs H Q _ => ∃ (x dx y p q o g l : Addr) (gs : List Int) (d : Int), vs = [.ref x, .int d] /\ H x = some (.ins C dx (FC y p q o g l)) /\ H g = some (.tup (gs.map V.int)) /\ DC.zj gs /\ gs.length <= 20 /\ Q (.bl (decide (d ∈ gs))) H
def Nx (r : Rl) (b e : Int) : Option Int -> Prop
 | some d => b <= d /\ d < e /\ fl r d = true /\ DN.No r b d
 | none => DN.No r b e
def NX.of (k : ∀ o, Nx r b e o -> Q (oV o) H) : NX r b e Q H := ⟨λ d h1 h2 h3 h4 => k (some d) ⟨h1, h2, h3, h4⟩, λ h => k none h⟩
theorem NX.dy (k : NX (.dy ds) b e Q H) : (∀ d, b <= d -> d < e -> d ∈ ds -> (∀ k, b <= k -> k < d -> k ∉ ds) -> Q (.int d) H) /\ ((∀ k, b <= k -> k < e -> k ∉ ds) -> Q .non H) :=
 ⟨λ d h1 h2 h3 h4 => k.1 d h1 h2 (Am6 h3) λ z z1 z2 => Ane (h4 z z1 z2), λ h => k.2 λ z z1 z2 => Ane (h z z1 z2)⟩
def spS (A : RAd) (i : Nat) : Sp := λ vs H Q _ => ∃ (x : Addr) (b e : Int) (r : Rl), vs = [.ref x, .int b, .int e] /\ kd (.s r) = i /\ RuleAt A H x r /\ Ok r /\ Wi b e /\ NX r b e Q H
def dS (a : Adr) : Addr -> (V -> List V -> Hp -> VK -> Prop) -> Prop := λ C R => ∃ i, i < 8 /\ C = jc (jd a) i /\ R = λ x vs H Q => spS (ad a) i (x :: (vs ++ [])) H Q E0
def Ahw (r) : kd (.s r) < 8 := by cases r <;> exact Apb rfl
def Aeq (hr : RuleAt (ad a) H x r) (ok : Ok r) (hw : Wi b e) :
  ∃ (C dx : Addr) (fs : List (Str × V)) (R' : V -> List V -> Hp -> VK -> Prop), H x = some (.ins C dx fs) /\ fs.lookup ("next_in" : Str) = none /\ dS a C R' /\ ∀ R : VK, (∀ o, Nx r b e o -> R (oV o) H) -> R' (.ref x) [.int b, .int e] H R := by
 obtain ⟨dx, fs, h, _, _, h1⟩ := xt (a := a) (t := .s r) hr
 exact ⟨_, dx, fs, _, h, h1, ⟨kd (.s r), Ahw r, rfl, rfl⟩, λ R k => ⟨x, b, e, r, rfl, rfl, hr, ok, hw, NX.of k⟩⟩
def gp (A : RAd) : Sp := λ vs H Q _ => ∃ (x : Addr) (b e : Int) (r : Rl), vs = [.ref x, .int b, .int e] /\ RuleAt A H x r /\ Ok r /\ Wi b e /\ ∀ (D : Addr) H', Same H H' -> H' D = some (.lst ((days (fl r) b e).map V.int)) -> Q (.ref D) H'
def Z8 (A : RAd) : Sp := λ vs H Q _ => ∃ (x : Addr) (b e st fi : Int), vs = [.ref x, .int b, .int e] /\ RuleAt A H x (.ev st fi) /\ Ok (.ev st fi) /\ Wi b e /\ ∀ (D : Addr) H', Same H H' -> H' D = some (.lst ((days (fl (.ev st fi)) b e).map V.int)) -> Q (.ref D) H'
def msO : Option Int -> Nat
 | some d => (146097 - d).toNat + 1
 | none => 0
def Acj : Sp := λ vs H Q _ => ∃ (p q : Addr) (xs ys : List Int), vs = [.ref p, .ref q] /\ H p = some (.lst (xs.map V.int)) /\ H q = some (.lst (ys.map V.int)) /\ xs.length <= 2000 /\ ys.length <= 2000 /\ xs.Pairwise (· < ·) /\ ys.Pairwise (· < ·) /\ (∀ qs : List Int, qs.Nodup -> (∀ z ∈ qs, z ∈ xs ∨ z ∈ ys) -> qs.length < 64) /\
 ∀ (D : Addr) H' (ms : List Int), Same H H' -> H' D = some (.lst (ms.map V.int)) -> ms.Pairwise (· < ·) -> (∀ k, k ∈ ms ↔ k ∈ xs ∨ k ∈ ys) -> Q (.ref D) H'
def Aif (xs : List Int) : (xs.map V.int).isEmpty = xs.isEmpty := by cases xs <;> rfl
def Wn (n : Nat) (b e : Int) : Prop := n <= 100 /\ -(2 ^ 60 - 4000 * (n : Int)) < b /\ b < 2 ^ 60 - 4000 * (n : Int) /\ -(2 ^ 60 - 4000 * (n : Int)) < e /\ e < 2 ^ 60 - 4000 * (n : Int)
def Wn.wi (h : Wn n b e) : Wi b e := by
 obtain ⟨h0, h1, h2, h3, h4⟩ := h
 exact ⟨dkm, dkm, dkm, dkm⟩
def Sz (t : Rt) (b e : Int) : Prop := DJ.Nar b e ∨ (∃ ds, t = .s (.dy ds)) ∨ ∃ ds ls ms mv, t = .ch (.s (.dy ds)) ls ms mv /\ ds.length <= 40
def DLt (t : Rt) (b e : Int) (Q : VK) (H : Hp) : Prop := ∀ (D : Addr) H', Same H H' -> H' D = some (.lst ((days (ft t) b e).map V.int)) -> Q (.ref D) H'
def spD (A : JAd) (n i : Nat) : Sp := λ vs H Q _ => ∃ (x : Addr) (b e : Int) (t : Rt), vs = [.ref x, .int b, .int e] /\ kd t = i /\ dep t <= n /\ RtAt A H t x /\ Okt t /\ Wn n b e /\ Sz t b e /\ DLt t b e Q H
def dD (a : Adr) (n : Nat) : Addr -> (V -> List V -> Hp -> VK -> Prop) -> Prop := λ C R => ∃ i, i < 14 /\ C = jc (jd a) i /\ R = λ x vs H Q => spD (jd a) n i (x :: (vs ++ [])) H Q E0
def Ts (hr : RtAt (jd a) H t x) (hn : dep t <= n) (ok : Okt t) (hw : Wn n b e) (hs : Sz t b e) :
  ∃ (C dx : Addr) (fs : List (Str × V)) (R' : V -> List V -> Hp -> VK -> Prop), H x = some (.ins C dx fs) /\ fs.lookup ("days_in" : Str) = none /\ dD a n C R' /\ ∀ R : VK, (∀ (D : Addr) H', Same H H' -> H' D = some (.lst ((days (ft t) b e).map V.int)) -> R (.ref D) H') -> R' (.ref x) [.int b, .int e] H R := by
 obtain ⟨dx, fs, h, _, h1, _⟩ := xt hr
 exact ⟨_, dx, fs, _, h, h1, ⟨kd t, Agh t, rfl, rfl⟩, λ R k => ⟨x, b, e, t, rfl, rfl, hn, hr, ok, hw, hs, k⟩⟩
def nq (ok : Okt t) (h : z ∈ days (ft t) b e) : b <= z /\ z < e /\ 0 <= z /\ z < 146097 := by
 obtain ⟨a1, a2, a3⟩ := DR.A2.mp h
 have := DJ.xm ok a3
 exact ⟨a1, a2, this.1, this.2⟩
def Aec {b e : Int} {qs : List Int} (h : DJ.Nar b e) (nd : qs.Nodup) (hq : ∀ z ∈ qs, b <= z /\ z < e /\ 0 <= z /\ z < 146097) : qs.length < 64 := by
 have hl := cb (ds := DR.rng (if 0 > b then 0 else b) (if 146097 < e then 146097 else e)) nd λ z hz => by
  obtain ⟨a1, a2, a3, a4⟩ := hq z hz
  rw [DR.Aaj]
  constructor <;> split <;> omega
 have h2 : (DR.rng (if 0 > b then 0 else b) (if 146097 < e then 146097 else e)).length <= 60 := by
  unfold DR.rng
  rw [Am9, An5]
  unfold DJ.Nar at h
  omega
 omega
def Afu (p : Int -> Bool) : V -> Bool
 | .int d => p d
 | _ => false
theorem Ahg {p : Int -> Bool} {ds : List Int} : (ds.map V.int).filter (Afu p) = (ds.filter p).map V.int := by
 induction ds with
 | nil => rfl
 |
  cons d ds ih =>
  rw [An9, List.filter_cons, List.filter_cons]
  show (if p d = true then _ else _) = _
  split
  · rw [An9, ih]
  · exact ih
def Afs {xs : List V} {i j : Nat} (h : j <= xs.length) (hi : i <= xs.length) : xx xs (some (i : Int)) (some (j : Int)) = (xs.take j).drop i := by
 unfold xx
 rw [HT.uz, HT.uz, Nat.min_eq_left h, Nat.min_eq_left hi, List.drop_take]
def Nxt (t : Rt) (b e : Int) : Option Int -> Prop
 | some d => b <= d /\ d < e /\ ft t d = true /\ ∀ k, b <= k -> k < d -> ft t k = false
 | none => ∀ k, b <= k -> k < e -> ft t k = false
theorem Nxt.uniq : ∀ {o p : Option Int}, Nxt t b e o -> Nxt t b e p -> o = p
 |
  some d, some d', ⟨a1, a2, a3, a4⟩, ⟨b1, b2, b3, b4⟩ => by
  by_cases h1 : d < d'
  · rw [b4 d a1 h1] at a3; cases a3
  ·
   by_cases h2 : d' < d
   · rw [a4 d' b1 h2] at b3; cases b3
   · rw [show d = d' by omega]
 | some d, none, ⟨a1, a2, a3, a4⟩, g => by rw [g d a1 a2] at a3; cases a3
 | none, some d, g, ⟨a1, a2, a3, a4⟩ => by rw [g d a1 a2] at a3; cases a3
 | none, none, _, _ => rfl
def spN (A : JAd) (n i : Nat) : Sp := λ vs H Q _ => ∃ (x : Addr) (b e : Int) (t : Rt), vs = [.ref x, .int b, .int e] /\ kd t = i /\ dep t <= n /\ RtAt A H t x /\ Okt t /\ Wn n b e /\ Sz t b e /\ ∀ o H', Same H H' -> Nxt t b e o -> Q (oV o) H'
def spJ (A : JAd) (n : Nat) : Sp := λ vs H Q E => ∃ i, spN A n i vs H Q E
def dN (a : Adr) (n : Nat) : Addr -> (V -> List V -> Hp -> VK -> Prop) -> Prop := λ C R => ∃ i, i < 14 /\ C = jc (jd a) i /\ R = λ x vs H Q => spN (jd a) n i (x :: (vs ++ [])) H Q E0
def Agm (hr : RtAt (jd a) H t x) (hn : dep t <= n) (ok : Okt t) (hw : Wn n b e) (hs : Sz t b e) :
  ∃ (C dx : Addr) (fs : List (Str × V)) (R' : V -> List V -> Hp -> VK -> Prop), H x = some (.ins C dx fs) /\ fs.lookup ("next_in" : Str) = none /\ dN a n C R' /\ ∀ R : VK, (∀ o H', Same H H' -> Nxt t b e o -> R (oV o) H') -> R' (.ref x) [.int b, .int e] H R := by
 obtain ⟨dx, fs, h, _, _, h1⟩ := xt hr
 exact ⟨_, dx, fs, _, h, h1, ⟨kd t, Agh t, rfl, rfl⟩, λ R k => ⟨x, b, e, t, rfl, rfl, hn, hr, ok, hw, hs, k⟩⟩
def Sz.sub (h : Sz t b e) (h1 : b <= c) (h2 : u <= e) (h3 : 0 <= c) : Sz t c u := by
 rcases h with h | h
 ·
  refine .inl ?_
  unfold DJ.Nar at h ⊢
  (repeat' split at h) <;> (repeat' split) <;> omega
 · exact .inr h
def rg (k : ∀ o H', Same H H' -> Nxt (.s r) b e o -> Q (oV o) H') : NX r b e Q H := ⟨λ d h1 h2 h3 h4 => k (some d) H (Ase _) ⟨h1, h2, h3, h4⟩, λ h => k none H (Ase _) h⟩
theorem r8 (h : days f b e = d :: ds) : b <= d /\ d < e /\ f d = true /\ ∀ k, b <= k -> k < d -> f k = false := by
 obtain ⟨a1, a2, a3⟩ := DR.A2.mp (h ▸ Ano .. : d ∈ days f b e)
 refine ⟨a1, a2, a3, λ k k1 k2 => ?_⟩
 cases e1 : f k with
 | false => rfl
 |
  true =>
  have hk : k ∈ days f b e := DR.A2.mpr ⟨k1, dkm, e1⟩
  rw [h] at hk
  have hr := DR.A6 f b e
  rw [h] at hr
  rcases Anf.mp hk with rfl | hk
  · omega
  ·
   have := (Aps.mp hr).1 k hk
   omega
theorem v8 (h : days f b e = []) : ∀ k, b <= k -> k < e -> f k = false := λ k k1 k2 => by
 cases e1 : f k with
 | false => rfl
 |
  true =>
  have hk : k ∈ days f b e := DR.A2.mpr ⟨k1, k2, e1⟩
  rw [h] at hk
  cases hk
def f9 (a b c d : V) : List.lookup ("days_gained" : Str) ([("rule", a), ("left", b), ("more", c), ("moved", d)] : List (Str × V)) = none := noK (ks := ["rule", "left", "more", "moved"]) rfl dkk
abbrev FC4 (y p q o : Addr) : List (Str × V) := [("rule", .ref y), ("left", .ref p), ("more", .ref q), ("moved", .ref o)]
abbrev FC5 (y p q o g : Addr) : List (Str × V) := [("rule", .ref y), ("left", .ref p), ("more", .ref q), ("moved", .ref o), ("gained", .ref g)]
def zp (ls : List Int) : (ls.map V.int).all nk = true := by rw [List.all_map]; exact Aqj.mpr λ _ _ => rfl
def Vo (C : Addr) : Sp := λ vs H Q _ => ∃ (x dx y z : Addr), vs = [.ref x, .ref y, .ref z] /\ H x = some (.ins C dx []) /\ ∀ H', F5 x H H' -> H' x = some (.ins C dx (F2 y z)) -> Q .non H'
def jj (C : Addr) : Sp := λ vs H Q _ => ∃ (x dx y : Addr) (b e : Int), vs = [.ref x, .ref y, .int b, .int e] /\ H x = some (.ins C dx []) /\ ∀ H', F5 x H H' -> H' x = some (.ins C dx (FW y b e)) -> Q .non H'
def d8 (C : Addr) : Sp := λ vs H Q _ => ∃ (x dx y : Addr) (m : Int), vs = [.ref x, .ref y, .int m] /\ -1000 <= m /\ m <= 1000 /\ H x = some (.ins C dx []) /\ ∀ H', F5 x H H' -> H' x = some (.ins C dx (FS y m)) -> Q .non H'
def Gs (H : Hp) (g : Addr) (gs : List Int) (f : Int -> Bool) (ls ms : List Int) (mv : List (Int × Int)) : Prop := H g = some (.tup (gs.map V.int)) /\ DC.zj gs /\ gs.length <= 20 /\ ∀ k, k ∈ gs ↔ k ∈ Qh f ls ms mv
def OkC (ls ms : List Int) (mv : List (Int × Int)) : Prop := (ls.length <= 10 /\ ms.length <= 10 /\ mv.length <= 10) /\ (∀ d ∈ ls, Dy d) /\ (∀ d ∈ ms, Dy d) /\ ∀ y ∈ mv, Dy y.1 /\ Dy y.2
def MvAt (H : Hp) (o : Addr) (mv : List (Int × Int)) : Prop := ∃ rs : List RA, H o = some (.tup (refs rs)) /\ RowOk H rs /\ sps rs = mv
theorem MvAt.up (h : MvAt H o mv) (s : Same H H') : MvAt H' o mv := by
 obtain ⟨rs, h1, h2, h3⟩ := h
 exact ⟨rs, s _ _ h1, h2.up s, h3⟩
def U3 (A : JAd) (n : Nat) : Sp := λ vs H Q _ => ∃ (x dx y p q o : Addr) (r : Rt) (ls ms : List Int) (mv : List (Int × Int)), vs = [.ref x] /\ H x = some (.ins A.ch dx (FC4 y p q o)) /\ RtAt A H r y /\ dep r <= n /\ Okt r /\ H p = some (.tup (ls.map V.int)) /\ H q = some (.tup (ms.map V.int)) /\ MvAt H o mv /\ OkC ls ms mv /\
 ∀ g gs H', Same H H' -> Gs H' g gs (ft r) ls ms mv -> Q (.ref g) H'
def Ls (H : Hp) (l : Addr) (ls : List Int) (mv : List (Int × Int)) : Prop := ∃ kvs, H l = some (.dK kvs) /\ ∀ k : Int, (T2 kvs (Sum.inl k)).isSome = decide (k ∈ oy ls mv)
def Yy (C : Addr) : Sp := λ vs H Q _ => ∃ (x dx y p q o g : Addr) (ls : List Int) (mv : List (Int × Int)), vs = [.ref x] /\ H x = some (.ins C dx (FC5 y p q o g)) /\ H p = some (.tup (ls.map V.int)) /\ MvAt H o mv /\ ls.length <= 10 /\ mv.length <= 10 /\
 ∀ l H', Same H H' -> Ls H' l ls mv -> Q (.ref l) H'
def OT (H : Hp) (v : V) (ls : List Int) : Prop := (v = .non /\ ls = []) ∨ ∃ p, v = .ref p /\ H p = some (.tup (ls.map V.int))
def OM (H : Hp) (v : V) (mv : List (Int × Int)) : Prop := (v = .non /\ mv = []) ∨ ∃ o, v = .ref o /\ MvAt H o mv
def Tv (A : JAd) (n : Nat) : Sp := λ vs H Q _ => ∃ (x dx y : Addr) (v1 v2 v3 : V) (r : Rt) (ls ms : List Int) (mv : List (Int × Int)) (H0 : Hp), vs = [.ref x, .ref y, v1, v2, v3] /\ H x = some (.ins A.ch dx []) /\ H0 x = none /\ Same H0 H /\ RtAt A H0 r y /\ dep r <= n /\ Okt r /\ OT H0 v1 ls /\ OT H0 v2 ms /\ OM H0 v3 mv /\ OkC ls ms mv /\
 ∀ H', F5 x H H' -> RtAt A H' (.ch r ls ms mv) x -> Q .non H'
def Aen : (T2 (putK kvs (Sum.inl k : Key) v) (Sum.inl j)).isSome = (decide (j = k) || (T2 kvs (Sum.inl j)).isSome) := by
 rw [Qc]
 by_cases h : j = k
 · rw [if_pos (by rw [h]), Am6 h]; rfl
 · rw [if_neg (λ e => h (Sum.inl.inj e)), Ane h, Bool.false_or]
def xg {kvs : List (Key × V)} {k : Key} {v : V} : (putK kvs k v).length <= kvs.length + 1 := by
 unfold putK
 split
 · rw [Am9]; omega
 · rw [Anj]; exact Anh _
def sx0 (h0 : H0 x = none) (s : Same H0 H) (sx : F5 x H H') : Same H0 H' := λ c u e => sx _ _ (λ z => by rw [z, h0] at e; cases e) (s _ _ e)
set_option smartUnfolding true in
def TrAt (H : Hp) : Rt -> Addr -> Prop
 | .s r => λ t => TreeAt H t r
 | .ei a b => λ t => ∃ y z, H t = some (.tup [.str "either", .ref y, .ref z]) /\ TrAt H a y /\ TrAt H b z
 | .bo a b => λ t => ∃ y z, H t = some (.tup [.str "both", .ref y, .ref z]) /\ TrAt H a y /\ TrAt H b z
 | .bu a b => λ t => ∃ y z, H t = some (.tup [.str "but", .ref y, .ref z]) /\ TrAt H a y /\ TrAt H b z
 | .wi b e r => λ t => ∃ y, H t = some (.tup [.str "within", .int b, .int e, .ref y]) /\ TrAt H r y
 | .sh n r => λ t => ∃ y, H t = some (.tup [.str "shifted", .int n, .ref y]) /\ TrAt H r y
 | .ch r ls ms mv => λ t => ∃ y p q o, H t = some (.tup [.str "changed", .ref y, .ref p, .ref q, .ref o]) /\ TrAt H r y /\ H p = some (.tup (ls.map V.int)) /\ H q = some (.tup (ms.map V.int)) /\ MvAt H o mv
set_option smartUnfolding true in
theorem TrAt.ei : TrAt H (.ei p q) t ↔ ∃ y z, H t = some (.tup [.str "either", .ref y, .ref z]) /\ TrAt H p y /\ TrAt H q z := Aqr
set_option smartUnfolding true in
theorem TrAt.bo : TrAt H (.bo p q) t ↔ ∃ y z, H t = some (.tup [.str "both", .ref y, .ref z]) /\ TrAt H p y /\ TrAt H q z := Aqr
set_option smartUnfolding true in
theorem TrAt.bu : TrAt H (.bu p q) t ↔ ∃ y z, H t = some (.tup [.str "but", .ref y, .ref z]) /\ TrAt H p y /\ TrAt H q z := Aqr
set_option smartUnfolding true in
theorem TrAt.wi : TrAt H (.wi b e r) t ↔ ∃ y, H t = some (.tup [.str "within", .int b, .int e, .ref y]) /\ TrAt H r y := Aqr
set_option smartUnfolding true in
theorem TrAt.sh : TrAt H (.sh n r) t ↔ ∃ y, H t = some (.tup [.str "shifted", .int n, .ref y]) /\ TrAt H r y := Aqr
set_option smartUnfolding true in
theorem TrAt.ch : TrAt H (.ch r ls ms mv) t ↔ ∃ y p q o, H t = some (.tup [.str "changed", .ref y, .ref p, .ref q, .ref o]) /\ TrAt H r y /\ H p = some (.tup (ls.map V.int)) /\ H q = some (.tup (ms.map V.int)) /\ MvAt H o mv := Aqr
theorem MvAt.by {H H' : Hp} {o : Addr} {mv : List (Int × Int)} (h : MvAt H o mv) (ne : ∀ {b : Addr} {xs : List V}, H b = some (.tup xs) -> H' b = some (.tup xs)) : MvAt H' o mv := by
 obtain ⟨rs, h1, h2, h3⟩ := h
 exact ⟨rs, ne h1, λ x hx => ne (h2 x hx), h3⟩
set_option smartUnfolding true in
theorem TrAt.by {H H' : Hp} (ne : ∀ {b : Addr} {xs : List V}, H b = some (.tup xs) -> H' b = some (.tup xs)) : ∀ {r : Rt} {t : Addr}, TrAt H r t -> TrAt H' r t
 | .s .nv, t, h => ne h
 | .s (.ev _ _), t, h => ne h
 | .s (.wk _ _ _), t, h => ne h
 | .s (.mo _ _ _), t, h => ne h
 | .s (.nt _ _ _ _), t, h => ne h
 | .s (.yr _ _ _ _), t, h => ne h
 | .s (.dy _), t, ⟨u, h1, h2⟩ => ⟨u, ne h1, ne h2⟩
 | .s (.wh _ _), t, h => ne h
 | .ei a b, t, ⟨y, z, h, h1, h2⟩ => ⟨y, z, ne h, TrAt.by ne h1, TrAt.by ne h2⟩
 | .bo a b, t, ⟨y, z, h, h1, h2⟩ => ⟨y, z, ne h, TrAt.by ne h1, TrAt.by ne h2⟩
 | .bu a b, t, ⟨y, z, h, h1, h2⟩ => ⟨y, z, ne h, TrAt.by ne h1, TrAt.by ne h2⟩
 | .wi b e r, t, ⟨y, h, h1⟩ => ⟨y, ne h, TrAt.by ne h1⟩
 | .sh n r, t, ⟨y, h, h1⟩ => ⟨y, ne h, TrAt.by ne h1⟩
 | .ch r ls ms mv, t, ⟨y, p, q, o, h, h1, h2, h3, h4⟩ => ⟨y, p, q, o, ne h, TrAt.by ne h1, ne h2, ne h3, h4.by ne⟩
abbrev _root_.Asi := @TrAt.by
def TrAt.up {H H' : Hp} {r : Rt} {t : Addr} (h : TrAt H r t) (s : Same H H') : TrAt H' r t := Asi (λ e => s _ _ e) h
def TrAt.upX {H H' : Hp} {r : Rt} {t pt : Addr} {tb : Array Value} (h : TrAt H r t) (hp : H pt = some (.tbl tb)) (s : F5 pt H H') : TrAt H' r t := Asi (λ e => s _ _ (λ z => by rw [z, hp] at e; cases e) e) h
def fj : Sp := λ vs H Q _ => ∃ o : Option Int, vs = [oV o, oV o] /\ Q (.bl true) H
theorem Agu (h : fj vs H Q E) : (∃ d : Int, vs = [.int d, .int d] /\ Q (.bl true) H) ∨ (vs = [.non, .non] /\ Q (.bl true) H) := by
 obtain ⟨o, rfl, k⟩ := h
 cases o with
 | none => exact .inr ⟨rfl, k⟩
 | some d => exact .inl ⟨d, rfl, k⟩
def Aa7 {xs ys : List V} {G : V -> V -> Prop} (hl : ys.length = xs.length) (hG : ∀ (i : Nat) x v, xs[i]? = some x -> ys[i]? = some v -> G x v) : ∀ v ∈ ys, ∃ x ∈ xs, G x v := λ v hv => by
 obtain ⟨i, hi⟩ := Aob hv
 have h1 : i < xs.length := by rw [← hl]; exact (Ang.mp hi).1
 exact ⟨xs[i], Aoz h1, hG i _ v (An6 h1) hi⟩
def su : Sp := λ vs H Q _ => ∃ p b m : Int, vs = [.int p, .int b, .int m] /\ 0 <= m /\ m <= 10 /\ ∀ (t : Addr) (ds : List Int) H', Same H H' -> H' t = some (.tup (ds.map V.int)) -> ds.length = m.toNat -> (∀ d ∈ ds, Dy d) -> Q (.ref t) H'
def Qn (n : Nat) : Sp := λ vs H Q _ => ∃ p b dp : Int, vs = [.int p, .int b, .int dp] /\ 0 <= b /\ b < 146097 /\ 0 <= dp /\ dp < (n : Int) /\ ∀ (t : Addr) (r : Rt) H', Same H H' -> TrAt H' r t -> Okt r -> dep r <= dp.toNat -> Q (.ref t) H'
def Ol (n : Nat) : Sp := λ vs H Q _ => ∃ (t p : Addr) (d : Int) (r : Rt), vs = [.ref t, .int d, .ref p] /\ TrAt H r t /\ Okt r /\ dep r < n /\ 0 <= d /\ d < 146097 /\ H p = some (Afp d) /\ ∀ H', Same H H' -> Q (.bl (ft r d)) H'
def Aiz (h0 : 0 <= i) (h4 : i < 4) : ∃ w : Str, atI [V.str "either", V.str "both", V.str "but", V.str "either"] i = some (V.str w) /\ (w = "either" ∨ w = "both" ∨ w = "but") := by
 have h : i = 0 ∨ i = 1 ∨ i = 2 ∨ i = 3 := by omega
 rcases h with rfl | rfl | rfl | rfl
 · exact ⟨"either", rfl, .inl rfl⟩
 · exact ⟨"both", rfl, .inr (.inl rfl)⟩
 · exact ⟨"but", rfl, .inr (.inr rfl)⟩
 · exact ⟨"either", rfl, .inl rfl⟩
theorem Amo (xs : List V) : xx xs none (some 1) = xs.take 1 := by
 match xs with
 | [] => rfl
 | [x] => rfl
 |
  x :: y :: zs =>
  unfold xx
  rw [show HT.sIx (x :: y :: zs).length (x :: y :: zs).length (some 1) = 1 from by rw [show (1 : Int) = ((1 : Nat) : Int) from rfl, HT.uz]; rw [Aoi, Aoi]; omega, show HT.sIx (x :: y :: zs).length 0 none = 0 from rfl]
  rfl
abbrev W8 : List Str := ["never", "days", "where", "every", "weekly", "yearly", "monthly", "nth"]
theorem qr : ∀ {r : Rl}, TreeAt H t r -> ∃ w vs, H t = some (.tup (.str w :: vs)) /\ w ∈ W8
 | .nv, h => ⟨_, _, h, dkk⟩
 | .ev _ _, h => ⟨_, _, h, dkk⟩
 | .wk _ _ _, h => ⟨_, _, h, dkk⟩
 | .mo _ _ _, h => ⟨_, _, h, dkk⟩
 | .nt _ _ _ _, h => ⟨_, _, h, dkk⟩
 | .yr _ _ _ _, h => ⟨_, _, h, dkk⟩
 | .dy _, ⟨u, h, _⟩ => ⟨_, _, h, dkk⟩
 | .wh _ _, h => ⟨_, _, h, dkk⟩
def Aky : ∀ w ∈ W8, inV (.str w) [.str "either", .str "both", .str "but"] = false := by decide +kernel
def Ahd : ∀ w ∈ W8, decide (V.str w = V.str "within") = false := by decide +kernel
def Ah7 : ∀ w ∈ W8, decide (V.str w = V.str "shifted") = false := by decide +kernel
def Ai5 : ∀ w ∈ W8, decide (V.str w = V.str "changed") = false := by decide +kernel
def Ajo : ∀ w ∈ W8, decide (V.str w = V.str "either") = false := by decide +kernel
def Aj1 : ∀ w ∈ W8, decide (V.str w = V.str "both") = false := by decide +kernel
def Aj9 : ∀ w ∈ W8, decide (V.str w = V.str "but") = false := by decide +kernel
def Adq (x y z : V) : T2 (Ze [] [((Sum.inr "either" : Key), x), (Sum.inr "both", y), (Sum.inr "but", z)]) (Sum.inr "either") = some x := by
 show T2 (putK (putK (putK [] (Sum.inr "either" : Key) x) (Sum.inr "both") y) (Sum.inr "but") z) _ = _
 rw [Qc, if_neg dkk, Qc, if_neg dkk, Qc, if_pos rfl]
def Ac8 (x y z : V) : T2 (Ze [] [((Sum.inr "either" : Key), x), (Sum.inr "both", y), (Sum.inr "but", z)]) (Sum.inr "both") = some y := by
 show T2 (putK (putK (putK [] (Sum.inr "either" : Key) x) (Sum.inr "both") y) (Sum.inr "but") z) _ = _
 rw [Qc, if_neg dkk, Qc, if_pos rfl]
def Adn (x y z : V) : T2 (Ze [] [((Sum.inr "either" : Key), x), (Sum.inr "both", y), (Sum.inr "but", z)]) (Sum.inr "but") = some z := by
 show T2 (putK (putK (putK [] (Sum.inr "either" : Key) x) (Sum.inr "both") y) (Sum.inr "but") z) _ = _
 rw [Qc, if_pos rfl]
def dgk (e : H a = some (.dK kvs)) (h : T2 kvs k = some v) : DGet H a (kV k) (some v) := h ▸ DGet.k e
def Fg (h : H p = none) : Same H (upd (upd H p o) p o') := λ c u e => by
 rw [An (Aq e h), An (Aq e h)]
 exact e
def Ado (h1 : d ∉ ms) (h2 : ∀ y ∈ mv, ¬ (y.2 = d /\ y.1 ∉ ls /\ f y.1 = true)) : decide (d ∈ Qh f ls ms mv) = false := by
 refine Ane λ h => ?_
 rcases Aog.mp h with h | h
 · exact h1 h
 ·
  obtain ⟨y, hy, rfl⟩ := Anx.mp h
  obtain ⟨a1, a2⟩ := Aoj.mp hy
  rw [Ani, Ar3, decide_eq_false_iff_not] at a2
  exact h2 y a1 ⟨rfl, a2⟩
def Aav (hy : y ∈ mv) (h1 : y.1 ∉ ls) (h2 : f y.1 = true) : decide (y.2 ∈ Qh f ls ms mv) = true := by
 refine Am6 (Ant _ (Anx.mpr ⟨y, Aoj.mpr ⟨hy, ?_⟩, rfl⟩))
 rw [Ani, Ar3, decide_eq_false_iff_not]
 exact ⟨h1, h2⟩
def at0 (x : V) (xs : List V) : atI (x :: xs) 0 = some x := by show atI _ ((0 : Nat) : Int) = _; rw [Q1]; rfl
theorem RuleAt.upX (h : RuleAt A H x r) (hp : H pt = some (.tbl tb)) (s : F5 pt H H') : RuleAt A H' x r := by
 have ne : ∀ {b : Addr} {o : HO}, H b = some o -> (∀ ps, o ≠ .tbl ps) -> H' b = some o := λ e hn => s _ _ (λ z => by rw [z, hp] at e; cases e; exact hn _ rfl) e
 cases r with
 | dy ds => obtain ⟨dx, d, ms, e, f, g⟩ := h; exact ⟨dx, d, ms, ne e (λ _ z => nomatch z), ne f (λ _ z => nomatch z), g⟩
 | wh m r => obtain ⟨dx, f, t, e, ⟨cl, cd, L⟩, g⟩ := h; exact ⟨dx, f, t, ne e (λ _ z => nomatch z), ⟨cl, cd, L.up hp s⟩, ne g (λ _ z => nomatch z)⟩
 | nv => obtain ⟨dx, e⟩ := h; exact ⟨dx, ne e (λ _ z => nomatch z)⟩
 | ev _ _ => obtain ⟨dx, e⟩ := h; exact ⟨dx, ne e (λ _ z => nomatch z)⟩
 | wk _ _ _ => obtain ⟨dx, e⟩ := h; exact ⟨dx, ne e (λ _ z => nomatch z)⟩
 | mo _ _ _ => obtain ⟨dx, e⟩ := h; exact ⟨dx, ne e (λ _ z => nomatch z)⟩
 | nt _ _ _ _ => obtain ⟨dx, e⟩ := h; exact ⟨dx, ne e (λ _ z => nomatch z)⟩
 | yr _ _ _ _ => obtain ⟨dx, e⟩ := h; exact ⟨dx, ne e (λ _ z => nomatch z)⟩
set_option smartUnfolding true in
theorem RtAt.upX (hp : H pt = some (.tbl tb)) (s : F5 pt H H') : ∀ {t : Rt} {x : Addr}, RtAt A H t x -> RtAt A H' t x
 | .s r, x, h => RuleAt.upX h hp s
 | .ei a b, x, ⟨dx, y, z, h, h1, h2⟩ => ⟨dx, y, z, s _ _ (λ e => by rw [e, hp] at h; cases h) h, RtAt.upX hp s h1, RtAt.upX hp s h2⟩
 | .bo a b, x, ⟨dx, y, z, h, h1, h2⟩ => ⟨dx, y, z, s _ _ (λ e => by rw [e, hp] at h; cases h) h, RtAt.upX hp s h1, RtAt.upX hp s h2⟩
 | .bu a b, x, ⟨dx, y, z, h, h1, h2⟩ => ⟨dx, y, z, s _ _ (λ e => by rw [e, hp] at h; cases h) h, RtAt.upX hp s h1, RtAt.upX hp s h2⟩
 | .wi b e r, x, ⟨dx, y, h, h1⟩ => ⟨dx, y, s _ _ (λ e => by rw [e, hp] at h; cases h) h, RtAt.upX hp s h1⟩
 | .sh n r, x, ⟨dx, y, h, h1⟩ => ⟨dx, y, s _ _ (λ e => by rw [e, hp] at h; cases h) h, RtAt.upX hp s h1⟩
 | .ch r ls ms mv, x, ⟨dx, y, p, q, o, g, l, gs, kvs, h, h1, ⟨h2, h3⟩, h4, h5⟩ => ⟨dx, y, p, q, o, g, l, gs, kvs, s _ _ (λ e => by rw [e, hp] at h; cases h) h, RtAt.upX hp s h1, ⟨s _ _ (λ e => by rw [e, hp] at h2; cases h2) h2, h3⟩, s _ _ (λ e => by rw [e, hp] at h4; cases h4) h4, h5⟩
abbrev _root_.Ash := @RtAt.upX
def Q2 (A : JAd) (pt : Addr) (n : Nat) : Sp := λ vs H Q _ => ∃ (t : Addr) (b : Bool) (r : Rt), vs = [.ref t, .bl b] /\ TrAt H r t /\ Okt r /\ dep r < n /\ Agg H pt /\ ∀ x H', F5 pt H H' -> Agg H' pt -> RtAt A H' r x -> Q (.ref x) H'
def Ack (hp : H pt = some (.tbl tb)) (s : F5 pt H H') (e : H b = some (.tup xs)) : H' b = some (.tup xs) := s _ _ (λ z => by rw [z, hp] at e; cases e) e
def um (h : (xs.map V.int).isEmpty = true) : xs = [] := by cases xs with | nil => rfl | cons _ _ => cases h
def Ab1 (h : (refs rs).isEmpty = true) : sps rs = [] := by cases rs with | nil => rfl | cons _ _ => cases h
def dl (lo : Int) (m : Nat) : List Int := (List.range m).map λ (i : Nat) => lo + (i : Int)
def c8 (lo : Int) (m : Nat) : (dl lo m).length = m := by unfold dl; rw [Am9, An5]
def Aem (h : i < m) : (dl lo m)[i]? = some (lo + (i : Int)) := by unfold dl; rw [Anu, List.getElem?_range h]; rfl
def Ag5 (h : d ∈ dl lo m) : lo <= d /\ d < lo + (m : Int) := by
 obtain ⟨i, hi, rfl⟩ := Anx.mp h
 have := Ao9.mp hi
 omega
def blV (f : Int -> Bool) : V -> V
 | .int d => .bl (f d)
 | v => v
def shV (lo : Int) : V -> V
 | .int d => .int (lo + d)
 | v => v
def Ac3 (h : i < m) : atI ((dl lo m).map V.int) (i : Int) = some (.int (lo + (i : Int))) := Q1 (by rw [Anu, Aem h]; rfl)
def Aek {f : Int -> Bool} {lo : Int} {m i : Nat} (h : i < m) : atI ((dl lo m).map λ d => V.bl (f d)) (i : Int) = some (.bl (f (lo + (i : Int)))) := Q1 (by rw [Anu, Aem h]; rfl)
def Ai9 (f : Int -> Bool) (lo lw : Int) (n : Nat) : ((((List.range n).map λ (i : Nat) => V.int (lw + (i : Int))).filter (Afu λ j => f (lo + j))).map (shV lo)) = (days f (lo + lw) (lo + lw + (n : Int))).map V.int := by
 have e : (((List.range n).map λ (i : Nat) => V.int (lw + (i : Int))) : List V) = (((List.range n).map λ (i : Nat) => lw + (i : Int)).map V.int) := by rw [Ao2]; rfl
 rw [e, Ahg, Ao2]
 have e2 : days f (lo + lw) (lo + lw + (n : Int)) = ((List.range n).map λ (i : Nat) => lo + lw + (i : Int)).filter f := by
  unfold days
  rw [show DR.rng (lo + lw) (lo + lw + (n : Int)) = (List.range n).map λ (i : Nat) => lo + lw + (i : Int) from by unfold DR.rng; rw [show (lo + lw + (n : Int) - (lo + lw)).toNat = n by omega]]
 rw [e2]
 have e3 : ((List.range n).map λ (i : Nat) => lo + lw + (i : Int)) = ((List.range n).map λ (i : Nat) => lw + (i : Int)).map λ j => lo + j := by
  rw [Ao2]
  exact List.map_congr_left λ i _ => by show lo + lw + (i : Int) = lo + (lw + (i : Int)); omega
 rw [e3]
 generalize (List.range n).map (λ (i : Nat) => lw + (i : Int)) = L
 rw [List.filter_map, Ao2]
 rfl
theorem Ad8 (ds : List Int) : atI (ds.map V.int ++ [.non]) 0 = some (oV ds.head?) := by
 cases ds with
 | nil => exact at0 _ _
 | cons d ds => exact at0 _ _
theorem Adp : Nxt t b e (days (ft t) b e).head? := by
 cases h : days (ft t) b e with
 | nil => exact v8 h
 | cons d ds => exact r8 h
def Z5 (A : JAd) : Sp := λ vs H Q _ => ∃ (x D F : Addr) (bg lo : Int) (m : Nat) (r : Rt), vs = [.ref x, .int bg, .ref D, .ref F] /\ RtAt A H r x /\ dep r <= 4 /\ Okt r /\ H D = some (.lst ((dl lo m).map V.int)) /\ H F = some (.lst ((dl lo m).map λ d => V.bl (ft r d))) /\ m <= 100 /\ 0 <= lo /\ lo + (m : Int) <= 146097 /\ Q (.bl true) H
def fc (K : W.Frag) (A : JAd) : Sp := λ vs H Q _ => ∃ (sa x D F : Addr) (ns : List Int) (lo : Int) (m : Nat) (r : Rt), vs = [.ref sa, .ref x, .ref D, .ref F] /\ SqL K H sa (ns.map V.int) /\ RtAt A H r x /\ dep r <= 4 /\ Okt r /\ H D = some (.lst ((dl lo m).map V.int)) /\ H F = some (.lst ((dl lo m).map λ d => V.bl (ft r d))) /\ 1 <= m /\ m <= 60 /\ 0 <= lo /\ lo + (m : Int) <= 146097 /\ ∀ H', Same H H' -> Q (.bl true) H'
def tj (h1 : H p1 = none) (e1 : H1 = upd H p1 (.tup (ds.map V.int))) (h2 : H1 p2 = none) (e2 : H2 = upd H1 p2 (.tup [.str "days", .ref p1])) (h3 : H2 p3 = none) (e3 : H3 = upd H2 p3 (.tup (ls.map V.int)))
  (h4 : H3 p4 = none) (e4 : H4 = upd H3 p4 (.tup (ms.map V.int))) (h5 : H4 p5 = none) (e5 : H5 = upd H4 p5 (.tup [.int a, .int b])) (h6 : H5 p6 = none) (e6 : H6 = upd H5 p6 (.tup [.int c, .int d])) (h7 : H6 p7 = none) (e7 : H7 = upd H6 p7 (.tup [.ref p5, .ref p6])) (h8 : H7 t = none) (e8 : H8 = upd H7 t (.tup [.str "changed", .ref p2, .ref p3, .ref p4, .ref p7])) :
  Same H H8 /\ TrAt H8 (.ch (.s (.dy ds)) ls ms [(a, b), (c, d)]) t := by
 have s1 : Same H H1 := e1 ▸ Ai h1
 have s2 : Same H1 H2 := e2 ▸ Ai h2
 have s3 : Same H2 H3 := e3 ▸ Ai h3
 have s4 : Same H3 H4 := e4 ▸ Ai h4
 have s5 : Same H4 H5 := e5 ▸ Ai h5
 have s6 : Same H5 H6 := e6 ▸ Ai h6
 have s7 : Same H6 H7 := e7 ▸ Ai h7
 have s8 : Same H7 H8 := e8 ▸ Ai h8
 have g1 : H1 p1 = some (.tup (ds.map V.int)) := e1 ▸ Ae
 have g2 : H2 p2 = some (.tup [.str "days", .ref p1]) := e2 ▸ Ae
 have g3 : H3 p3 = some (.tup (ls.map V.int)) := e3 ▸ Ae
 have g4 : H4 p4 = some (.tup (ms.map V.int)) := e4 ▸ Ae
 have g5 : H5 p5 = some (.tup [.int a, .int b]) := e5 ▸ Ae
 have g6 : H6 p6 = some (.tup [.int c, .int d]) := e6 ▸ Ae
 have g7 : H7 p7 = some (.tup [.ref p5, .ref p6]) := e7 ▸ Ae
 have g8 : H8 t = some (.tup [.str "changed", .ref p2, .ref p3, .ref p4, .ref p7]) := e8 ▸ Ae
 have t38 := (((s4.trans s5).trans s6).trans s7).trans s8
 have t28 := s3.trans t38
 have t48 := ((s5.trans s6).trans s7).trans s8
 refine ⟨(s1.trans s2).trans t28, TrAt.ch.mpr ⟨p2, p3, p4, p7, g8, ⟨p1, t28 _ _ g2, t28 _ _ (s2 _ _ g1)⟩, t38 _ _ g3, t48 _ _ g4, [(p5, a, b), (p6, c, d)], s8 _ _ g7, λ x hx => ?_, rfl⟩⟩
 rcases Anf.mp hx with rfl | hx
 · exact ((s6.trans s7).trans s8) _ _ g5
 ·
  rw [An3.mp hx]
  exact (s7.trans s8) _ _ g6
def Aed {ds ls ms S : List Int} {mv : List (Int × Int)} (h1 : ∀ d ∈ ds, d ∈ S) (h2 : ∀ d ∈ ms, d ∈ S) (h3 : ∀ y ∈ mv, y.2 ∈ S) : ∀ d, ft (.ch (.s (.dy ds)) ls ms mv) d = true -> d ∈ S := λ d h => by
 have h : (decide (d ∈ Qh (ft (.s (.dy ds))) ls ms mv) || (!decide (d ∈ oy ls mv) && decide (d ∈ ds))) = true := h
 rw [Arl, Ani, Apr, Apr] at h
 rcases h with h | h
 ·
  rcases Aog.mp h with h | h
  · exact h2 d h
  ·
   obtain ⟨y, hy, rfl⟩ := Anx.mp h
   exact h3 y (Aoj.mp hy).1
 · exact h1 d h.2
def Aer (h1 : (o, e) ∈ mv) (h2 : o ∉ ls) (h3 : o ∈ ds) : ft (.ch (.s (.dy ds)) ls ms mv) e = true := by
 show (decide (e ∈ Qh (ft (.s (.dy ds))) ls ms mv) || _) = true
 rw [Aav (y := (o, e)) h1 h2 (show decide (o ∈ ds) = true from Am6 h3), Ark]
theorem Ae9 {f : Int -> Bool} {S : List Int} (hS : S.Pairwise (· < ·)) (hsub : ∀ d, f d = true -> d ∈ S) {d : Int} {ds : List Int} (h : S.filter f = d :: ds) : d ∈ S /\ f d = true /\ ∀ k, k < d -> f k = false := by
 have hd : d ∈ S.filter f := h ▸ Ano ..
 obtain ⟨a1, a2⟩ := Aoj.mp hd
 refine ⟨a1, a2, λ k hk => ?_⟩
 cases e : f k with
 | false => rfl
 |
  true =>
  have hk' : k ∈ S.filter f := Aoj.mpr ⟨hsub k e, e⟩
  have hp := hS.filter f
  rw [h] at hk' hp
  rcases Anf.mp hk' with rfl | hk'
  · omega
  ·
   have := (Aps.mp hp).1 k hk'
   omega
def Mg (r : Rt) (S : List Int) (en : Int) : Prop := (∃ ds ls ms mv, r = .ch (.s (.dy ds)) ls ms mv /\ ds.length <= 40) /\ Okt r /\ dep r <= 1 /\ (∀ d, ft r d = true -> d ∈ S) /\ ft r en = true
def Yu (pt : Addr) : Sp := λ vs H Q _ => ∃ c : Int, vs = [.int c] /\ 0 <= c /\ Agg H pt /\ ∀ H', Q (.bl true) H'
def Amq (a : 7 <= dd /\ dd < 907) (b : 950 <= ot /\ ot < 1850) (c : 1900 <= go /\ go < 2800) (e : 2900 <= en /\ en < 3800) : Mg (.ch (.s (.dy [dd, ot])) [dd] [] [(dd, go), (ot, en)]) [dd, ot, go, en] en := by
 refine ⟨⟨_, _, _, _, rfl, (by show 2 <= 40; decide)⟩, ⟨⟨(by show 2 <= 50; decide), ?_⟩, ⟨(by show 1 <= 10; decide), (by show 0 <= 10; decide), (by show 2 <= 10; decide)⟩, ?_, ?_, ?_⟩, Anh _, Aed ?_ ?_ ?_, Aer (Ann _ (Ano ..)) ?_ ?_⟩
 all_goals simp only [Anf, Ap1, Aqd, Ao4, false_imp_iff, implies_true, Asa, forall_eq, Dy, true_or, or_true, and_true, true_and]
 all_goals omega
def Al8 (a : 7 <= dd /\ dd < 907) (b : 950 <= ot /\ ot < 1850) (c : 1900 <= go /\ go < 2800) (e : 2900 <= en /\ en < 3800) : Mg (.ch (.s (.dy [dd, ot, en])) [dd, en] [go] [(dd, en), (ot, en)]) [dd, ot, go, en] en := by
 refine ⟨⟨_, _, _, _, rfl, (by show 3 <= 40; decide)⟩, ⟨⟨(by show 3 <= 50; decide), ?_⟩, ⟨(by show 2 <= 10; decide), (by show 1 <= 10; decide), (by show 2 <= 10; decide)⟩, ?_, ?_, ?_⟩, Anh _, Aed ?_ ?_ ?_, Aer (Ann _ (Ano ..)) ?_ ?_⟩
 all_goals simp only [Anf, Ap1, Aqd, Ao4, false_imp_iff, implies_true, Asa, forall_eq, Dy, true_or, or_true, and_true, true_and]
 all_goals omega
def Al9 (h : SqL K H c xs) (hp : H pt = some (.tbl tb)) (s : F5 pt H H') : SqL K H' c xs := by
 rcases h with (h | ⟨o, h⟩) | h
 · exact .inl (.inl (s _ _ (λ z => by rw [z, hp] at h; cases h) h))
 · exact .inl (.inr ⟨o, s _ _ (λ z => by rw [z, hp] at h; cases h) h⟩)
 · exact .inr h
def xu (K : W.Frag) (pt : Addr) : Sp := λ vs H Q _ => ∃ (a : Addr) (ns : List Int), vs = [.ref a] /\ SqL K H a (ns.map V.int) /\ ns.length <= 63 /\ H pt = some (.tbl #[]) /\ ∀ H', Q (.bl true) H'
def Ae0 (lo : Int) (n : Nat) : vg lo 1 n = (dl lo n).map V.int := by
 unfold vg dl
 rw [Ao2]
 exact List.map_congr_left λ i _ => by show V.int (lo + (i : Int) * 1) = V.int (lo + (i : Int)); rw [Int.mul_one]
def Ahv (f : Int -> Bool) (ds : List Int) : (ds.map V.int).map (blV f) = ds.map λ d => V.bl (f d) := by rw [Ao2]; rfl
end K14
abbrev K14.Fk (P w) (_ : K14.Vy K mg base a) := L2.FnOk P w K mg base L2.CX0 true
namespace K14
open PySem L2
open DF (Rl fl Ce K7 isD byM Ok Fi)
open DJ (Rt ft dep Okt Qh oy Dy)
open DR (days)
section
variable {P : Program} {w : World} {K : W.Frag} {mg : Str -> Option Value} {base : Heap} {a : Adr} (T : Vy K mg base a)
def M1 : Fk P w T 1 a.aw a.bj ["number"] (z5) := by
 refine T.Nz.gq ["number"] λ cdv A outer s H vs Q E hr h => ?_
 obtain ⟨d, rfl, k⟩ := h
 refine ⟨_, (Af (Aj (mj jn Ni Ab (qv 0) (B8 rfl T.N6)))), ?_⟩
 replace k : Q (.bl (decide (0 <= d /\ d < 146097))) H := k
 refine ⟨λ e => ?_, λ e => ?_⟩
 ·
  have e' : 0 <= d := Am8 e
  rw [show decide (0 <= d /\ d < 146097) = decide (d < 146097) from Aop.mpr ⟨λ z => z.2, λ z => ⟨e', z⟩⟩] at k
  exact k
 ·
  rw [Ane (λ z => e (Am6 z.1))] at k
  exact k
def ky : Fk P w T 1 a.Wa a.Ws ["year"] (ko) := by
 refine T.eh.gq ["year"] λ cdv A outer s H vs Q E hr h => ?_
 obtain ⟨y, rfl, k⟩ := h
 refine ⟨_, (Af (Aj (zt (A8 Be (Ag As (qv 0) Ab) Ab (Am _)) (Dk (Dx (A8 Be (Ag As (qv 0) Ab) Ab (Am _)) (Dk (A8 yg (Ag As (qv 0) Ab) Ab (Am _)))))))), ?_⟩
 refine ⟨λ h1 => ?_, λ h1 => ?_⟩
 ·
  rw [Sb] at h1
  have e : DM.leap y = true := by rw [DM.bt]; exact .inl (Am8 h1)
  rw [e] at k
  exact k
 ·
  rw [Sb] at h1
  refine ⟨λ h2 => ?_, λ h2 => ?_⟩
  ·
   rw [Sb] at h2
   conv => whnf
   have e : DM.leap y = !decide (V.int (y % 100) = V.int 0) := by
    unfold DM.leap
    rw [Sb, h2]
    simp at h1
    simp [h1]
   rw [e] at k
   exact k
  ·
   rw [Sb] at h2
   have e : DM.leap y = false := by
    unfold DM.leap
    simp at h1 h2
    simp [h1, h2]
   rw [e] at k
   exact k
def Q9 : Aw ["year", "past", "leaps"] ["year"] (Ah Ss) := qsc
def mh : Fk P w T 1 a.N7 a.Nv ["year"] (W5) := by
 refine T.Zb.go Q9 λ cdv A outer s H vs Q E hr h => ?_
 obtain ⟨y, rfl, k⟩ := h
 refine ⟨_, (Ac (Cr 1 Q9.nd (Ag A7 (qv 0) (B8 rfl T.Eo)))
  (Ac (Cr 2 Q9.nd (Ag Ap (Ag A7 (Ag Au (Ag Ap (qv 1) Ab) Ab) (Ag Au (Ag Ap (qv 1) Ab) Ab)) (Ag Au (Ag Ap (qv 1) Ab) Ab)))
  (Af (Aj (Ag Ap (Ag M4 (qv 1) Ab) (qv 2)))))), ?_⟩
 refine ⟨_, _, rfl, rfl, .inr ⟨dkd, dkd⟩, ?_⟩
 have e : DM.year y = (y - 2000) * 365 + ((y - 2000 + 3) / 4 - (y - 2000 + 99) / 100 + (y - 2000 + 399) / 400) := by unfold DM.year; lia
 rw [e] at k
 exact k
def P4 : Fk P w T 1 a.Xr a.Wk ["day"] (yi) := by
 refine T.Qb.gq ["day"] λ cdv A outer s H vs Q E hr h => ?_
 obtain ⟨d, rfl, k⟩ := h
 refine ⟨_, (Af (Aj (Ag As (Ag Ap (qv 0) (B8 rfl T.Fx)) Ab))), ?_⟩
 exact k
def Bt : Fk P w T 1 a.Kt a.Kz ["number", "least", "most"] (gg) := by
 refine T.Bp.gq ["number", "least", "most"] λ cdv A outer s H vs Q E hr h => ?_
 obtain ⟨n, l, m, rfl, h0, h1, k⟩ := h
 refine ⟨_, (Af (A4 (Asg (o8 (Al Ni (qv 0) (qv 1) (Am _)) (Zk (Al lr (qv 0) (qv 2) (Am _))))) (Af Jc) Ao)), ?_⟩
 refine ⟨λ z => absurd (Am8 z) dkl, λ _ => ?_⟩
 exact ⟨λ z => absurd (Am8 z) dkl, λ _ => k⟩
def Fj : Aw ["days", "number", "low", "high", "middle"] ["days", "number"] (Ah Qm) := qsc
def Kq : Fk P w T 1 a.L5 a.Mc ["days", "number"] (j8 K) := by
 refine T.Ir.go Fj λ cdv A outer s H vs Q E hr h => ?_
 obtain ⟨p, ns, x, rfl, hS, hr1, hz, k⟩ := h
 refine ⟨_, (Ac (Cr 2 Fj.nd Ab)
  (Ac (Cr 3 Fj.nd (qb (Ds (K := K) rfl) T.Zs (Aa (qv 0) Ad)))
  (Ac (Uq Aof (Al Ni (qv 2) (qv 3) (Am _)) (Ac (Cr 4 Fj.nd (Ag Au (Ag Ap (qv 2) (qv 3)) Ab))
  (Af (A4 (Al Ni (qix K (qv 0) (qv 4)) (qv 1) (Am _)) (Af (Cr 2 Fj.nd (Ag Ap (qv 4) Ab))) (Af (Cr 3 Fj.nd (qv 4)))))))
  (Af (Aj (qv 2)))))), ?_⟩
 refine ⟨p, _, rfl, .inr hS, ?_⟩
 conv => whnf
 rw [Am9]
 refine ⟨λ m σ H' => H' = H /\ ∃ (lo hi : Nat) (y : Option V), m = hi - lo /\ lo <= hi /\ hi <= ns.length /\ (∀ (i : Nat) a, i < lo -> ns[i]? = some a -> a < x) /\ (∀ (i : Nat) a, hi <= i -> ns[i]? = some a -> ¬ a < x) /\ σ = [some (.ref p), some (.int x), some (.int (lo : Int)), some (.int (hi : Int)), y], ⟨_, rfl, 0, ns.length, none, rfl, Aon _, Anh _, λ i _ h => absurd h (Apu _), λ i a h e => by obtain ⟨z, _⟩ := Ang.mp e; lia, rfl⟩, ?_⟩
 rintro m σ H1 ⟨rfl, lo, hi, y, rfl, h1, h2, h3, h4, rfl⟩
 refine ⟨λ e => ?_, λ e => ?_⟩
 ·
  have e' : lo < hi := by have := Am8 e; lia
  obtain ⟨a, ha⟩ := Abe (ns := ns) (i := (lo + hi) / 2) dkl
  refine ⟨λ σ' H' => H' = H1 /\ ∃ (lo' hi' : Nat) (y : Option V), hi' - lo' < hi - lo /\ lo' <= hi' /\ hi' <= ns.length /\ (∀ (i : Nat) a, i < lo' -> ns[i]? = some a -> a < x) /\ (∀ (i : Nat) a, hi' <= i -> ns[i]? = some a -> ¬ a < x) /\ σ' = [some (.ref p), some (.int x), some (.int (lo' : Int)), some (.int (hi' : Int)), y], ?_, ?_⟩
  ·
   rintro σ' H' ⟨rfl, lo', hi', y, l1, l2, l3, l4, l5, rfl⟩
   exact ⟨hi' - lo', l1, rfl, lo', hi', y, rfl, l2, l3, l4, l5, rfl⟩
  have A1 : atI (ns.map V.int) (((lo : Int) + (hi : Int)) / 2) = some (.int a) := by rw [half]; exact Q1 (Aa9 ha)
  have E1 : ((lo : Int) + (hi : Int)) / 2 = (((lo + hi) / 2 : Nat) : Int) := half
  have E2 : ((lo : Int) + (hi : Int)) / 2 + 1 = (((lo + hi) / 2 + 1 : Nat) : Int) := by lia
  refine ⟨hS, A1, ?_⟩
  refine ⟨λ z => ?_, λ z => ?_⟩
  ·
   have z' := Am8 z
   refine ⟨rfl, (lo + hi) / 2 + 1, hi, some (.int (((lo : Int) + (hi : Int)) / 2)), dkl, dkl, h2, λ i b hi' hb => ?_, h4, Apw (λ (z : Int) => ([some (.ref p), some (.int x), some (.int z), some (.int (hi : Int)), some (.int (((lo : Int) + (hi : Int)) / 2))] : St)) E2⟩
   have := DC.ue hr1 hb ha dkl
   lia
  ·
   have z' : ¬ a < x := λ w => z (Am6 w)
   refine ⟨rfl, lo, (lo + hi) / 2, some (.int (((lo : Int) + (hi : Int)) / 2)), dkl, dkl, dkl, h3, λ i b hi' hb => ?_, Apw (λ (z : Int) => ([some (.ref p), some (.int x), some (.int (lo : Int)), some (.int z), some (.int (((lo : Int) + (hi : Int)) / 2))] : St)) E1⟩
   have := DC.ue hr1 ha hb hi'
   lia
 ·
  have e' : lo = hi := by
   have : ¬ (lo : Int) < (hi : Int) := λ w => e (Am6 w)
   lia
  subst e'
  rw [DC.below_at h2 h3 h4] at k
  exact k
def ar : Fk P w T 1 a.Jj a.Ig ["self", "day"] (Z7) := by
 refine T.gb.gq ["self", "day"] λ cdv A outer s H vs Q E hr h => ?_
 obtain ⟨x, d, rfl, k⟩ := h
 refine ⟨_, (Af (Aj Sv)), ?_⟩
 exact k
def Sg : Fk P w T 1 a.Ko a.Kk ["self", "day", "end"] (gm) := by
 refine T.jq.gq ["self", "day", "end"] λ cdv A outer s H vs Q E hr h => ?_
 obtain ⟨x, b, e, rfl, k⟩ := h
 refine ⟨_, (Af (Aj Gq)), ?_⟩
 exact k
def Ln : Aw ["self", "day", "end", "begin", "found"] ["self", "day", "end"] (Ah Bx) := qsc
def Li : Fk P w T 1 a.Iw a.Ji ["self", "day", "end"] (Rk (ad a)) := by
 refine T.fw.go Ln λ cdv A outer s H vs Q E hr h => ?_
 obtain ⟨x, b, e, st, fi, rfl, ⟨dx, hx⟩, ok, k1, k2⟩ := h
 refine ⟨_, (Ac (Cr 3 Ln.nd (qb (O4 rfl) T.V3 (Aa (qv 1) (Aa (qf K (qv 0)) Ad))))
  (Ac (Cr 4 Ln.nd (Ag Ap (qv 3) (Ag Og (Ag A7 (qf K (qv 0)) (qv 3)) (qf K (qv 0)))))
  (Af (Aj (Ey (Al Ni (qv 4) (qb (J1 rfl) T.Su (Aa (qv 2) (Aa (B8 rfl T.N6) Ad))) (Am _)) (qv 4) Gq))))), ?_⟩
 have ok1 := ok
 obtain ⟨s1, s2, f0, f1⟩ := ok
 obtain ⟨n1, n2⟩ := DN.Aal (b := b) (e := e) ok1 rfl
 refine ⟨hx, T.Fn, T.Hz, rfl, ?_⟩
 refine ⟨hx, T.Fn, T.Hz, rfl, hx, T.Fn, T.Ob, rfl, _, _, rfl, rfl, (by show (0 : Int) < st; lia), ?_⟩
 refine ⟨λ z => ?_, λ z => ?_⟩
 ·
  obtain ⟨a1, a2, a3, a4⟩ := n1 (Am8 z)
  exact k1 _ a1 a2 a3 a4
 · exact k2 (n2 λ w => z (Am6 w))
def Jw : Fk P w T 1 a.Fe a.Gy ["self", "origin", "stride", "first"] (gc K) := by
 refine T.Z6.gq ["self", "origin", "stride", "first"] λ cdv A outer s H vs Q E hr h => ?_
 obtain ⟨x, c, dx, o, st, f, rfl, ⟨c1, c2, c3, c4⟩, hx, k⟩ := h
 refine ⟨_, (Ac (Ci (K := K) rfl (qv 0) (qv 1))
  (Ac (Ci (K := K) rfl (qv 0) (qv 2))
  (Af (Ci (K := K) rfl (qv 0) (qv 3))))), ?_⟩
 refine ⟨hx, c1, c2, ?_⟩
 refine ⟨Ae, c1, c3, ?_⟩
 refine ⟨Ae, c1, c4, ?_⟩
 exact k _ (λ c u hc e => by rw [An hc, An hc, An hc]; exact e) Ae
def dc : Fk P w T 1 a.Kh a.Kj ["self", "test"] (W0 a.B3) := by
 refine T.ji.gq ["self", "test"] λ cdv A outer s H vs Q E hr h => ?_
 obtain ⟨x, dx, f, rfl, hx, k⟩ := h
 refine ⟨_, (Af (Ci (K := K) rfl (qv 0) (qv 1))), ?_⟩
 refine ⟨hx, T.Q3, T.Y5, ?_⟩
 exact k _ (λ c u hc e => by rw [An hc]; exact e) Ae
theorem se : Fk P w T 1 a.bq a.a9 ["one", "other"] (Acj) := by
 refine T.oo.gq ["one", "other"] λ cdv A outer s H vs Q E hr h => ?_
 obtain ⟨p, q, xs, ys, rfl, hp, hq, lx, ly, px, py, few, k⟩ := h
 refine ⟨_, (Af (Aj (Ey (Asg (M9 (bh (qv 0) (λ _ => rfl)) (Hx (bh (qv 1) (λ _ => rfl))))) (qb (Qz rfl) T.Qj (Aa (qty (p0 rfl) T.vc (Aa (Ag r9 (qv 0) (qv 1)) Ad)) Ad)) (Ag r9 (qv 0) (qv 1))))), ?_⟩
 conv => whnf
 have hcat : (xs.map V.int).length + (ys.map V.int).length <= sizeLine := by
  rw [Am9, Am9]
  exact Anb (by lia : _ <= 4000) dkd
 refine ⟨!xs.isEmpty, .inl ⟨_, Asf hp, by rw [Aif]⟩, ?_⟩
 cases xs with
 |
  nil =>
  refine Ct (Ct ⟨p, q, _, _, rfl, rfl, hp, hq, hcat, λ l hl => ?_⟩)
  refine k l _ ys (Ai hl) (by rw [Ae]; rfl) py λ z => ?_
  exact ⟨λ h => .inr h, λ h => h.elim (λ w => nomatch w) id⟩
 | cons x0 xs0 =>
 refine F4 ⟨!ys.isEmpty, .inl ⟨_, Asf hq, by rw [Aif]⟩, ?_⟩
 cases ys with
 |
  nil =>
  refine Ct ⟨p, q, _, _, rfl, rfl, hp, hq, hcat, λ l hl => ?_⟩
  refine k l _ (x0 :: xs0) (Ai hl) (by rw [Ae, Aqv, Aoc]) px λ z => ?_
  exact ⟨λ h => .inl h, λ h => h.elim id (λ w => nomatch w)⟩
 | cons y0 ys0 =>
 refine F4 ⟨p, q, _, _, rfl, rfl, hp, hq, hcat, λ l hl => ?_⟩
 have hl1 : (upd H l (.lst ((x0 :: xs0).map V.int ++ (y0 :: ys0).map V.int))) l = some (.lst ((x0 :: xs0 ++ y0 :: ys0).map V.int)) := by rw [Ae, Apg]
 refine ⟨l, _, rfl, hl1, ?_, λ D qs hD hmem hnd => ?_⟩
 ·
  rw [Anj]
  lia
 refine ⟨D, qs, rfl, Ae, few qs hnd (λ z hz => Aog.mp ((hmem z).mp hz)), λ D2 ms hD2 hpm hlt => ?_⟩
 refine k D2 _ ms (((Ai hl).trans (Ai hD)).trans (Ai hD2)) Ae hlt λ z => ?_
 conv => whnf
 rw [hpm.mem_iff, hmem, Aog]
theorem Ye : Fk P w T 2 a.Ha a.Hd ["self", "day"] (X3 (ad a)) := by
 refine T.Zu.gq ["self", "day"] λ cdv A outer s H vs Q E hr h => ?_
 obtain ⟨x, d, st, fi, rfl, ⟨dx, hx⟩, ⟨s1, s2, f0, f1⟩, k⟩ := h
 refine ⟨_, (Af (Aj (Dx (qc (M1 T) hr T.Ri T.Nz T.Qk (Aa (qv 1) Ad)) (Dx (A8 Aaf (qv 1) (qf K (qv 0)) (Am _)) (Dk (A8 Be (Ag Og (Ag A7 (qv 1) (qf K (qv 0))) (qf K (qv 0))) Ab (Am _))))))), ?_⟩
 have k2 : Q (.bl (isD d && (decide (fi <= d) && decide ((d - fi) % st = 0)))) H := k
 refine ⟨d, rfl, ?_⟩
 conv => whnf
 cases e1 : isD d with
 | false => rw [e1] at k2; exact Ct k2
 | true =>
 rw [e1, An1] at k2
 refine F4 ⟨hx, T.Fn, T.Hz, rfl, ?_⟩
 conv => whnf
 cases e2 : decide (fi <= d) with
 | false => rw [e2] at k2; exact Ct k2
 | true =>
 rw [e2, An1] at k2
 refine F4 ⟨hx, T.Fn, T.Hz, rfl, hx, T.Fn, T.Ob, rfl, _, _, rfl, rfl, (by show (0 : Int) < st; lia), ?_⟩
 conv => whnf
 rw [Sb]
 exact k2
def K6 : Fk P w T 2 a.D4 a.D7 ["self", "day"] (Fw (ad a)) := by
 refine T.Uw.gq ["self", "day"] λ cdv A outer s H vs Q E hr h => ?_
 obtain ⟨x, d, mk, fi, e, rfl, ⟨dx, hx⟩, k⟩ := h
 refine ⟨_, (Af (Aj (A8 Be (Ag As (Ag Ahj (qf K (qv 0)) (qc (P4 T) hr T.Tp T.Qb T.Sk (Aa (qv 1) Ad))) Ab) Ab (Am _)))), ?_⟩
 refine ⟨hx, T.Cg, T.W3, rfl, d, rfl, _, _, rfl, rfl, Anz _ dkd, ?_⟩
 conv => whnf
 rw [Sb]
 exact k
def Yi : Fk P w T 2 a.Xo a.Wo ["day"] (yb) := by
 refine T.V8.gq ["day"] λ cdv A outer s H vs Q E hr h => ?_
 obtain ⟨d, rfl, k⟩ := h
 refine ⟨_, (Af (Aj (Ag Au (Ag Ap (qv 0) (qc (P4 T) hr T.Tp T.Qb T.Sk (Aa Ab Ad))) Ab))), ?_⟩
 exact ⟨0, rfl, k⟩
def L4 : Fk P w T 3 a.Ez a.E6 ["self", "day"] (Gi (ad a)) := by
 refine T.Vh.gq ["self", "day"] λ cdv A outer s H vs Q E hr h => ?_
 obtain ⟨x, d, mk, fi, e, rfl, ⟨dx, hx⟩, e0, k⟩ := h
 refine ⟨_, (Af (Aj (Ag Og (Ag A7 (qc (Yi T) hr T.g9 T.V8 T.ek (Aa (qv 1) Ad)) (qc (Yi T) hr T.g9 T.V8 T.ek (Aa (qf K (qv 0)) Ad))) (qf K (qv 0))))), ?_⟩
 exact ⟨d, rfl, hx, T.Cg, T.Ks, rfl, fi, rfl, hx, T.Cg, T.O0, rfl, _, _, rfl, rfl, (by show (0 : Int) < e; lia), k⟩
theorem W7 : Fk P w T 4 a.Gf a.Ga ["self", "day"] (V2 (ad a)) := by
 refine T.Yw.gq ["self", "day"] λ cdv A outer s H vs Q E hr h => ?_
 obtain ⟨x, d, mk, fi, e, rfl, hr0, ⟨m0, m1, f0, f1, e0, e9⟩, k⟩ := h
 refine ⟨_, (Ac (A4 (Asg (o8 (Uz (Dz (qc (M1 T) hr T.Ri T.Nz T.Qk (Aa (qv 1) Ad)))) (Zk (Al Ni (qv 1) (qf K (qv 0)) (Am _))))) (Af (Aj Sv)) Ao)
  (Af (Aj (Dx (A8 Be (Ax (n := 1) (D := λ C R => (C = a.A3 /\ R = λ x vs H Q => (Gi (ad a)) (x :: (vs ++ ([] : List V))) H Q E0)) (qv 0) (by rintro C R ⟨rfl, rfl⟩ <;> first | exact (qan T.Cg T.Lw ((L4 T).mono dkd) hr T.Mu)) (Aa (qv 1) Ad)) Ab (Am _)) (Dk (Ax (n := 1) (D := λ C R => (C = a.A3 /\ R = λ x vs H Q => (Fw (ad a)) (x :: (vs ++ ([] : List V))) H Q E0)) (qv 0) (by rintro C R ⟨rfl, rfl⟩ <;> first | exact (qan T.Cg T.K9 ((K6 T).mono dkd) hr T.Lx)) (Aa (qv 1) Ad))))))), ?_⟩
 obtain ⟨dx, hx⟩ := id hr0
 have kT : isD d = true /\ fi <= d -> Q (.bl (decide (((d + 5) / 7 - (fi + 5) / 7) % e = 0) && decide (mk / 2 ^ ((d + 5) % 7).toNat % 2 = 1))) H := λ w => by have k2 : Q (.bl (if isD d = true /\ fi <= d then _ else false)) H := k; rw [if_pos w] at k2; exact k2
 have kF : ¬ (isD d = true /\ fi <= d) -> Q (.bl false) H := λ w => by have k2 : Q (.bl (if isD d = true /\ fi <= d then _ else false)) H := k; rw [if_neg w] at k2; exact k2
 clear k
 refine ⟨d, rfl, ?_⟩
 conv => whnf
 cases e1 : isD d with
 | false => exact ⟨λ _ => F4 (kF (λ w => by rw [e1] at w; cases w.1)), λ z => absurd rfl z⟩
 | true =>
 refine Ct ⟨hx, T.Cg, T.Ks, rfl, ⟨λ z => kF (λ w => by have := w.2; have := Am8 z; lia), λ z => ?_⟩⟩
 have hf : fi <= d := Api.mp λ w => z (Am6 w)
 have kk := kT ⟨e1, hf⟩
 clear kT kF z
 refine ⟨hx, rfl, ⟨rfl, rfl⟩, x, d, mk, fi, e, rfl, hr0, e0, ?_⟩
 conv => whnf
 rw [Sb]
 cases e2 : decide (((d + 5) / 7 - (fi + 5) / 7) % e = 0) with
 | false => rw [e2] at kk; exact Ct kk
 | true =>
 rw [e2, An1] at kk
 exact F4 ⟨hx, rfl, ⟨rfl, rfl⟩, x, d, mk, fi, e, rfl, hr0, kk⟩
def Kv : Aw ["number", "year", "month", "begin"] ["number"] (Ah Qd) := qsc
def C0 : Fk P w T 2 a.Mh a.Md ["number"] (kf) := by
 refine T.Cv.go Kv λ cdv A outer s H vs Q E hr h => ?_
 obtain ⟨n, rfl, k⟩ := h
 refine ⟨_, (Ac (Cr 1 Kv.nd (Ag Ap (B8 rfl T.Eo) (Ag Au (qv 0) Ab)))
  (Ac (Cr 2 Kv.nd (Ag Ap (Ag As (qv 0) Ab) Ab))
  (Ac (Cr 3 Kv.nd (Ag Ap (qc (mh T) hr T.pz T.Zb T.tp (Aa (qv 1) Ad)) (qix K (xw rfl T.Lg) (Ag A7 (qv 2) Ab))))
  (Ac (A4 (Asg (M9 (Al lr (qv 2) Ab (Am _)) (Hx (Dz (qc (ky T) hr T.sd T.eh T.ph (Aa (qv 1) Ad)))))) (Af (Aj (Ag Ap (qv 3) Ab))) Ao)
  (Af (Aj (qv 3))))))), ?_⟩
 refine ⟨_, rfl, T.pq _, Aki n, ?_⟩
 refine ⟨λ e1 => ?_, λ e1 => ?_⟩
 ·
  have e1' := Am8 e1
  refine ⟨_, rfl, ?_⟩
  refine ⟨λ e2 => ?_, λ e2 => ?_⟩
  ·
   have e : DM.mb n = DM.year (2000 + n / 12) + DM.ahead (n % 12 + 1) + 1 := by unfold DM.mb; rw [if_pos ⟨e1', e2⟩]
   rw [e] at k
   exact k
  ·
   have e : DM.mb n = DM.year (2000 + n / 12) + DM.ahead (n % 12 + 1) := by unfold DM.mb; rw [if_neg (λ z => e2 z.2), Int.add_zero]
   rw [e] at k
   exact k
 ·
  have e : DM.mb n = DM.year (2000 + n / 12) + DM.ahead (n % 12 + 1) := by unfold DM.mb; rw [if_neg (λ z => e1 (Am6 z.1)), Int.add_zero]
  rw [e] at k
  refine Ct ?_
  exact k
def Ky : Aw ["number", "date", "begin", "end", "found"] ["number", "date"] (Ah Q0) := qsc
def U2 : Fk P w T 3 a.Mm a.Mj ["number", "date"] (kg) := by
 refine T.Qq.go Ky λ cdv A outer s H vs Q E hr h => ?_
 obtain ⟨n, dt, rfl, k⟩ := h
 refine ⟨_, (Ac (Cr 2 Ky.nd (qc (C0 T) hr T.Dm T.Cv T.Dp (Aa (qv 0) Ad)))
  (Ac (Cr 3 Ky.nd (qc (C0 T) hr T.Dm T.Cv T.Dp (Aa (Ag Ap (qv 0) Ab) Ad)))
  (Ac (Cr 4 Ky.nd (Ey (Al lr (qv 1) Ab (Am _)) (Ag A7 (Ag Ap (qv 2) (qv 1)) Ab) (Ag Ap (qv 3) (qv 1))))
  (Af (Aj (Ey (bw jn Ni (qv 2) (qv 4) (qv 3)) (qv 4) Gq)))))), ?_⟩
 unfold Ce DF.inw at k
 refine ⟨n, rfl, _, rfl, ⟨λ z => ?_, λ z => ?_⟩⟩
 ·
  rw [if_pos (show dt > 0 from Am8 z)] at k
  refine ⟨λ z => ?_, λ z => ?_⟩
  ·
   have z1 := Am8 z
   refine ⟨λ y => ?_, λ y => ?_⟩
   ·
    rw [if_pos ⟨z1, Am8 y⟩] at k
    exact k
   ·
    rw [if_neg (λ w => y (Am6 w.2))] at k
    exact k
  ·
   rw [if_neg (λ w => z (Am6 w.1))] at k
   exact Ct k
 ·
  rw [if_neg (λ w : dt > 0 => z (Am6 w))] at k
  refine ⟨λ z => ?_, λ z => ?_⟩
  ·
   have z1 := Am8 z
   refine ⟨λ y => ?_, λ y => ?_⟩
   ·
    rw [if_pos ⟨z1, Am8 y⟩] at k
    exact k
   ·
    rw [if_neg (λ w => y (Am6 w.2))] at k
    exact k
  ·
   rw [if_neg (λ w => z (Am6 w.1))] at k
   exact Ct k
def P9 : Fk P w T 4 a.Hg a.G3 ["self", "number"] (J7 (ad a)) := by
 refine T.ae.gq ["self", "number"] λ cdv A outer s H vs Q E hr h => ?_
 obtain ⟨x, n, dt, fi, e, rfl, ⟨dx, hx⟩, k⟩ := h
 refine ⟨_, (Af (Aj (qc (U2 T) hr T.Wg T.Qq T.Wl (Aa (qv 1) (Aa (qf K (qv 0)) Ad))))), ?_⟩
 exact ⟨hx, T.Cn, T.U9, rfl, n, dt, rfl, k⟩
def Jr : Aw ["number", "which", "weekday_of", "begin", "end", "found"] ["number", "which", "weekday_of"] (Ah Tf) := qsc
def l9 : Fk P w T 3 a.N4 a.N2 ["number", "which", "weekday_of"] (oa) := by
 refine T.Y2.go Jr λ cdv A outer s H vs Q E hr h => ?_
 obtain ⟨n, w, wd, rfl, k⟩ := h
 refine ⟨_, (Ac (Cr 3 Jr.nd (qc (C0 T) hr T.Dm T.Cv T.Dp (Aa (qv 0) Ad)))
  (Ac (Cr 4 Jr.nd (qc (C0 T) hr T.Dm T.Cv T.Dp (Aa (Ag Ap (qv 0) Ab) Ad)))
  (Ac (A4 (Al lr (qv 1) Ab (Am _)) (Af (Cr 5 Jr.nd (Ag Ap (Ag Ap (qv 3) (Ag As (Ag A7 (qv 2) (qc (P4 T) hr T.Tp T.Qb T.Sk (Aa (qv 3) Ad))) Ab)) (Ag M4 (Ag A7 (qv 1) Ab) Ab)))) (Af (Cr 5 Jr.nd (Ag Ap (Ag A7 (Ag A7 (qv 4) Ab) (Ag As (Ag A7 (qc (P4 T) hr T.Tp T.Qb T.Sk (Aa (Ag A7 (qv 4) Ab) Ad)) (qv 2)) Ab)) (Ag M4 (Ag Ap (qv 1) Ab) Ab)))))
  (Af (Aj (Ey (bw jn Ni (qv 3) (qv 5) (qv 4)) (qv 5) Gq)))))), ?_⟩
 unfold K7 DF.inw at k
 refine ⟨n, rfl, _, rfl, ⟨λ z => ?_, λ z => ?_⟩⟩
 ·
  rw [if_pos (show w > 0 from Am8 z)] at k
  refine ⟨_, rfl, _, _, rfl, rfl, .inr ⟨dkd, dkd⟩, ?_⟩
  refine ⟨λ z => ?_, λ z => ?_⟩
  ·
   have z1 := Am8 z
   refine ⟨λ y => ?_, λ y => ?_⟩
   ·
    rw [if_pos ⟨z1, Am8 y⟩] at k
    exact k
   ·
    rw [if_neg (λ w => y (Am6 w.2))] at k
    exact k
  ·
   rw [if_neg (λ w => z (Am6 w.1))] at k
   exact Ct k
 ·
  rw [if_neg (λ y : w > 0 => z (Am6 y))] at k
  refine ⟨_, rfl, _, _, rfl, rfl, .inr ⟨dkd, dkd⟩, ?_⟩
  refine ⟨λ z => ?_, λ z => ?_⟩
  ·
   have z1 := Am8 z
   refine ⟨λ y => ?_, λ y => ?_⟩
   ·
    rw [if_pos ⟨z1, Am8 y⟩] at k
    exact k
   ·
    rw [if_neg (λ w => y (Am6 w.2))] at k
    exact k
  ·
   rw [if_neg (λ w => z (Am6 w.1))] at k
   exact Ct k
def Wq : Fk P w T 4 a.Oq a.Oe ["self", "number"] (Q5 (ad a)) := by
 refine T.o9.gq ["self", "number"] λ cdv A outer s H vs Q E hr h => ?_
 obtain ⟨x, n, w, wd, fi, e, rfl, ⟨dx, hx⟩, k⟩ := h
 refine ⟨_, (Af (Aj (qc (l9 T) hr T.qq T.Y2 T.sk (Aa (qv 1) (Aa (qf K (qv 0)) (Aa (qf K (qv 0)) Ad)))))), ?_⟩
 exact ⟨hx, T.Lz, T.gx, rfl, hx, T.Lz, T.R4, rfl, n, w, wd, rfl, k⟩
def Rr : Fk P w T 4 a.Ii a.Jo ["self", "number"] (Lh (ad a)) := by
 refine T.fg.gq ["self", "number"] λ cdv A outer s H vs Q E hr h => ?_
 obtain ⟨x, n, mn, dt, fi, e, rfl, ⟨dx, hx⟩, k⟩ := h
 refine ⟨_, (Af (Aj (qc (U2 T) hr T.Wg T.Qq T.Wl (Aa (qv 1) (Aa (qf K (qv 0)) Ad))))), ?_⟩
 exact ⟨hx, T.C9, T.Vz, rfl, n, dt, rfl, k⟩
def ie : Aw ["day", "guess"] ["day"] (Ah Ya) := qsc
def Ng : Fk P w T 3 a.T5 a.Up ["day"] (vk) := by
 refine T.Mp.go ie λ cdv A outer s H vs Q E hr h => ?_
 obtain ⟨d, rfl, k⟩ := h
 refine ⟨_, (Ac (Cr 1 ie.nd (Ag uh (Ag M4 (qv 0) (B8 rfl T.V5)) (B8 rfl T.N6)))
  (Ac (A4 (Al lr (qc (C0 T) hr T.Dm T.Cv T.Dp (Aa (qv 1) Ad)) (qv 0) (Am _)) (Af (Aj (Ag A7 (qv 1) Ab))) Ao)
  (Ac (A4 (Al jn (qc (C0 T) hr T.Dm T.Cv T.Dp (Aa (Ag Ap (qv 1) Ab) Ad)) (qv 0) (Am _)) (Af (Aj (Ag Ap (qv 1) Ab))) Ao)
  (Af (Aj (qv 1)))))), ?_⟩
 refine ⟨_, _, rfl, rfl, .inr ⟨dkd, dkd⟩, _, _, rfl, rfl, ⟨dkd, dkd⟩, ?_⟩
 refine ⟨_, rfl, ?_⟩
 refine ⟨λ e1 => ?_, λ e1 => ?_⟩
 ·
  have e : DM.mo d = d * 4800 / 146097 - 1 := by unfold DM.mo; rw [if_pos (Am8 e1)]
  rw [e] at k
  exact k
 ·
  refine ⟨_, rfl, ?_⟩
  refine ⟨λ e2 => ?_, λ e2 => ?_⟩
  ·
   have e : DM.mo d = d * 4800 / 146097 + 1 := by unfold DM.mo; rw [if_neg (λ z => e1 (Am6 z)), if_pos (Am8 e2)]
   rw [e] at k
   exact k
  ·
   have e : DM.mo d = d * 4800 / 146097 := by unfold DM.mo; rw [if_neg (λ z => e1 (Am6 z)), if_neg (λ z => e2 (Am6 z))]
   rw [e] at k
   exact k
def Mv : Aw ["self", "day", "number"] ["self", "day"] (Ah Iv) := qsc
theorem Ho : Fk P w T 5 a.Co a.Fp ["self", "day"] (Vx (ad a)) := by
 refine T.Xp.go Mv λ cdv A outer s H vs Q E hr h => ?_
 obtain ⟨x, d, r0, rfl, hm, hr0, ok, k⟩ := h
 refine ⟨_, (Ac (A4 (Asg (o8 (Uz (Dz (qc (M1 T) hr T.Ri T.Nz T.Qk (Aa (qv 1) Ad)))) (Zk (Al Ni (qv 1) (qf K (qv 0)) (Am _))))) (Af (Aj Sv)) Ao)
  (Ac (Cr 2 Mv.nd (qc (Ng T) hr T.Pe T.Mp T.Pw (Aa (qv 1) Ad)))
  (Af (Aj (Dx (A8 Agk (Ag Og (Ag A7 (qv 2) (qf K (qv 0))) (qf K (qv 0))) Ab (Am _)) (Dk (A8 Agk (Ax (n := 1) (D := λ C R => (C = a.Av /\ R = λ x vs H Q => (J7 (ad a)) (x :: (vs ++ ([] : List V))) H Q E0) ∨ (C = a.Fm /\ R = λ x vs H Q => (Q5 (ad a)) (x :: (vs ++ ([] : List V))) H Q E0) ∨ (C = a.Az /\ R = λ x vs H Q => (Lh (ad a)) (x :: (vs ++ ([] : List V))) H Q E0)) (qv 0) (by rintro C R (⟨rfl, rfl⟩ | ⟨rfl, rfl⟩ | ⟨rfl, rfl⟩) <;> first | exact (qan T.Cn T.Pd ((P9 T).mono dkd) hr T.Rw) | exact (qan T.Lz T.W4 ((Wq T).mono dkd) hr T.Zf) | exact (qan T.C9 T.R6 ((Rr T).mono dkd) hr T.Tx)) (Aa (qv 2) Ad)) (qv 1) (Am _)))))))), ?_⟩
 cases r0 with
 |
  mo dt fi e =>
  obtain ⟨d0, d1, d2, f0, f1, e0, e9⟩ := ok
  obtain ⟨dx, hx⟩ := id hr0
  have kT : isD d = true /\ fi <= d -> Q (.bl (decide ((DM.mo d - (DM.mo fi)) % e = 0) && decide (Ce (DM.mo d) dt = some d))) H   := λ hw => by have k2 : Q (.bl (byM (DM.mo fi) e fi (λ n => Ce n dt) d)) H := k; unfold byM at k2; rw [if_pos hw] at k2; exact k2
  have kF : ¬ (isD d = true /\ fi <= d) -> Q (.bl false) H   := λ hw => by have k2 : Q (.bl (byM (DM.mo fi) e fi (λ n => Ce n dt) d)) H := k; unfold byM at k2; rw [if_neg hw] at k2; exact k2
  clear k
  refine ⟨d, rfl, ?_⟩
  conv => whnf
  cases e1 : isD d with
  | false => exact ⟨λ _ => F4 (kF (λ w => by rw [e1] at w; cases w.1)), λ z => absurd rfl z⟩
  | true =>
  refine Ct ⟨hx, T.Cn, T.M6, rfl, ⟨λ z => kF (λ w => by have := w.2; have := Am8 z; lia), λ z => ?_⟩⟩
  have hf : fi <= d := Api.mp λ w => z (Am6 w)
  have kk := kT ⟨e1, hf⟩
  clear kT kF z
  refine ⟨d, rfl, hx, T.Cn, T.Lu, rfl, hx, T.Cn, T.Ll, rfl, _, _, rfl, rfl, (by show (0 : Int) < e; lia), rfl, ?_⟩
  conv => whnf
  rw [Sb]
  cases e2 : decide ((DM.mo d - (DM.mo fi)) % e = 0) with
  | false => rw [e2] at kk; exact Ct kk
  | true =>
  rw [e2, An1] at kk
  refine F4 ⟨hx, rfl, .inl ⟨rfl, rfl⟩, x, _, dt, fi, e, rfl, hr0, vb _ _, ?_⟩
  conv => whnf
  rw [Agi]
  exact kk
 |
  nt w wd fi e =>
  obtain ⟨d0, d1, d2, w0, w1, f0, f1, e0, e9⟩ := ok
  obtain ⟨dx, hx⟩ := id hr0
  have kT : isD d = true /\ fi <= d -> Q (.bl (decide ((DM.mo d - (DM.mo fi)) % e = 0) && decide (K7 (DM.mo d) w wd = some d))) H   := λ hw => by have k2 : Q (.bl (byM (DM.mo fi) e fi (λ n => K7 n w wd) d)) H := k; unfold byM at k2; rw [if_pos hw] at k2; exact k2
  have kF : ¬ (isD d = true /\ fi <= d) -> Q (.bl false) H   := λ hw => by have k2 : Q (.bl (byM (DM.mo fi) e fi (λ n => K7 n w wd) d)) H := k; unfold byM at k2; rw [if_neg hw] at k2; exact k2
  clear k
  refine ⟨d, rfl, ?_⟩
  conv => whnf
  cases e1 : isD d with
  | false => exact ⟨λ _ => F4 (kF (λ w => by rw [e1] at w; cases w.1)), λ z => absurd rfl z⟩
  | true =>
  refine Ct ⟨hx, T.Lz, T.Vr, rfl, ⟨λ z => kF (λ w => by have := w.2; have := Am8 z; lia), λ z => ?_⟩⟩
  have hf : fi <= d := Api.mp λ w => z (Am6 w)
  have kk := kT ⟨e1, hf⟩
  clear kT kF z
  refine ⟨d, rfl, hx, T.Lz, T.So, rfl, hx, T.Lz, T.Sr, rfl, _, _, rfl, rfl, (by show (0 : Int) < e; lia), rfl, ?_⟩
  conv => whnf
  rw [Sb]
  cases e2 : decide ((DM.mo d - (DM.mo fi)) % e = 0) with
  | false => rw [e2] at kk; exact Ct kk
  | true =>
  rw [e2, An1] at kk
  refine F4 ⟨hx, rfl, .inr (.inl ⟨rfl, rfl⟩), x, _, w, wd, fi, e, rfl, hr0, vb _ _, ?_⟩
  conv => whnf
  rw [Agi]
  exact kk
 |
  yr mn dt fi e =>
  obtain ⟨m0, m1, d0, d1, f0, f1, e0, e9⟩ := ok
  obtain ⟨dx, hx⟩ := id hr0
  have kT : isD d = true /\ fi <= d -> Q (.bl (decide ((DM.mo d - (DM.mo fi / 12 * 12 + mn - 1)) % (e * 12) = 0) && decide (Ce (DM.mo d) dt = some d))) H   := λ hw => by have k2 : Q (.bl (byM (DM.mo fi / 12 * 12 + mn - 1) (e * 12) fi (λ n => Ce n dt) d)) H := k; unfold byM at k2; rw [if_pos hw] at k2; exact k2
  have kF : ¬ (isD d = true /\ fi <= d) -> Q (.bl false) H   := λ hw => by have k2 : Q (.bl (byM (DM.mo fi / 12 * 12 + mn - 1) (e * 12) fi (λ n => Ce n dt) d)) H := k; unfold byM at k2; rw [if_neg hw] at k2; exact k2
  clear k
  refine ⟨d, rfl, ?_⟩
  conv => whnf
  cases e1 : isD d with
  | false => exact ⟨λ _ => F4 (kF (λ w => by rw [e1] at w; cases w.1)), λ z => absurd rfl z⟩
  | true =>
  refine Ct ⟨hx, T.C9, T.O9, rfl, ⟨λ z => kF (λ w => by have := w.2; have := Am8 z; lia), λ z => ?_⟩⟩
  have hf : fi <= d := Api.mp λ w => z (Am6 w)
  have kk := kT ⟨e1, hf⟩
  clear kT kF z
  refine ⟨d, rfl, hx, T.C9, T.Mx, rfl, hx, T.C9, T.Ms, rfl, _, _, rfl, rfl, (by show (0 : Int) < (e * 12); lia), rfl, ?_⟩
  conv => whnf
  rw [Sb]
  cases e2 : decide ((DM.mo d - (DM.mo fi / 12 * 12 + mn - 1)) % (e * 12) = 0) with
  | false => rw [e2] at kk; exact Ct kk
  | true =>
  rw [e2, An1] at kk
  refine F4 ⟨hx, rfl, .inr (.inr ⟨rfl, rfl⟩), x, _, mn, dt, fi, e, rfl, hr0, vb _ _, ?_⟩
  conv => whnf
  rw [Agi]
  exact kk
 | nv => exact hm.elim
 | ev _ _ => exact hm.elim
 | wk _ _ _ => exact hm.elim
 | dy _ => exact hm.elim
 | wh _ _ => exact hm.elim
def Tg : Aw ["self", "day", "end", "place"] ["self", "day", "end"] (Ah Ca) := qsc
def M5 : Fk P w T 2 a.Km a.Kl ["self", "day", "end"] (Sh (ad a)) := by
 refine T.j6.go Tg λ cdv A outer s H vs Q E hr h => ?_
 obtain ⟨x, b, e, ds, rfl, ⟨dx, d, ms, hx, hd, hri, hlen, hmem⟩, k1, k2⟩ := h
 refine ⟨_, (Ac (Cr 3 Tg.nd (qc (Kq T) hr T.Mi T.Ir T.Mf (Aa (qf K (qv 0)) (Aa (qv 1) Ad))))
  (Ac (A4 (Asg (o8 (Al Be (qv 3) (qb (Ds (K := K) rfl) T.Zs (Aa (qf K (qv 0)) Ad)) (Am _)) (Zk (Al Aaf (qix K (qf K (qv 0)) (qv 3)) (qv 2) (Am _))))) (Af (Aj Gq)) Ao)
  (Af (Aj (qix K (qf K (qv 0)) (qv 3)))))), ?_⟩
 have hS : SqT K H d (ms.map V.int) := Asd hd
 refine ⟨hx, T.Pc, T.Mw, rfl, d, ms, b, rfl, hS, hri, hlen, ?_⟩
 conv => whnf
 have hle := DC.bz ms b
 generalize hn : DC.below ms b = n at *
 have before : ∀ k ∈ ms, k < b ∨ ∃ i, n <= i /\ ms[i]? = some k := λ k hk => by
  obtain ⟨i, hi⟩ := Aob hk
  by_cases hin : i < n
  · rw [← hn] at hin; exact .inl ((DC.Ew hri hi).mp hin)
  · exact .inr ⟨i, dkl, hi⟩
 refine ⟨hx, T.Pc, T.Mw, rfl, d, _, rfl, .inr hS, ?_⟩
 conv => whnf
 rw [Am9]
 refine ⟨λ z => F4 ?_, λ z => ?_⟩
 ·
  have z' : (n : Int) = (ms.length : Int) := V.int.inj (Am8 z)
  refine k2 λ k h1 h2 => ?_
  refine λ hk => ?_
  rcases before k ((hmem k).mpr hk) with w | ⟨i, w1, w2⟩
  · lia
  ·
   obtain ⟨w3, _⟩ := Ang.mp w2
   lia
 have hlt : n < ms.length := by
  have : ¬ (n : Int) = (ms.length : Int) := λ w => z (Am6 (by rw [w]))
  lia
 obtain ⟨v, hv⟩ := Abe (ns := ms) (i := n) hlt
 have hA : atI (ms.map V.int) (n : Int) = some (.int v) := Q1 (Aa9 hv)
 have hvb : b <= v := Api.mp λ w => by have := (DC.Ew hri hv).mpr w; lia
 have first : ∀ k, b <= k -> k < v -> k ∉ ds := λ k h1 h2 => by
  refine λ hk => ?_
  rcases before k ((hmem k).mpr hk) with w | ⟨i, w1, w2⟩
  · lia
  ·
   have := DC.ue hri hv w2 w1
   lia
 refine ⟨hx, T.Pc, T.Mw, rfl, hS, hA, ?_⟩
 refine ⟨λ z => ?_, λ z => ?_⟩
 ·
  have z' : e <= v := Am8 z
  exact k2 λ k h1 h2 => first k h1 dkl
 ·
  have z' : ¬ e <= v := λ w => z (Am6 w)
  exact ⟨hx, T.Pc, T.Mw, rfl, hS, hA, k1 v hvb dkl ((hmem v).mp (Aoa hv)) first⟩
def af : Fk P w T 3 a.Iz a.Jh ["self", "day"] (Zr (ad a)) := by
 refine T.gi.gq ["self", "day"] λ cdv A outer s H vs Q E hr h => ?_
 obtain ⟨x, d, ds, rfl, hr0, k⟩ := h
 refine ⟨_, (Af (Aj (A8 vm (Ax (n := 2) (D := λ C R => (C = a.Fo /\ R = λ x vs H Q => (Sh (ad a)) (x :: (vs ++ ([] : List V))) H Q E0)) (qv 0) (by rintro C R ⟨rfl, rfl⟩ <;> first | exact (qan T.Pc T.Nf ((M5 T).mono dkd) hr T.Pa)) (Aa (qv 1) (Aa (Ag Ap (qv 1) Ab) Ad))) Gq (Am _)))), ?_⟩
 obtain ⟨dx, d0, ms, hx, _⟩ := id hr0
 have k2 : Q (.bl (decide (d ∈ ds))) H := k
 refine ⟨hx, rfl, ⟨rfl, rfl⟩, x, d, _, ds, rfl, hr0, λ z z1 z2 z3 _ => ?_, λ hn => ?_⟩
 ·
  rw [Am6 (show d ∈ ds by rw [show d = z by lia]; exact z3)] at k2
  conv => whnf
  rw [Ane (λ w => nomatch w)]
  exact k2
 ·
  rw [Ane (hn d dkl dkl)] at k2
  exact k2
def P7 : Aw ["self", "day", "test"] ["self", "day"] (Ah Lk) := qsc
theorem P6 : Fk P w T 2 a.G7 a.G4 ["self", "day"] (Pq (ad a)) := by
 refine T.aj.go P7 λ cdv A outer s H vs Q E hr h => ?_
 obtain ⟨x, d, m, r, rfl, ⟨dx, f, t, hx, ⟨cl, cd, L⟩, ht⟩, m1, b0, b1, k⟩ := h
 refine ⟨_, (Ac (Cr 2 P7.nd (qf K (qv 0)))
  (Af (Aj (Dx (qc (M1 T) hr T.Ri T.Nz T.Qk (Aa (qv 1) Ad)) (Dk (qty x5 T.Wf (Aa (Adk si qx hr (λ _ _ _ _ _ _ _ => (A8 Be (Ag Og (Ag M4 (qv 0) (qv 0)) (qix K (qv 1) Ab)) (qix K (qv 1) Ab) (Am _))) (qv 2) (Aa (qv 1) Ad)) Ad))))))), ?_⟩
 have k2 : Q (.bl (isD d && decide (d * d % m = r))) H := k
 refine ⟨hx, T.Q3, T.Y5, rfl, ?_⟩
 refine ⟨d, rfl, ?_⟩
 conv => whnf
 cases e1 : isD d with
 | false => rw [e1] at k2; exact Ct k2
 | true =>
 rw [e1, An1] at k2
 refine F4 ⟨f, _, cl, cd, rfl, L, _, rfl, L, ?_⟩
 conv => whnf
 have ht2 : Vm cl H t = some (.tup [.str "where", .int m, .int r]) := by
  rw [Tt (λ w => ?_)]
  · exact ht
  ·
   obtain ⟨q, hq, e⟩ := Anx.mp w
   obtain ⟨z, hz⟩ := L.all q hq
   rw [e, ht] at hz
   cases hz
 refine ⟨_, _, rfl, rfl, .inl ⟨dkl, dkl⟩, Asd ht2, rfl, _, _, rfl, rfl, (by show (0 : Int) < m; lia), Asd ht2, rfl, rfl, .inr ⟨_, rfl, ?_⟩⟩
 conv => whnf
 rw [Sb]
 exact k2
def Xc (P : Program) (w : World) (K : W.Frag) (mg : Str -> Option Value) (base : Heap) (a : Adr) (n : Nat) : Prop :=
 FnOk P w K mg base CX0 true (20 + n) a.Em a.Ee ["self", "day"] (spF (jd a) n 8) /\
 FnOk P w K mg base CX0 true (20 + n) a.F1 a.Fu ["self", "day"] (spF (jd a) n 9) /\
 FnOk P w K mg base CX0 true (20 + n) a.Gw a.Gp ["self", "day"] (spF (jd a) n 10) /\
 FnOk P w K mg base CX0 true (20 + n) a.Ed a.Eb ["self", "day"] (spF (jd a) n 11) /\
 FnOk P w K mg base CX0 true (20 + n) a.Dr a.Dl ["self", "day"] (spF (jd a) n 12) /\
 FnOk P w K mg base CX0 true (20 + n) a.Dn a.Dq ["self", "day"] (spF (jd a) n 13)
theorem ox (T : Vy K mg base a) (IH : Xc P w K mg base a n) (e1 : X.prog = P) (e2 : X.w = w) (e3 : X.K = K) (e4 : X.mg = mg) (e5 : X.base = base) (hr : Room true kk X.A) (hk : 20 + n <= kk) : ∀ C R, dF a n C R -> Ans X "falls_on" 1 C R := by
 subst e1 e2 e3 e4 e5
 obtain ⟨i8, i9, i10, i11, i12, i13⟩ := IH
 rintro C R ⟨i, hi, rfl, rfl⟩
 match i, hi with
 |
  0, _ =>
  refine (qan T.md T.Zq (((ar T).imp λ vs H Q E h => ?_).mono (Anb dkl hk)) hr T.cx)
  obtain ⟨x, d, t, rfl, hk, hn, hr, ok, hd, k⟩ := h
  obtain rfl := kd0 hk
  exact ⟨x, d, rfl, k⟩
 |
  1, _ =>
  refine (qan T.Fn T.Yp (((Ye T).imp λ vs H Q E h => ?_).mono (Anb dkl hk)) hr T.av)
  obtain ⟨x, d, t, rfl, hk, hn, hr, ok, hd, k⟩ := h
  obtain ⟨q1, q2, rfl⟩ := kdJ hk
  exact ⟨x, d, _, _, rfl, hr, ok, k⟩
 |
  2, _ =>
  refine (qan T.Cg T.Xd (((W7 T).imp λ vs H Q E h => ?_).mono (Anb dkl hk)) hr T.Yc)
  obtain ⟨x, d, t, rfl, hk, hn, hr, ok, hd, k⟩ := h
  obtain ⟨q1, q2, q3, rfl⟩ := kdJ hk
  exact ⟨x, d, _, _, _, rfl, hr, ok, k⟩
 |
  3, _ =>
  refine (qan T.Cn T.Ve (((Ho T).imp λ vs H Q E h => ?_).mono (Anb dkl hk)) hr T.Iq)
  obtain ⟨x, d, t, rfl, hk, hn, hr, ok, hd, k⟩ := h
  obtain ⟨q1, q2, q3, rfl⟩ := kdJ hk
  exact ⟨x, d, .mo q1 q2 q3, rfl, trivial, hr, ok, k⟩
 |
  4, _ =>
  refine (qan T.Lz T.f6 (((Ho T).imp λ vs H Q E h => ?_).mono (Anb dkl hk)) hr T.Iq)
  obtain ⟨x, d, t, rfl, hk, hn, hr, ok, hd, k⟩ := h
  obtain ⟨q1, q2, q3, q4, rfl⟩ := kdJ hk
  exact ⟨x, d, .nt q1 q2 q3 q4, rfl, trivial, hr, ok, k⟩
 |
  5, _ =>
  refine (qan T.C9 T.V1 (((Ho T).imp λ vs H Q E h => ?_).mono (Anb dkl hk)) hr T.Iq)
  obtain ⟨x, d, t, rfl, hk, hn, hr, ok, hd, k⟩ := h
  obtain ⟨q1, q2, q3, q4, rfl⟩ := kdJ hk
  exact ⟨x, d, .yr q1 q2 q3 q4, rfl, trivial, hr, ok, k⟩
 |
  6, _ =>
  refine (qan T.Pc T.au (((af T).imp λ vs H Q E h => ?_).mono (Anb dkl hk)) hr T.fm)
  obtain ⟨x, d, t, rfl, hk, hn, hr, ok, hd, k⟩ := h
  obtain ⟨q1, rfl⟩ := kdJ hk
  exact ⟨x, d, _, rfl, hr, k⟩
 |
  7, _ =>
  refine (qan T.Q3 T.Qa (((P6 T).imp λ vs H Q E h => ?_).mono (Anb dkl hk)) hr T.Rq)
  obtain ⟨x, d, t, rfl, hk, hn, hr, ok, hd, k⟩ := h
  obtain ⟨q1, q2, rfl⟩ := kdJ hk
  exact ⟨x, d, _, _, rfl, hr, ok, by have := hd.1; omega, by have := hd.2; omega, k⟩
 | 8, _ => exact (qan T.Ie T.V9 ((i8).mono hk) hr T.Yn)
 | 9, _ => exact (qan T.Qo T.Zz ((i9).mono hk) hr T.cz)
 | 10, _ => exact (qan T.Wt T.ic ((i10).mono hk) hr T.j4)
 | 11, _ => exact (qan T.E9 T.Xe ((i11).mono hk) hr T.Yr)
 | 12, _ => exact (qan T.El T.Vd ((i12).mono hk) hr T.Wz)
 | 13, _ => exact (qan T.Ar T.Vu ((i13).mono hk) hr T.Wj)
def om : Fk P w T 2 a.Oi a.Nq ["number"] (mw) := by
 refine T.Zi.gq ["number"] λ cdv A outer s H vs Q E hr h => ?_
 obtain ⟨n, rfl, k⟩ := h
 refine ⟨_, (Af (Aj (Ag A7 (Ag M4 (qv 0) Ab) (qc (P4 T) hr T.Tp T.Qb T.Sk (Aa Ab Ad))))), ?_⟩
 exact ⟨_, _, rfl, rfl, .inr ⟨dkd, dkd⟩, 0, rfl, k⟩
def C3 : Aw ["self", "day", "end", "found", "stop", "over"] ["self", "day", "end"] (Ah Bl) := qsc
def P5 : Fk P w T 4 a.Hb a.Gz ["self", "day", "end"] (X8 (ad a)) := by
 refine T.Zw.go C3 λ cdv A outer s H vs Q E hr h => ?_
 obtain ⟨x, b, e, mk, fi, ev, rfl, hr0, ok, k1, k2⟩ := h
 refine ⟨_, (J3 (Cr 3 C3.nd (qb (O4 rfl) T.V3 (Aa (qv 1) (Aa (qf K (qv 0)) Ad))))
  (J3 (Cr 4 C3.nd (qb (J1 rfl) T.Su (Aa (qv 2) (Aa (B8 rfl T.N6) Ad))))
  (Ac (Uq Aof (Al Ni (qv 3) (qv 4) (Am _)) (Ac (Cr 5 C3.nd (Ax (n := 1) (D := λ C R => (C = a.A3 /\ R = λ x vs H Q => (Gi (ad a)) (x :: (vs ++ ([] : List V))) H Q E0)) (qv 0) (by rintro C R ⟨rfl, rfl⟩ <;> first | exact (qan T.Cg T.Lw ((L4 T).mono dkd) hr T.Mu)) (Aa (qv 3) Ad)))
  (Af (A4 (Al lr (qv 5) Ab (Am _)) (Af (Cr 3 C3.nd (qc (om T) hr T.tu T.Zi T.oz (Aa (Ag A7 (Ag Ap (qc (Yi T) hr T.g9 T.V8 T.ek (Aa (qv 3) Ad)) (qf K (qv 0))) (qv 5)) Ad)))) (Af (A4 (Dz (Ax (n := 1) (D := λ C R => (C = a.A3 /\ R = λ x vs H Q => (Fw (ad a)) (x :: (vs ++ ([] : List V))) H Q E0)) (qv 0) (by rintro C R ⟨rfl, rfl⟩ <;> first | exact (qan T.Cg T.K9 ((K6 T).mono dkd) hr T.Lx)) (Aa (qv 3) Ad))) (Af (Aj (qv 3))) (Af (wg (i := 3) C3.nd rfl (Or.inl rfl) Ab wt))))))))
  (Af (Aj Gq))))), ?_⟩
 obtain ⟨dx, hx⟩ := id hr0
 have ok1 := ok
 obtain ⟨m0, m1, f0, f1, e0, e1⟩ := ok
 refine ⟨λ σ' H' => H = H' /\ ∃ f : Int, b <= f /\ fi <= f /\ DN.No (.wk mk fi ev) b f /\ σ' = [some (.ref x), some (.int b), some (.int e), some (.int f), none, none], ?_, ?_⟩
 ·
  refine ⟨hx, T.Cg, T.Ks, rfl, rfl, (if fi > b then fi else b), ?_, ?_, λ k h1 h2 => ?_, rfl⟩
  · split <;> lia
  · split <;> lia
  ·
   refine DF.Acf (r := .wk mk fi ev) ?_
   conv => whnf
   show k < fi
   split at h2 <;> lia
 rintro σ _ ⟨rfl, f, bf, ff, hno, rfl⟩
 refine ⟨λ σ' H' => H = H' /\ ∃ s : Int, s = (if 146097 < e then 146097 else e) /\ σ' = [some (.ref x), some (.int b), some (.int e), some (.int f), some (.int s), none], ⟨rfl, _, rfl, rfl⟩, ?_⟩
 rintro σ _ ⟨rfl, s, hs, rfl⟩
 have hs1 : s <= 146097 /\ s <= e := by rw [hs]; split <;> lia
 refine ⟨λ m σ H' => H = H' /\ ∃ (f : Int) (y : Option V), m = (s - f).toNat /\ b <= f /\ fi <= f /\ DN.No (.wk mk fi ev) b f /\ σ = [some (.ref x), some (.int b), some (.int e), some (.int f), some (.int s), y], ⟨_, rfl, f, _, rfl, bf, ff, hno, rfl⟩, ?_⟩
 rintro m σ _ ⟨rfl, f, y, rfl, bf, ff, hno, rfl⟩
 refine ⟨λ z => ?_, λ z => ?_⟩
 ·
  have hfs : f < s := Am8 z
  refine ⟨λ σ' H' => ∃ m', m' < (s - f).toNat /\ H = H' /\ ∃ (f : Int) (y : Option V), m' = (s - f).toNat /\ b <= f /\ fi <= f /\ DN.No (.wk mk fi ev) b f /\ σ' = [some (.ref x), some (.int b), some (.int e), some (.int f), some (.int s), y], λ σ' H' h => h, ?_⟩
  refine ⟨hx, rfl, ⟨rfl, rfl⟩, x, f, mk, fi, ev, rfl, hr0, e0, ?_⟩
  refine ⟨λ z => ?_, λ z => ?_⟩
  ·
   have ho := Am8 z
   obtain ⟨w1, w2⟩ := DN.Aey (mk := mk) (fi := fi) (f := f) e0 rfl ho
   refine ⟨f, rfl, hx, T.Cg, T.O0, rfl, _, rfl, ?_⟩
   refine ⟨_, ?_, rfl, _, _, rfl, ?_, ?_, λ k h1 h2 => ?_, rfl⟩
   · lia
   · lia
   · lia
   ·
    by_cases hk : k < f
    · exact hno k h1 hk
    · exact w2 k dkl h2
  ·
   have hz : ((f + 5) / 7 - (fi + 5) / 7) % ev = 0 := by
    have := Anz ((f + 5) / 7 - (fi + 5) / 7) (by lia : ev ≠ 0)
    have : ¬ 0 < ((f + 5) / 7 - (fi + 5) / 7) % ev := λ w => z (Am6 w)
    lia
   have hat := DN.Akn (mk := mk) (e := ev) (f := f) dkl dkl ff
   rw [Am6 hz, An1] at hat
   refine ⟨hx, rfl, ⟨rfl, rfl⟩, x, f, mk, fi, ev, rfl, hr0, ⟨λ z => ?_, λ z => ?_⟩⟩
   · exact k1 f bf dkl (hat.trans z) hno
   ·
    have hff : fl (.wk mk fi ev) f = false := by
     rw [hat]
     exact Bool.eq_false_iff.mpr z
    exact ⟨_, rfl, _, _, rfl, rfl, (s - (f + 1)).toNat, dkl, rfl, f + 1, _, rfl, dkl, dkl, hno.step hff, rfl⟩
 ·
  have hfs : ¬ f < s := λ w => z (Am6 w)
  refine k2 (hno.stop ok1 ?_)
  conv => whnf
  rw [hs] at hfs
  split at hfs <;> lia
def By : Aw ["self", "day", "end", "begin", "stop", "number", "found"] ["self", "day", "end"] (Ah Bg) := qsc
def Ck : Fk P w T 5 a.C4 a.F7 ["self", "day", "end"] (Xj (ad a)) := by
 refine T.Yh.go By λ cdv A outer s H vs Q E hr h => ?_
 obtain ⟨x, b, e, r, rfl, hm, hr0, ok, k1, k2⟩ := h
 refine ⟨_, (J3 (Cr 3 By.nd (qb (O4 rfl) T.V3 (Aa (qv 1) (Aa (qf K (qv 0)) Ad))))
  (J3 (Cr 4 By.nd (qb (J1 rfl) T.Su (Aa (qv 2) (Aa (B8 rfl T.N6) Ad))))
  (Ac (A4 (Al Aaf (qv 3) (qv 4) (Am _)) (Af (Aj Gq)) Ao)
  (Ac (Cr 5 By.nd (qc (Ng T) hr T.Pe T.Mp T.Pw (Aa (qv 3) Ad)))
  (J3 (wg (i := 5) By.nd rfl (Or.inl rfl) (Ag Og (Ag A7 (qf K (qv 0)) (qv 5)) (qf K (qv 0))) wt)
  (Ac (Uq Aof (Al Ni (qc (C0 T) hr T.Dm T.Cv T.Dp (Aa (qv 5) Ad)) (qv 4) (Am _)) (Ac (Cr 6 By.nd (Ax (n := 1) (D := Aet a) (qv 0) (by rintro C R (⟨rfl, rfl⟩ | ⟨rfl, rfl⟩ | ⟨rfl, rfl⟩) <;> first | exact (qan T.Cn T.Pd ((P9 T).mono dkd) hr T.Rw) | exact (qan T.Lz T.W4 ((Wq T).mono dkd) hr T.Zf) | exact (qan T.C9 T.R6 ((Rr T).mono dkd) hr T.Tx)) (Aa (qv 5) Ad)))
  (Ac (A4 (Asg (M9 (Al vm (qv 6) Gq (Am _)) (Hx (bw jn Ni (qv 3) (qv 6) (qv 4))))) (Af (Aj (qv 6))) Ao)
  (Af (wg (i := 5) By.nd rfl (Or.inl rfl) (qf K (qv 0)) wt)))))
  (Af (Aj Gq)))))))), ?_⟩
 obtain ⟨C, dx, fs, hx, hC, hfi, hor, hst, hno, R2, hD, hR⟩ := Aap T hm hr0
 obtain ⟨st1, f0⟩ := DN.Af3 hm ok
 refine ⟨λ σ' H' => H = H' /\ ∃ B : Int, B = (if DN.fiM r > b then DN.fiM r else b) /\ σ' = [some (.ref x), some (.int b), some (.int e), some (.int B), none, none, none], ⟨hx, hC, hfi.1, hfi.2, rfl, _, rfl, rfl⟩, ?_⟩
 rintro σ _ ⟨rfl, B, hB, rfl⟩
 refine ⟨λ σ' H' => H = H' /\ ∃ s : Int, s = (if 146097 < e then 146097 else e) /\ σ' = [some (.ref x), some (.int b), some (.int e), some (.int B), some (.int s), none, none], ⟨rfl, _, rfl, rfl⟩, ?_⟩
 rintro σ _ ⟨rfl, s, hs, rfl⟩
 have hs1 : s <= 146097 /\ s <= e := by rw [hs]; split <;> lia
 have hB1 : b <= B /\ DN.fiM r <= B := by rw [hB]; split <;> lia
 refine ⟨λ z => ?_, λ z => ?_⟩
 · exact k2 (DN.none_of hm ok hB hs (Am8 z))
 have hlt : B < s := Int.not_le.mp λ w => z (Am6 w)
 obtain ⟨q1, q2, q3⟩ := DN.yj (s := s) hs1.1 hm st1 f0 hB dkl
 refine ⟨B, rfl, ?_⟩
 refine ⟨λ σ' H' => H = H' /\ ∃ n : Int, n = DM.mo B + (DN.orM r - DM.mo B) % DN.stM r /\ σ' = [some (.ref x), some (.int b), some (.int e), some (.int B), some (.int s), some (.int n), none], ?_, ?_⟩
 · exact ⟨_, rfl, hx, hC, hor.1, hor.2, hx, hC, hst.1, hst.2, _, _, rfl, rfl, (by show (0 : Int) < DN.stM r; lia), _, _, rfl, rfl, rfl, _, rfl, rfl⟩
 rintro σ _ ⟨rfl, n0, hn0, rfl⟩
 rw [← hn0] at q1 q2 q3
 refine ⟨λ m σ H' => H = H' /\ ∃ (n : Int) (y : Option V), m = (s - DM.mb n).toNat /\ DN.Acl r b s n /\ (n - DN.orM r) % DN.stM r = 0 /\ σ = [some (.ref x), some (.int b), some (.int e), some (.int B), some (.int s), some (.int n), y], ⟨_, rfl, n0, _, rfl, q1, q3, rfl⟩, ?_⟩
 rintro m σ _ ⟨rfl, n, y, rfl, hg, hn, rfl⟩
 refine ⟨n, rfl, ⟨λ z => ?_, λ z => ?_⟩⟩
 ·
  have hms : DM.mb n < s := Am8 z
  refine ⟨λ σ' H' => ∃ m', m' < (s - DM.mb n).toNat /\ H = H' /\ ∃ (n : Int) (y : Option V), m' = (s - DM.mb n).toNat /\ DN.Acl r b s n /\ (n - DN.orM r) % DN.stM r = 0 /\ σ' = [some (.ref x), some (.int b), some (.int e), some (.int B), some (.int s), some (.int n), y], λ σ' H' h => h, ?_⟩
  refine ⟨hx, hno, hD, hR _ _ ?_⟩
  conv => whnf
  cases hgn : DN.gM r n with
  |
   none =>
   refine ⟨λ z => absurd z dkd, λ _ => Ct ?_⟩
   obtain ⟨g1, g2⟩ := DN.ig hm st1 hg hn (λ k k0 k1 k3 => DN.gone_none hm (by rw [← hB]; exact (λ d hd => by rw [hgn] at hd; cases hd)) k0 k1 k3)
   have hmono := DM.Ov (a := n) (b := n + DN.stM r) dkl
   exact ⟨_, rfl, hx, hC, hst.1, hst.2, _, _, rfl, rfl, (s - DM.mb (n + DN.stM r)).toNat, dkl, rfl, n + DN.stM r, _, rfl, g1, g2, rfl⟩
  |
   some d =>
   obtain ⟨i1, i2⟩ := DN.Ah4 hgn
   refine ⟨λ _ => ?_, λ z => absurd (by rw [Ane (λ e => nomatch e)]; rfl) z⟩
   refine ⟨λ z => ?_, λ z => Ct ?_⟩
   ·
    have z1 : B <= d := Am8 z
    refine ⟨λ y => ?_, λ y => ?_⟩
    ·
     have y1 : d < s := Am8 y
     obtain ⟨c1, c2⟩ := DN.yt hm hg y1 dkl dkl dkl hn hgn ok
     exact k1 d dkl dkl c1 c2
    ·
     skip
     obtain ⟨g1, g2⟩ := DN.ig hm st1 hg hn (λ k k0 k1 k3 => DN.gone_none hm (by rw [← hB]; exact (λ q hq w => by rw [hgn] at hq; cases hq; exact y (Am6 w.2))) k0 k1 k3)
     have hmono := DM.Ov (a := n) (b := n + DN.stM r) dkl
     exact ⟨_, rfl, hx, hC, hst.1, hst.2, _, _, rfl, rfl, (s - DM.mb (n + DN.stM r)).toNat, dkl, rfl, n + DN.stM r, _, rfl, g1, g2, rfl⟩
   ·
    skip
    obtain ⟨g1, g2⟩ := DN.ig hm st1 hg hn (λ k k0 k1 k3 => DN.gone_none hm (by rw [← hB]; exact (λ q hq w => by rw [hgn] at hq; cases hq; exact z (Am6 w.1))) k0 k1 k3)
    have hmono := DM.Ov (a := n) (b := n + DN.stM r) dkl
    exact ⟨_, rfl, hx, hC, hst.1, hst.2, _, _, rfl, rfl, (s - DM.mb (n + DN.stM r)).toNat, dkl, rfl, n + DN.stM r, _, rfl, g1, g2, rfl⟩
 · exact k2 (DN.zr hm ok hg (Api.mp λ w => z (Am6 w)) hs)
def Rx : Aw ["self", "day", "end", "found"] ["self", "day", "end"] (Ah Bw) := qsc
def R0 : Fk P w T 3 a.Ib a.Jb ["self", "day", "end"] (ab (ad a)) := by
 refine T.eu.go Rx λ cdv A outer s H vs Q E hr h => ?_
 obtain ⟨x, b, e, m, r, rfl, hr0, ok, ⟨w1, w2, w3, w4⟩, k1, k2⟩ := h
 refine ⟨_, (Ac (To Aof rfl (dg rfl T.Hm (Aa (qb (O4 rfl) T.V3 (Aa (qv 1) (Aa Ab Ad))) (Aa (qb (J1 rfl) T.Su (Aa (qv 2) (Aa (B8 rfl T.N6) Ad))) Ad))) (qnm 3 Rx.nd) (Af (A4 (Dz (Ax (n := 1) (D := λ C R => (C = a.B3 /\ R = λ x vs H Q => (Pq (ad a)) (x :: (vs ++ ([] : List V))) H Q E0)) (qv 0) (by rintro C R ⟨rfl, rfl⟩ <;> first | exact (qan T.Q3 T.Qa ((P6 T).mono dkd) hr T.Rq)) (Aa (qv 3) Ad))) (Af (Aj (qv 3))) Ao)))
  (Af (Aj Gq))), ?_⟩
 obtain ⟨dx, f, t, hx, hl⟩ := id hr0
 refine ⟨_, _, rfl, ?_, ?_⟩
 · refine ⟨?_, ?_, ?_, ?_⟩ <;> split <;> lia
 generalize hlo : (if 0 > b then 0 else b) = lo
 have l1 : 0 <= lo /\ b <= lo := by rw [← hlo]; split <;> lia
 have l2 : ∀ k, b <= k -> k < lo -> k < 0 := λ k h1 h2 => by rw [← hlo] at h2; split at h2 <;> lia
 generalize hhi : (if 146097 < e then 146097 else e) = hi
 have u1 : hi <= e /\ hi <= 146097 := by rw [← hhi]; split <;> lia
 have u2 : e <= hi ∨ 146097 <= hi := by rw [← hhi]; split <;> lia
 refine Abz (λ i σ H' => H = H' /\ DN.No (.wh m r) b (lo + (i : Int)) /\ ∃ y, σ = [some (.ref x), some (.int b), some (.int e), y]) ⟨rfl, (λ k h1 h2 => DF.Zh ok (.inl (l2 k h1 dkl))), _, rfl⟩ ?_ ?_
 ·
  rintro i σ _ hi1 ⟨rfl, hn, y, rfl⟩
  refine ⟨hx, rfl, ⟨rfl, rfl⟩, x, _, m, r, rfl, hr0, ok, dkl, dkl, ?_⟩
  conv => whnf
  cases hv : fl (.wh m r) (lo + (i : Int)) with
  | true => exact F4 (k1 _ dkl dkl hv hn)
  |
   false =>
   refine Ct ⟨rfl, ?_, _, rfl⟩
   have := hn.step hv
   rwa [show lo + ((i + 1 : Nat) : Int) = lo + (i : Int) + 1 by lia]
 ·
  rintro σ _ ⟨rfl, hn, y, rfl⟩
  exact k2 (hn.stop ok dkl)
theorem Alo (T : Vy K mg base a) (e1 : X.prog = P) (e2 : X.w = w) (e3 : X.K = K) (e4 : X.mg = mg) (e5 : X.base = base) (hr : Room true kk X.A) (hk : 8 <= kk) : ∀ C R, dS a C R -> Ans X "next_in" 2 C R := by
 subst e1 e2 e3 e4 e5
 rintro C R ⟨i, hi, rfl, rfl⟩
 match i, hi with
 |
  0, _ =>
  refine (qan T.md T.Tb (((Sg T).imp λ vs H Q E h => ?_).mono (Anb dkd hk)) hr T.U5)
  obtain ⟨x, b, e, r, rfl, hk, hr, ok, hw, k⟩ := h
  obtain e := kd0 hk
  cases e
  exact ⟨x, b, e, rfl, k.2 λ _ _ _ => rfl⟩
 |
  1, _ =>
  refine (qan T.Fn T.Lp (((Li T).imp λ vs H Q E h => ?_).mono (Anb dkd hk)) hr T.Mt)
  obtain ⟨x, b, e, r, rfl, hk, hr, ok, hw, k⟩ := h
  obtain ⟨q1, q2, e⟩ := kdJ hk
  cases e
  exact ⟨x, b, e, _, _, rfl, hr, ok, k⟩
 |
  2, _ =>
  refine (qan T.Cg T.P8 (((P5 T).imp λ vs H Q E h => ?_).mono (Anb dkd hk)) hr T.R7)
  obtain ⟨x, b, e, r, rfl, hk, hr, ok, hw, k⟩ := h
  obtain ⟨q1, q2, q3, e⟩ := kdJ hk
  cases e
  exact ⟨x, b, e, _, _, _, rfl, hr, ok, k⟩
 |
  3, _ =>
  refine (qan T.Cn T.Oo (((Ck T).imp λ vs H Q E h => ?_).mono (Anb dkd hk)) hr T.C5)
  obtain ⟨x, b, e, r, rfl, hk, hr, ok, hw, k⟩ := h
  obtain ⟨q1, q2, q3, e⟩ := kdJ hk
  cases e
  exact ⟨x, b, e, .mo q1 q2 q3, rfl, trivial, hr, ok, k⟩
 |
  4, _ =>
  refine (qan T.Lz T.Vc (((Ck T).imp λ vs H Q E h => ?_).mono (Anb dkd hk)) hr T.C5)
  obtain ⟨x, b, e, r, rfl, hk, hr, ok, hw, k⟩ := h
  obtain ⟨q1, q2, q3, q4, e⟩ := kdJ hk
  cases e
  exact ⟨x, b, e, .nt q1 q2 q3 q4, rfl, trivial, hr, ok, k⟩
 |
  5, _ =>
  refine (qan T.C9 T.Pl (((Ck T).imp λ vs H Q E h => ?_).mono (Anb dkd hk)) hr T.C5)
  obtain ⟨x, b, e, r, rfl, hk, hr, ok, hw, k⟩ := h
  obtain ⟨q1, q2, q3, q4, e⟩ := kdJ hk
  cases e
  exact ⟨x, b, e, .yr q1 q2 q3 q4, rfl, trivial, hr, ok, k⟩
 |
  6, _ =>
  refine (qan T.Pc T.Nf (((M5 T).imp λ vs H Q E h => ?_).mono (Anb dkd hk)) hr T.Pa)
  obtain ⟨x, b, e, r, rfl, hk, hr, ok, hw, k⟩ := h
  obtain ⟨q1, e⟩ := kdJ hk
  cases e
  exact ⟨x, b, e, _, rfl, hr, k.dy⟩
 |
  7, _ =>
  refine (qan T.Q3 T.Rj (((R0 T).imp λ vs H Q E h => ?_).mono (Anb dkd hk)) hr T.Sn)
  obtain ⟨x, b, e, r, rfl, hk, hr, ok, hw, k⟩ := h
  obtain ⟨q1, q2, e⟩ := kdJ hk
  cases e
  exact ⟨x, b, e, _, _, rfl, hr, ok, hw, k⟩
def Ih : Aw ["self", "begin", "end", "found", "day"] ["self", "begin", "end"] (Ah Pb) := qsc
theorem C8 : Fk P w T 10 a.Bq a.K2 ["self", "begin", "end"] (gp (ad a)) := by
 refine T.jg.go Ih λ cdv A outer s H vs Q E hr h => ?_
 obtain ⟨x, b, e, r, rfl, hr0, ok, hw, k⟩ := h
 refine ⟨_, (Ac (Cr 3 Ih.nd (Lb Ad))
  (Ac (Cr 4 Ih.nd (Ax (n := 2) (D := dS a) (qv 0) (Alo T rfl rfl rfl rfl rfl hr dkl) (Aa (qv 1) (Aa (qv 2) Ad))))
  (Ac (Uq Aof (Al vm (qv 4) Gq (Am _)) (Ac (Dd (Ak2 PySem.F.plainAttrs_list PySem.F.slot_list_append PySem.F.type_list_append fb (qv 3) (Aa (qv 4) Ad)))
  (Af (Cr 4 Ih.nd (Ax (n := 2) (D := dS a) (qv 0) (Alo T rfl rfl rfl rfl rfl hr dkl) (Aa (Ag Ap (qv 4) Ab) (Aa (qv 2) Ad)))))))
  (Af (Aj (qv 3)))))), ?_⟩
 refine λ L hL => ?_
 have u1 := Ai (o := .lst []) hL
 have hL1 : (upd H L (.lst [])) L = some (.lst []) := Ae
 obtain ⟨C1, dx1, fs1, R1, ea1, eb1, ec1, ed1⟩ := Aeq (a := a) (hr0.up u1) ok hw
 refine ⟨ea1, eb1, ec1, ed1 _ λ o ho => ?_⟩
 refine ⟨λ m σ H' => ∃ c o, b <= c /\ (c <= e ∨ c = b) /\ Nx r c e o /\ m = msO o /\ Same H H' /\ H' L = some (.lst ((days (fl r) b c).map V.int)) /\ σ = [some (.ref x), some (.int b), some (.int e), some (.ref L), some (oV o)], ⟨_, b, o, Arv _, .inr rfl, ho, rfl, u1, by rw [hL1, DR.Xb λ k h1 h2 => by lia]; rfl, rfl⟩, ?_⟩
 rintro m σ H1 ⟨c, o, bc, hce, ho, rfl, s1, hLc, rfl⟩
 cases o with
 |
  none =>
  refine ⟨λ z => absurd z dkd, λ _ => ?_⟩
  exact k L _ s1 (by rw [hLc, DJ.Ac5 bc hce ho])
 |
  some d =>
  obtain ⟨o1, o2, o3, o4⟩ := ho
  have hd := DN.v7 ok o3
  refine ⟨λ _ => ?_, λ z => absurd (by rw [Ane (λ e => nomatch e)]; rfl) z⟩
  refine ⟨λ σ' H' => ∃ m', m' < msO (some d) /\ ∃ c o, b <= c /\ (c <= e ∨ c = b) /\ Nx r c e o /\ m' = msO o /\ Same H H' /\ H' L = some (.lst ((days (fl r) b c).map V.int)) /\ σ' = [some (.ref x), some (.int b), some (.int e), some (.ref L), some (oV o)], λ σ' H' h => h, ?_⟩
  have hlen : (days (fl r) b c).length <= 146097 := DJ.bx λ q hq => DN.v7 ok hq
  refine ⟨.inl ⟨rfl, _, Asf hLc⟩, L, _, _, rfl, rfl, hLc, (by rw [Am9]; exact Aox hlen dkd), ?_⟩
  conv => whnf
  have s2 : Same H (upd H1 L (.lst ((days (fl r) b c).map V.int ++ [.int d]))) := λ q u ec => by rw [An (Aq ec hL)]; exact s1 _ _ ec
  have hL2 : (upd H1 L (.lst ((days (fl r) b c).map V.int ++ [.int d]))) L = some (.lst ((days (fl r) b (d + 1)).map V.int)) := by
   rw [Ae, ← DR.Ab0 bc o1 o3 o4, Apg]
   rfl
  obtain ⟨w1, w2, w3, w4⟩ := hw
  obtain ⟨C2, dx2, fs2, R2, ea2, eb2, ec2, ed2⟩ := Aeq (a := a) (b := d + 1) (e := e) (hr0.up s2) ok ⟨dkl, dkl, w3, w4⟩
  refine ⟨ea2, eb2, ec2, ed2 _ λ o' ho' => ?_⟩
  refine ⟨msO o', ?_, d + 1, o', dkl, .inl dkl, ho', rfl, s2, hL2, rfl⟩
  cases o' with
  | none => show 0 < (146097 - d).toNat + 1; lia
  |
   some d' =>
   have := ho'.1
   show (146097 - d').toNat + 1 < (146097 - d).toNat + 1
   lia
def Rz : Aw ["self", "begin", "end", "day"] ["self", "begin", "end"] (Ah M8) := qsc
def ak : Fk P w T 2 a.Jq a.Ip ["self", "begin", "end"] (Z8 (ad a)) := by
 refine T.iz.go Rz λ cdv A outer s H vs Q E hr h => ?_
 obtain ⟨x, b, e, st, fi, rfl, hr0, ok, hw, k⟩ := h
 refine ⟨_, (Ac (Cr 3 Rz.nd (Ax (n := 2) (D := λ C R => (C = a.Cd /\ R = λ x vs H Q => (Rk (ad a)) (x :: (vs ++ ([] : List V))) H Q E0)) (qv 0) (by rintro C R ⟨rfl, rfl⟩ <;> first | exact (qan T.Fn T.Lp ((Li T).mono dkd) hr T.Mt)) (Aa (qv 1) (Aa (qv 2) Ad))))
  (Af (Aj (Ey (Al k6 (qv 3) Gq (Am _)) (Lb Ad) (qty (U6 rfl) T.V4 (Aa (qty tw T.Hm (Aa (qv 3) (Aa (qb (J1 rfl) T.Su (Aa (qv 2) (Aa (B8 rfl T.N6) Ad))) (Aa (qf K (qv 0)) Ad)))) Ad)))))), ?_⟩
 obtain ⟨dx, hx⟩ := id hr0
 obtain ⟨s1, s2, f0, f1⟩ := id ok
 refine ⟨hx, noK (ks := ["step", "first"]) rfl dkk, ⟨rfl, rfl⟩, x, b, e, st, fi, rfl, hr0, ok, λ d h1 h2 h3 h4 => ?_, λ hn => ?_⟩
 ·
  refine ⟨λ z => absurd (Am8 z) (λ w => nomatch w), λ _ => ?_⟩
  conv => whnf
  generalize he1 : (if 146097 < e then 146097 else e) = e1
  have hd := DN.v7 ok h3
  have e1d : d < e1 /\ e1 <= 146097 := by rw [← he1]; split <;> lia
  have hq : 0 <= (e1 - d - 1) / st := Int.ediv_nonneg dkl dkl
  have hq2 : (e1 - d - 1) / st <= e1 - d - 1 := Int.ediv_le_self _ dkl
  refine ⟨hx, T.Fn, T.Ob, rfl, d, e1, st, rfl, dkl, dkl, ⟨dkl, dkl, dkl, dkl⟩, λ r hr1 => ⟨r, d, e1, st, ((e1 - d - 1) / st + 1).toNat, rfl, Ae, dkl, dkl, ⟨dkl, dkl, dkl, dkl⟩, ?_, dkl, λ l hl => ?_⟩⟩
  ·
   unfold Builtin.Range.rangeSize
   rw [if_pos dkl, if_pos e1d.1]
   lia
  ·
   refine k l _ ((Ai hr1).trans (Ai hl)) ?_
   conv => whnf
   rw [Ae, DJ.Agv (n := ((e1 - d - 1) / st + 1).toNat) ok he1.symm h1 h2 h3 h4 dkl, Ao2]
   rfl
 ·
  refine ⟨λ _ => ?_, λ z => absurd (Am6 rfl) z⟩
  refine λ l hl => k l _ (Ai hl) ?_
  conv => whnf
  rw [Ae, DR.Xb hn]
  rfl
def Y1 (P : Program) (w : World) (K : W.Frag) (mg : Str -> Option Value) (base : Heap) (a : Adr) (n : Nat) : Prop :=
 FnOk P w K mg base CX0 true (20 + n) a.Fh a.Fc ["self", "begin", "end"] (spD (jd a) n 8) /\
 FnOk P w K mg base CX0 true (20 + n) a.Gv a.Gn ["self", "begin", "end"] (spD (jd a) n 9) /\
 FnOk P w K mg base CX0 true (20 + n) a.Jd a.Jn ["self", "begin", "end"] (spD (jd a) n 10) /\
 FnOk P w K mg base CX0 true (20 + n) a.E8 a.Fb ["self", "begin", "end"] (spD (jd a) n 11) /\
 FnOk P w K mg base CX0 true (20 + n) a.Ea a.Eh ["self", "begin", "end"] (spD (jd a) n 12) /\
 FnOk P w K mg base CX0 true (20 + n) a.Ei a.Ek ["self", "begin", "end"] (spD (jd a) n 13)
theorem Aep (T : Vy K mg base a) (ID : Y1 P w K mg base a n) (e1 : X.prog = P) (e2 : X.w = w) (e3 : X.K = K) (e4 : X.mg = mg) (e5 : X.base = base) (hr : Room true kk X.A) (hk : 20 + n <= kk) : ∀ C R, dD a n C R -> Ans X "days_in" 2 C R := by
 subst e1 e2 e3 e4 e5
 obtain ⟨i8, i9, i10, i11, i12, i13⟩ := ID
 rintro C R ⟨i, hi, rfl, rfl⟩
 match i, hi with
 |
  0, _ =>
  refine (qan T.md T.dk (((C8 T).imp λ vs H Q E h => ?_).mono (Anb dkl hk)) hr T.Dw)
  obtain ⟨x, b, e, t, rfl, hk, hn, hr, ok, hw, hs, k⟩ := h
  obtain rfl := kd0 hk
  exact ⟨x, b, e, .nv, rfl, hr, ok, hw.wi, k⟩
 |
  1, _ =>
  refine (qan T.Fn T.Z2 (((ak T).imp λ vs H Q E h => ?_).mono (Anb dkl hk)) hr T.d9)
  obtain ⟨x, b, e, t, rfl, hk, hn, hr, ok, hw, hs, k⟩ := h
  obtain ⟨q1, q2, rfl⟩ := kdJ hk
  exact ⟨x, b, e, q1, q2, rfl, hr, ok, hw.wi, k⟩
 |
  2, _ =>
  refine (qan T.Cg T.Xu (((C8 T).imp λ vs H Q E h => ?_).mono (Anb dkl hk)) hr T.Dw)
  obtain ⟨x, b, e, t, rfl, hk, hn, hr, ok, hw, hs, k⟩ := h
  obtain ⟨q1, q2, q3, rfl⟩ := kdJ hk
  exact ⟨x, b, e, .wk q1 q2 q3, rfl, hr, ok, hw.wi, k⟩
 |
  3, _ =>
  refine (qan T.Cn T.W9 (((C8 T).imp λ vs H Q E h => ?_).mono (Anb dkl hk)) hr T.Dw)
  obtain ⟨x, b, e, t, rfl, hk, hn, hr, ok, hw, hs, k⟩ := h
  obtain ⟨q1, q2, q3, rfl⟩ := kdJ hk
  exact ⟨x, b, e, .mo q1 q2 q3, rfl, hr, ok, hw.wi, k⟩
 |
  4, _ =>
  refine (qan T.Lz T.j5 (((C8 T).imp λ vs H Q E h => ?_).mono (Anb dkl hk)) hr T.Dw)
  obtain ⟨x, b, e, t, rfl, hk, hn, hr, ok, hw, hs, k⟩ := h
  obtain ⟨q1, q2, q3, q4, rfl⟩ := kdJ hk
  exact ⟨x, b, e, .nt q1 q2 q3 q4, rfl, hr, ok, hw.wi, k⟩
 |
  5, _ =>
  refine (qan T.C9 T.Xt (((C8 T).imp λ vs H Q E h => ?_).mono (Anb dkl hk)) hr T.Dw)
  obtain ⟨x, b, e, t, rfl, hk, hn, hr, ok, hw, hs, k⟩ := h
  obtain ⟨q1, q2, q3, q4, rfl⟩ := kdJ hk
  exact ⟨x, b, e, .yr q1 q2 q3 q4, rfl, hr, ok, hw.wi, k⟩
 |
  6, _ =>
  refine (qan T.Pc T.gw (((C8 T).imp λ vs H Q E h => ?_).mono (Anb dkl hk)) hr T.Dw)
  obtain ⟨x, b, e, t, rfl, hk, hn, hr, ok, hw, hs, k⟩ := h
  obtain ⟨q1, rfl⟩ := kdJ hk
  exact ⟨x, b, e, .dy q1, rfl, hr, ok, hw.wi, k⟩
 |
  7, _ =>
  refine (qan T.Q3 T.ai (((C8 T).imp λ vs H Q E h => ?_).mono (Anb dkl hk)) hr T.Dw)
  obtain ⟨x, b, e, t, rfl, hk, hn, hr, ok, hw, hs, k⟩ := h
  obtain ⟨q1, q2, rfl⟩ := kdJ hk
  exact ⟨x, b, e, .wh q1 q2, rfl, hr, ok, hw.wi, k⟩
 | 8, _ => exact (qan T.Ie T.Ys ((i8).mono hk) hr T.Zl)
 | 9, _ => exact (qan T.Qo T.cq ((i9).mono hk) hr T.jx)
 | 10, _ => exact (qan T.Wt T.jw ((i10).mono hk) hr T.ni)
 | 11, _ => exact (qan T.E9 T.Yq ((i11).mono hk) hr T.ag)
 | 12, _ => exact (qan T.El T.W6 ((i12).mono hk) hr T.X1)
 | 13, _ => exact (qan T.Ar T.Wh ((i13).mono hk) hr T.Yk)
def Yv (T : Vy K mg base a) (n : Nat) (IH : Xc P w K mg base a n) (ID : Y1 P w K mg base a n) : FnOk P w K mg base CX0 true (20 + n + 1) a.Fh a.Fc ["self", "begin", "end"] (spD (jd a) (n + 1) 8) := by
 refine T.Zv.gq ["self", "begin", "end"] λ cdv A outer s H vs Q E hr h => ?_
 obtain ⟨x, b, e, t, rfl, hk, hn, hr0, ok, hw, hs, k⟩ := h
 refine ⟨_, (Af (Aj (qc (se T) hr T.xk T.oo T.xo (Aa (Ax (n := 2) (D := dD a n) (qf K (qv 0)) (Aep T ID rfl rfl rfl rfl rfl hr dkl) (Aa (qv 1) (Aa (qv 2) Ad))) (Aa (Ax (n := 2) (D := dD a n) (qf K (qv 0)) (Aep T ID rfl rfl rfl rfl rfl hr dkl) (Aa (qv 1) (Aa (qv 2) Ad))) Ad))))), ?_⟩
 obtain ⟨p, q, rfl⟩ := kdJ hk
 obtain ⟨dx, y, z, hx, h1, h2⟩ := RtAt.isEi.mp hr0
 have n1 : dep p <= n /\ dep q <= n := by have : max (dep p) (dep q) + 1 <= n + 1 := hn; lia
 have hw1 : Wn n b e := by obtain ⟨h0, h1, h2, h3, h4⟩ := hw; exact ⟨dkl, dkl, dkl, dkl, dkl⟩
 have hN : DJ.Nar b e := by rcases hs with h | ⟨_, h⟩ | ⟨_, _, _, _, h, _⟩ <;> first | exact h | cases h
 obtain ⟨C1, dx1, fs1, R1, ea1, eb1, ec1, ed1⟩ := Ts (a := a) (n := n) h1 n1.1 ok.1 hw1 (.inl hN)
 refine ⟨hx, T.Ie, T.Ta, rfl, ea1, eb1, ec1, ed1 _ λ D1 H1 u1 hD1 => ?_⟩
 obtain ⟨C2, dx2, fs2, R2, ea2, eb2, ec2, ed2⟩ := Ts (a := a) (n := n) (h2.up u1) n1.2 ok.2 hw1 (.inl hN)
 refine ⟨u1 _ _ hx, T.Ie, T.Oy, rfl, ea2, eb2, ec2, ed2 _ λ D2 H2 u2 hD2 => ?_⟩
 refine ⟨D1, D2, _, _, rfl, u2 _ _ hD1, hD2, Anb (hN.few ok.1) dkd, Anb (hN.few ok.2) dkd, DR.A6 _ _ _, DR.A6 _ _ _, (λ qs nd hq => Aec hN nd λ z hz => (hq z hz).elim (λ w => nq ok.1 w) λ w => nq ok.2 w), λ D H' ms s' hD hp hm => k D H' ((u1.trans u2).trans s') (by rw [hD, DJ.Aez hp hm])⟩
def gf (T : Vy K mg base a) (n : Nat) (IH : Xc P w K mg base a n) (ID : Y1 P w K mg base a n) : FnOk P w K mg base CX0 true (20 + n + 1) a.Gv a.Gn ["self", "begin", "end"] (spD (jd a) (n + 1) 9) := by
 refine T.jv.gq ["self", "begin", "end"] λ cdv A outer s H vs Q E hr h => ?_
 obtain ⟨x, b, e, t, rfl, hk, hn, hr0, ok, hw, hs, k⟩ := h
 refine ⟨_, (Af (Aj (Sy (N := ["day", "self"]) (cap := [none, some 0]) (by show Cs (Ah Ow) _ ["self", "begin", "end"] _ _; exact ⟨rfl, dkk, dkk, dkk, dkk, rfl, dkk⟩) rfl (Rf (K := K) rfl (Ax (n := 2) (D := dD a n) (qf K (qv 0)) (Aep T ID rfl rfl rfl rfl rfl hr dkl) (Aa (qv 1) (Aa (qv 2) Ad)))) (λ C s H fp => ⟨(Hi (i := 0) (by show (["day", "self"] : List Str).Nodup; decide +kernel) rfl (Or.inl rfl) (.inr rfl)), (ku (Dz (Ax (n := 1) (D := dF a n) (qf K (qv 1)) (ox T IH rfl rfl rfl rfl rfl hr dkl) (Aa (qv 0) Ad)))), (qv 0)⟩)))), ?_⟩
 obtain ⟨p, q, rfl⟩ := kdJ hk
 obtain ⟨dx, y, z, hx, h1, h2⟩ := RtAt.isBo.mp hr0
 have n1 : dep p <= n /\ dep q <= n := by have : max (dep p) (dep q) + 1 <= n + 1 := hn; lia
 have hw1 : Wn n b e := by obtain ⟨h0, h1, h2, h3, h4⟩ := hw; exact ⟨dkl, dkl, dkl, dkl, dkl⟩
 have hN : DJ.Nar b e := by rcases hs with h | ⟨_, h⟩ | ⟨_, _, _, _, h, _⟩ <;> first | exact h | cases h
 obtain ⟨C1, dx1, fs1, R1, ea1, eb1, ec1, ed1⟩ := Ts (a := a) (n := n) h1 n1.1 ok.1 hw1 (.inl hN)
 refine ⟨hx, T.Qo, T.Xx, rfl, ea1, eb1, ec1, ed1 _ λ D1 H1 u1 hD1 => ⟨D1, rfl, ⟨_, Asf hD1⟩, ?_⟩⟩
 have hlen := hN.few ok.1
 refine La (Qf (K := K) (Asf hD1)) (Afu (ft q)) id (by rw [Am9]; lia) ?_ (λ v hv _ H' _ R hR => hR H' (Ase _)) (λ D H2 s2 hD0 hD => ?_)
 ·
  intro v hv H' sm R hR
  obtain ⟨d, hd, rfl⟩ := Anx.mp hv
  obtain ⟨d1, d2, d3⟩ := DR.A2.mp hd
  have dd := DJ.xm ok.1 d3
  have bd : Bd d := ⟨dkl, dkl⟩
  obtain ⟨C2, dx2, fs2, R2, ea2, eb2, ec2, ed2⟩ := De (a := a) (h2.up (u1.trans sm)) (n := n) n1.2 ok.2 bd
  exact ⟨(u1.trans sm) _ _ hx, T.Qo, T.Tr, rfl, ea2, eb2, ec2, ed2 _ (hR H' (Ase _))⟩
 rw [List.map_id, Ahg, DJ.Afe] at hD
 exact k D H2 (u1.trans s2) hD
def jo (T : Vy K mg base a) (n : Nat) (IH : Xc P w K mg base a n) (ID : Y1 P w K mg base a n) : FnOk P w K mg base CX0 true (20 + n + 1) a.Jd a.Jn ["self", "begin", "end"] (spD (jd a) (n + 1) 10) := by
 refine T.mi.gq ["self", "begin", "end"] λ cdv A outer s H vs Q E hr h => ?_
 obtain ⟨x, b, e, t, rfl, hk, hn, hr0, ok, hw, hs, k⟩ := h
 refine ⟨_, (Af (Aj (Sy (N := ["day", "self"]) (cap := [none, some 0]) (by show Cs (Ah Ql) _ ["self", "begin", "end"] _ _; exact ⟨rfl, dkk, dkk, dkk, dkk, rfl, dkk⟩) rfl (Rf (K := K) rfl (Ax (n := 2) (D := dD a n) (qf K (qv 0)) (Aep T ID rfl rfl rfl rfl rfl hr dkl) (Aa (qv 1) (Aa (qv 2) Ad)))) (λ C s H fp => ⟨(Hi (i := 0) (by show (["day", "self"] : List Str).Nodup; decide +kernel) rfl (Or.inl rfl) (.inr rfl)), (ku (Uz (Dz (Ax (n := 1) (D := dF a n) (qf K (qv 1)) (ox T IH rfl rfl rfl rfl rfl hr dkl) (Aa (qv 0) Ad))))), (qv 0)⟩)))), ?_⟩
 obtain ⟨p, q, rfl⟩ := kdJ hk
 obtain ⟨dx, y, z, hx, h1, h2⟩ := RtAt.isBu.mp hr0
 have n1 : dep p <= n /\ dep q <= n := by have : max (dep p) (dep q) + 1 <= n + 1 := hn; lia
 have hw1 : Wn n b e := by obtain ⟨h0, h1, h2, h3, h4⟩ := hw; exact ⟨dkl, dkl, dkl, dkl, dkl⟩
 have hN : DJ.Nar b e := by rcases hs with h | ⟨_, h⟩ | ⟨_, _, _, _, h, _⟩ <;> first | exact h | cases h
 obtain ⟨C1, dx1, fs1, R1, ea1, eb1, ec1, ed1⟩ := Ts (a := a) (n := n) h1 n1.1 ok.1 hw1 (.inl hN)
 refine ⟨hx, T.Wt, T.il, rfl, ea1, eb1, ec1, ed1 _ λ D1 H1 u1 hD1 => ⟨D1, rfl, ⟨_, Asf hD1⟩, ?_⟩⟩
 have hlen := hN.few ok.1
 refine La (Qf (K := K) (Asf hD1)) (Afu (λ d => !ft q d)) id (by rw [Am9]; lia) ?_ (λ v hv _ H' _ R hR => hR H' (Ase _)) (λ D H2 s2 hD0 hD => ?_)
 ·
  intro v hv H' sm R hR
  obtain ⟨d, hd, rfl⟩ := Anx.mp hv
  obtain ⟨d1, d2, d3⟩ := DR.A2.mp hd
  have dd := DJ.xm ok.1 d3
  have bd : Bd d := ⟨dkl, dkl⟩
  obtain ⟨C2, dx2, fs2, R2, ea2, eb2, ec2, ed2⟩ := De (a := a) (h2.up (u1.trans sm)) (n := n) n1.2 ok.2 bd
  exact ⟨(u1.trans sm) _ _ hx, T.Wt, T.Vp, rfl, ea2, eb2, ec2, ed2 _ (hR H' (Ase _))⟩
 rw [List.map_id, Ahg, DJ.Af2] at hD
 exact k D H2 (u1.trans s2) hD
def Yf (T : Vy K mg base a) (n : Nat) (IH : Xc P w K mg base a n) (ID : Y1 P w K mg base a n) : FnOk P w K mg base CX0 true (20 + n + 1) a.E8 a.Fb ["self", "begin", "end"] (spD (jd a) (n + 1) 11) := by
 refine T.Zy.gq ["self", "begin", "end"] λ cdv A outer s H vs Q E hr h => ?_
 obtain ⟨x, b, e, t, rfl, hk, hn, hr0, ok, hw, hs, k⟩ := h
 refine ⟨_, (Af (Aj (Ax (n := 2) (D := dD a n) (qf K (qv 0)) (Aep T ID rfl rfl rfl rfl rfl hr dkl) (Aa (qb (O4 rfl) T.V3 (Aa (qv 1) (Aa (qf K (qv 0)) Ad))) (Aa (qb (J1 rfl) T.Su (Aa (qv 2) (Aa (qf K (qv 0)) Ad))) Ad))))), ?_⟩
 obtain ⟨wb, we, r, rfl⟩ := kdJ hk
 obtain ⟨dx, y, hx, h1⟩ := RtAt.isWi.mp hr0
 have n1 : dep r <= n := by have : dep r + 1 <= n + 1 := hn; lia
 have hN : DJ.Nar b e := by rcases hs with h | ⟨_, h⟩ | ⟨_, _, _, _, h, _⟩ <;> first | exact h | cases h
 obtain ⟨⟨wb1, wb2, we1, we2⟩, ok2⟩ := id ok
 have hw2 : Wn n (if wb > b then wb else b) (if we < e then we else e) := by
  obtain ⟨h0, h1, h2, h3, h4⟩ := hw
  refine ⟨dkl, ?_, ?_, ?_, ?_⟩ <;> split <;> lia
 obtain ⟨C1, dx1, fs1, R1, ea1, eb1, ec1, ed1⟩ := Ts (a := a) (n := n) h1 n1 ok2 hw2 (.inl hN.wi)
 exact ⟨hx, T.E9, T.Qx, rfl, ea1, eb1, ec1, hx, T.E9, T.O5, rfl, hx, T.E9, T.Tn, rfl, ed1 _ λ D1 H1 u1 hD1 => k D1 H1 u1 (by rw [hD1, DJ.Afa])⟩
def Oa : Aw ["self", "begin", "end", "found"] ["self", "begin", "end"] (Ah Gb) := qsc
def Ww (T : Vy K mg base a) (n : Nat) (IH : Xc P w K mg base a n) (ID : Y1 P w K mg base a n) : FnOk P w K mg base CX0 true (20 + n + 1) a.Ea a.Eh ["self", "begin", "end"] (spD (jd a) (n + 1) 12) := by
 refine T.Xw.go Oa λ cdv A outer s H vs Q E hr h => ?_
 obtain ⟨x, b, e, t, rfl, hk, hn, hr0, ok, hw, hs, k⟩ := h
 refine ⟨_, (Ac (Cr 3 Oa.nd (Ax (n := 2) (D := dD a n) (qf K (qv 0)) (Aep T ID rfl rfl rfl rfl rfl hr dkl) (Aa (Ag A7 (qb (O4 rfl) T.V3 (Aa (qv 1) (Aa Ab Ad))) (qf K (qv 0))) (Aa (Ag A7 (qb (J1 rfl) T.Su (Aa (qv 2) (Aa (B8 rfl T.N6) Ad))) (qf K (qv 0))) Ad))))
  (Af (Aj (Sy (N := ["day", "self"]) (cap := [none, some 0]) (by show Cs (Ah Gb) _ ["self", "begin", "end", "found"] _ _; exact ⟨rfl, dkk, dkk, dkk, dkk, rfl, dkk⟩) rfl (Rf (K := K) rfl (qv 3)) (λ C s H fp => ⟨(Hi (i := 0) (by show (["day", "self"] : List Str).Nodup; decide +kernel) rfl (Or.inl rfl) (.inr rfl)), Vi, (Ag Ap (qv 0) (qf K (qv 1)))⟩))))), ?_⟩
 obtain ⟨m, r, rfl⟩ := kdJ hk
 obtain ⟨dx, y, hx, h1⟩ := RtAt.isSh.mp hr0
 have n1 : dep r <= n := by have : dep r + 1 <= n + 1 := hn; lia
 have hN : DJ.Nar b e := by rcases hs with h | ⟨_, h⟩ | ⟨_, _, _, _, h, _⟩ <;> first | exact h | cases h
 obtain ⟨⟨m1, m2⟩, ok2⟩ := id ok
 have hw2 : Wn n ((if 0 > b then 0 else b) - m) ((if 146097 < e then 146097 else e) - m) := by
  obtain ⟨h0, h1, h2, h3, h4⟩ := hw
  refine ⟨dkl, ?_, ?_, ?_, ?_⟩ <;> split <;> lia
 obtain ⟨C1, dx1, fs1, R1, ea1, eb1, ec1, ed1⟩ := Ts (a := a) (n := n) h1 n1 ok2 hw2 (.inl hN.sh)
 refine ⟨hx, T.El, T.O7, rfl, ea1, eb1, ec1, hx, T.El, T.Gx, rfl, hx, T.El, T.Gx, rfl, ed1 _ λ D1 H1 u1 hD1 => ⟨D1, rfl, ⟨_, Asf hD1⟩, ?_⟩⟩
 have hlen := (hN.sh (n := m)).few ok2
 refine La (Qf (K := K) (Asf hD1)) (λ _ => true) (λ v => match v with | .int d => .int (d + m) | v => v) (by rw [Am9]; lia) (λ _ _ H' _ R hR => hR H' (Ase _)) ?_ (λ D H2 s2 hD0 hD => ?_)
 ·
  intro v hv _ H' sm R hR
  obtain ⟨d, hd, rfl⟩ := Anx.mp hv
  exact ⟨(u1.trans sm) _ _ hx, T.El, T.Gx, rfl, hR H' (Ase _)⟩
 refine k D H2 (u1.trans s2) ?_
 conv => whnf
 rw [hD, Aqq.mpr (λ _ _ => rfl), Ao2, ← DJ.Agn, Ao2]
 rfl
def Jm : Aw ["self", "begin", "end", "kept", "gained"] ["self", "begin", "end"] (Ah Ge) := qsc
def Xm (T : Vy K mg base a) (n : Nat) (IH : Xc P w K mg base a n) (ID : Y1 P w K mg base a n) : FnOk P w K mg base CX0 true (20 + n + 1) a.Ei a.Ek ["self", "begin", "end"] (spD (jd a) (n + 1) 13) := by
 refine T.X6.go Jm λ cdv A outer s H vs Q E hr h => ?_
 obtain ⟨x, b, e, t, rfl, hk, hn, hr0, ok, hw, hs, k⟩ := h
 refine ⟨_, (Ac (Ph (i0 := 3) Jm.nd rfl rfl (N := ["day", "self"]) (cap := [none, some 0]) (by show Cs (Ah Ge) _ ["self", "begin", "end", "kept", "gained"] _ _; exact ⟨rfl, dkk, dkk, dkk, dkk, rfl, dkk⟩) rfl (Rf (K := K) rfl (Ax (n := 2) (D := dD a n) (qf K (qv 0)) (Aep T ID rfl rfl rfl rfl rfl hr dkl) (Aa (qv 1) (Aa (qv 2) Ad)))) (λ C s H fp => ⟨(Hi (i := 0) (by show (["day", "self"] : List Str).Nodup; decide +kernel) rfl (Or.inl rfl) (.inr rfl)), (ku (Ahc (qd (Abx hr) (qv 0) (qf K (qv 1))) (by with_unfolding_all rfl))), (qv 0)⟩))
  (Ac (Cr 4 Jm.nd (me Aac (qf K (qv 0)) (lu (qc (Kq T) hr T.Mi T.Ir T.Mf (Aa (qf K (qv 0)) (Aa (qv 1) Ad)))) (lu (qc (Kq T) hr T.Mi T.Ir T.Mf (Aa (qf K (qv 0)) (Aa (qv 2) Ad))))))
  (Af (Aj (qc (se T) hr T.xk T.oo T.xo (Aa (qv 3) (Aa (qty (Xs (K := K) rfl) T.V4 (Aa (qv 4) Ad)) Ad))))))), ?_⟩
 obtain ⟨r, ls, ms, mv, rfl⟩ := kdJ hk
 obtain ⟨dx, y, p, q, o, g, l, gs, kvs, hx, h1, ⟨hg, hr1, hgl, hgm⟩, hl, hlm⟩ := RtAt.isCh.mp hr0
 have n1 : dep r <= n := by have : dep r + 1 <= n + 1 := hn; lia
 have hw1 : Wn n b e := by obtain ⟨h0, h1, h2, h3, h4⟩ := hw; exact ⟨dkl, dkl, dkl, dkl, dkl⟩
 have hs2 : Sz r b e := by
  rcases hs with h | ⟨_, h⟩ | ⟨_, _, _, _, h, _⟩
  · exact .inl h
  · cases h
  · cases h; exact .inr (.inl ⟨_, rfl⟩)
 have hlen : (days (ft r) b e).length <= 1000 := by
  rcases hs2 with h | ⟨ds, rfl⟩ | ⟨ds, ls', ms', mv', rfl, _⟩
  · exact h.few ok.1
  ·
   have hds : ds.length <= 50 /\ ∀ k ∈ ds, 0 <= k /\ k < 146097 := ok.1
   have := cb ((DR.A6 (ft (.s (.dy ds))) b e).imp λ h => by lia) λ z hz => Am8 (DR.A2.mp hz).2.2
   lia
  ·
   rcases hs with h | ⟨_, h⟩ | ⟨_, _, _, _, h, _⟩
   · exact h.few ok.1
   · cases h
   · cases h
 obtain ⟨C1, dx1, fs1, R1, ea1, eb1, ec1, ed1⟩ := Ts (a := a) (n := n) h1 n1 ok.1 hw1 hs2
 refine ⟨hx, T.Ar, T.Kx, rfl, ea1, eb1, ec1, ed1 _ λ D1 H1 u1 hD1 => ⟨D1, rfl, ⟨_, Asf hD1⟩, ?_⟩⟩
 refine La (Qf (K := K) (Asf hD1)) (Afu (λ d => !decide (d ∈ oy ls mv))) id (by rw [Am9]; lia) ?_ (λ v hv _ H' _ R hR => hR H' (Ase _)) (λ D H2 s2 hD0 hD => ?_)
 ·
  intro v hv H' sm R hR
  obtain ⟨d, hd, rfl⟩ := Anx.mp hv
  refine ⟨(u1.trans sm) _ _ hx, T.Ar, T.Ox, rfl, l, _, rfl, DGet.k (k := Sum.inl d) ((u1.trans sm) _ _ hl), _, rfl, ?_⟩
  conv => whnf
  rw [hlm d]
  exact hR H' (Ase _)
 rw [List.map_id, Ahg] at hD
 have S2 := u1.trans s2
 have bl := DC.bz gs b
 have el := DC.bz gs e
 refine ⟨S2 _ _ hx, T.Ar, T.Cq, rfl, S2 _ _ hx, T.Ar, T.Cq, rfl, g, gs, b, rfl, Asd (S2 _ _ hg), hr1, dkl, _, rfl, S2 _ _ hx, T.Ar, T.Cq, rfl, g, gs, e, rfl, Asd (S2 _ _ hg), hr1, dkl, _, rfl, g, _, rfl, S2 _ _ hg, λ p2 H3 s3 hp2 => ?_⟩
 rw [Afs (by rw [Am9]; exact el) (by rw [Am9]; exact bl), ← List.map_take, ← List.map_drop] at hp2
 refine ⟨p2, _, rfl, .inr (Asd hp2), λ l4 hl4 => ?_⟩
 have s4 := Ai (o := .lst (((gs.take (DC.below gs e)).drop (DC.below gs b)).map V.int)) hl4
 refine ⟨D, l4, _, _, rfl, s4 _ _ (s3 _ _ hD), Ae, ?_, ?_, (DR.A6 _ _ _).filter _, (hr1.sublist (List.take_sublist _ _)).sublist (List.drop_sublist _ _), ?_, λ D5 H5 ms5 s5 hD5 hp5 hm5 => ?_⟩
 · exact Anb (Apc _ _) dkl
 ·
  rw [Asc, Aoy]
  lia
 ·
  intro qs nd hq
  rcases hs with h | ⟨_, h⟩ | ⟨ds, _, _, _, h, h40⟩
  ·
   refine Aec h nd λ z hz => ?_
   rcases hq z hz with w | w
   · exact nq ok.1 (Aoj.mp w).1
   ·
    obtain ⟨w1, w2, w3⟩ := (DJ.v9 hr1 z).mp w
    have := DJ.Abg ok.2.2.2.1 ok.2.2.2.2 ((hgm z).mp w1)
    exact ⟨w2, w3, this.1, this.2⟩
  · cases h
  ·
   cases h
   have hl := cb (ds := ds ++ gs) nd λ z hz => by
    rcases hq z hz with w | w
    · exact Apd _ (Am8 (DR.A2.mp (Aoj.mp w).1).2.2)
    · exact Ant _ (List.mem_of_mem_take (List.mem_of_mem_drop w))
   rw [Anj] at hl
   lia
 refine k D5 H5 (((S2.trans s3).trans s4).trans s5) ?_
 conv => whnf
 rw [hD5, DJ.Afw hp5 hgm λ z => by rw [hm5, DJ.v9 hr1]]
theorem Wv (T : Vy K mg base a) (n : Nat) (IH : Xc P w K mg base a n) : FnOk P w K mg base CX0 true (20 + n + 1) a.Em a.Ee ["self", "day"] (spF (jd a) (n + 1) 8) := by
 refine T.Yd.gq ["self", "day"] λ cdv A outer s H vs Q E hr h => ?_
 obtain ⟨x, d, t, rfl, hk, hn, hr0, ok, bd, k⟩ := h
 refine ⟨_, (Af (Aj (zt (Ax (n := 1) (D := dF a n) (qf K (qv 0)) (ox T IH rfl rfl rfl rfl rfl hr dkl) (Aa (qv 1) Ad)) (Dk (Ax (n := 1) (D := dF a n) (qf K (qv 0)) (ox T IH rfl rfl rfl rfl rfl hr dkl) (Aa (qv 1) Ad)))))), ?_⟩
 obtain ⟨p, q, rfl⟩ := kdJ hk
 obtain ⟨dx, y, z, hx, h1, h2⟩ := RtAt.isEi.mp hr0
 have n1 : dep p <= n /\ dep q <= n := by have : max (dep p) (dep q) + 1 <= n + 1 := hn; lia
 obtain ⟨C1, dx1, fs1, R1, ea1, eb1, ec1, ed1⟩ := De (a := a) h1 (n := n) n1.1 ok.1 bd
 obtain ⟨C2, dx2, fs2, R2, ea2, eb2, ec2, ed2⟩ := De (a := a) h2 (n := n) n1.2 ok.2 bd
 refine ⟨hx, T.Ie, T.Ta, rfl, ea1, eb1, ec1, ed1 _ ?_⟩
 have k0 : Q (.bl (ft p d || ft q d)) H := k
 conv => whnf
 cases e : ft p d with
 | true => rw [e] at k0; exact F4 k0
 |
  false =>
  rw [e] at k0
  exact Ct ⟨hx, T.Ie, T.Oy, rfl, ea2, eb2, ec2, ed2 _ k0⟩
theorem Z1 (T : Vy K mg base a) (n : Nat) (IH : Xc P w K mg base a n) : FnOk P w K mg base CX0 true (20 + n + 1) a.F1 a.Fu ["self", "day"] (spF (jd a) (n + 1) 9) := by
 refine T.ib.gq ["self", "day"] λ cdv A outer s H vs Q E hr h => ?_
 obtain ⟨x, d, t, rfl, hk, hn, hr0, ok, bd, k⟩ := h
 refine ⟨_, (Af (Aj (Dx (Ax (n := 1) (D := dF a n) (qf K (qv 0)) (ox T IH rfl rfl rfl rfl rfl hr dkl) (Aa (qv 1) Ad)) (Dk (Ax (n := 1) (D := dF a n) (qf K (qv 0)) (ox T IH rfl rfl rfl rfl rfl hr dkl) (Aa (qv 1) Ad)))))), ?_⟩
 obtain ⟨p, q, rfl⟩ := kdJ hk
 obtain ⟨dx, y, z, hx, h1, h2⟩ := RtAt.isBo.mp hr0
 have n1 : dep p <= n /\ dep q <= n := by have : max (dep p) (dep q) + 1 <= n + 1 := hn; lia
 obtain ⟨C1, dx1, fs1, R1, ea1, eb1, ec1, ed1⟩ := De (a := a) h1 (n := n) n1.1 ok.1 bd
 obtain ⟨C2, dx2, fs2, R2, ea2, eb2, ec2, ed2⟩ := De (a := a) h2 (n := n) n1.2 ok.2 bd
 refine ⟨hx, T.Qo, T.Xx, rfl, ea1, eb1, ec1, ed1 _ ?_⟩
 have k0 : Q (.bl (ft p d && ft q d)) H := k
 conv => whnf
 cases e : ft p d with
 | false => rw [e] at k0; exact Ct k0
 |
  true =>
  rw [e] at k0
  exact F4 ⟨hx, T.Qo, T.Tr, rfl, ea2, eb2, ec2, ed2 _ k0⟩
theorem dh (T : Vy K mg base a) (n : Nat) (IH : Xc P w K mg base a n) : FnOk P w K mg base CX0 true (20 + n + 1) a.Gw a.Gp ["self", "day"] (spF (jd a) (n + 1) 10) := by
 refine T.i5.gq ["self", "day"] λ cdv A outer s H vs Q E hr h => ?_
 obtain ⟨x, d, t, rfl, hk, hn, hr0, ok, bd, k⟩ := h
 refine ⟨_, (Af (Aj (Dx (Ax (n := 1) (D := dF a n) (qf K (qv 0)) (ox T IH rfl rfl rfl rfl rfl hr dkl) (Aa (qv 1) Ad)) (Dk (Abo (Ax (n := 1) (D := dF a n) (qf K (qv 0)) (ox T IH rfl rfl rfl rfl rfl hr dkl) (Aa (qv 1) Ad))))))), ?_⟩
 obtain ⟨p, q, rfl⟩ := kdJ hk
 obtain ⟨dx, y, z, hx, h1, h2⟩ := RtAt.isBu.mp hr0
 have n1 : dep p <= n /\ dep q <= n := by have : max (dep p) (dep q) + 1 <= n + 1 := hn; lia
 obtain ⟨C1, dx1, fs1, R1, ea1, eb1, ec1, ed1⟩ := De (a := a) h1 (n := n) n1.1 ok.1 bd
 obtain ⟨C2, dx2, fs2, R2, ea2, eb2, ec2, ed2⟩ := De (a := a) h2 (n := n) n1.2 ok.2 bd
 refine ⟨hx, T.Wt, T.il, rfl, ea1, eb1, ec1, ed1 _ ?_⟩
 have k0 : Q (.bl (ft p d && !ft q d)) H := k
 conv => whnf
 cases e : ft p d with
 | false => rw [e] at k0; exact Ct k0
 |
  true =>
  rw [e] at k0
  exact F4 ⟨hx, T.Wt, T.Vp, rfl, ea2, eb2, ec2, ed2 _ (k0)⟩
theorem Wu (T : Vy K mg base a) (n : Nat) (IH : Xc P w K mg base a n) : FnOk P w K mg base CX0 true (20 + n + 1) a.Ed a.Eb ["self", "day"] (spF (jd a) (n + 1) 11) := by
 refine T.Yl.gq ["self", "day"] λ cdv A outer s H vs Q E hr h => ?_
 obtain ⟨x, d, t, rfl, hk, hn, hr0, ok, bd, k⟩ := h
 refine ⟨_, (Af (Aj (Dx (mj jn Ni (qf K (qv 0)) (qv 1) (qf K (qv 0))) (Dk (Ax (n := 1) (D := dF a n) (qf K (qv 0)) (ox T IH rfl rfl rfl rfl rfl hr dkl) (Aa (qv 1) Ad)))))), ?_⟩
 obtain ⟨wb, we, r, rfl⟩ := kdJ hk
 obtain ⟨dx, y, hx, h1⟩ := RtAt.isWi.mp hr0
 have n1 : dep r <= n := by have : dep r + 1 <= n + 1 := hn; lia
 obtain ⟨C1, dx1, fs1, R1, ea1, eb1, ec1, ed1⟩ := De (a := a) h1 (n := n) n1 ok.2 bd
 have k0 : Q (.bl ((decide (wb <= d) && decide (d < we)) && ft r d)) H := k
 refine ⟨hx, T.E9, T.O5, rfl, ?_⟩
 conv => whnf
 cases e1 : decide (wb <= d) with
 | false => rw [e1] at k0; exact Ct (Ct k0)
 |
  true =>
  rw [e1, An1] at k0
  refine F4 ⟨hx, T.E9, T.Tn, rfl, ?_⟩
  conv => whnf
  cases e2 : decide (d < we) with
  | false => rw [e2] at k0; exact Ct k0
  |
   true =>
   rw [e2, An1] at k0
   exact F4 ⟨hx, T.E9, T.Qx, rfl, ea1, eb1, ec1, ed1 _ k0⟩
theorem Vj (T : Vy K mg base a) (n : Nat) (IH : Xc P w K mg base a n) : FnOk P w K mg base CX0 true (20 + n + 1) a.Dr a.Dl ["self", "day"] (spF (jd a) (n + 1) 12) := by
 refine T.Wx.gq ["self", "day"] λ cdv A outer s H vs Q E hr h => ?_
 obtain ⟨x, d, t, rfl, hk, hn, hr0, ok, bd, k⟩ := h
 refine ⟨_, (Af (Aj (Dx (qc (M1 T) hr T.Ri T.Nz T.Qk (Aa (qv 1) Ad)) (Dk (Ax (n := 1) (D := dF a n) (qf K (qv 0)) (ox T IH rfl rfl rfl rfl rfl hr dkl) (Aa (Ag A7 (qv 1) (qf K (qv 0))) Ad)))))), ?_⟩
 obtain ⟨m, r, rfl⟩ := kdJ hk
 obtain ⟨dx, y, hx, h1⟩ := RtAt.isSh.mp hr0
 have n1 : dep r <= n := by have : dep r + 1 <= n + 1 := hn; lia
 have k0 : Q (.bl (isD d && ft r (d - m))) H := k
 refine ⟨d, rfl, ?_⟩
 conv => whnf
 cases e1 : isD d with
 | false => rw [e1] at k0; exact Ct k0
 |
  true =>
  rw [e1, An1] at k0
  have hd2 := DF.Na.mp e1
  have hm := ok.1
  have bd2 : Bd (d - m) := ⟨dkl, dkl⟩
  obtain ⟨C1, dx1, fs1, R1, ea1, eb1, ec1, ed1⟩ := De (a := a) h1 (n := n) n1 ok.2 bd2
  exact F4 ⟨hx, T.El, T.O7, rfl, ea1, eb1, ec1, hx, T.El, T.Gx, rfl, ed1 _ k0⟩
def K4 : Aw ["self", "day", "place"] ["self", "day"] (Ah Gk) := qsc
def Ti : Fk P w T 2 a.D6 a.D3 ["self", "day"] (K8 a.Ak) := by
 refine T.Ur.go K4 λ cdv A outer s H vs Q E hr h => ?_
 obtain ⟨x, dx, y, p, q, o, g, l, gs, d, rfl, hx, hg, hr1, hl, k⟩ := h
 refine ⟨_, (Ac (Cr 2 K4.nd (qc (Kq T) hr T.Mi T.Ir T.Mf (Aa (qf K (qv 0)) (Aa (qv 1) Ad))))
  (Af (Aj (Dx (A8 Ni (qv 2) (qb (Ds (K := K) rfl) T.Zs (Aa (qf K (qv 0)) Ad)) (Am _)) (Dk (A8 Be (qix K (qf K (qv 0)) (qv 2)) (qv 1) (Am _))))))), ?_⟩
 refine ⟨hx, T.Ar, T.Cq, rfl, g, gs, d, rfl, Asd hg, hr1, dkl, ?_⟩
 refine ⟨hx, T.Ar, T.Cq, rfl, g, _, rfl, .inr (Asd hg), ?_⟩
 conv => whnf
 have hb := DC.bz gs d
 rw [Am9]
 by_cases hlt : DC.below gs d < gs.length
 ·
  rw [Am6 (by lia : ((DC.below gs d : Nat) : Int) < (gs.length : Nat))]
  have hget : (gs.map V.int)[DC.below gs d]? = some (.int gs[DC.below gs d]) := by rw [Anu, An6 hlt]; rfl
  refine F4 ⟨hx, T.Ar, T.Cq, rfl, Asd hg, (by rw [Q1]; exact hget), ?_⟩
  conv => whnf
  rw [Sb]
  have e : decide (gs[DC.below gs d] = d) = decide (d ∈ gs) := by
   rw [Aop, ← DJ.xh hr1]
   exact ⟨λ e => ⟨_, An6 hlt, e⟩, λ ⟨a, h1, h2⟩ => by rw [An6 hlt] at h1; cases h1; exact h2⟩
  rw [e]
  exact k
 ·
  rw [Ane (by lia : ¬ ((DC.below gs d : Nat) : Int) < (gs.length : Nat))]
  refine Ct ?_
  have e : decide (d ∈ gs) = false := Ane λ w => by
   obtain ⟨a, h1, _⟩ := (DJ.xh hr1).mpr w
   exact hlt (Ang.mp h1).1
  rw [e] at k
  exact k
theorem Vf (T : Vy K mg base a) (n : Nat) (IH : Xc P w K mg base a n) : FnOk P w K mg base CX0 true (20 + n + 1) a.Dn a.Dq ["self", "day"] (spF (jd a) (n + 1) 13) := by
 refine T.V7.gq ["self", "day"] λ cdv A outer s H vs Q E hr h => ?_
 obtain ⟨x, d, t, rfl, hk, hn, hr0, ok, bd, k⟩ := h
 refine ⟨_, (Af (Aj (zt (Ax (n := 1) (D := λ C R => (C = a.Ak /\ R = λ x vs H Q => (K8 a.Ak) (x :: (vs ++ ([] : List V))) H Q E0)) (qv 0) (by rintro C R ⟨rfl, rfl⟩ <;> first | exact (qan T.Ar T.Tq ((Ti T).mono dkl) hr T.Ut)) (Aa (qv 1) Ad)) (Dk (Dx (Ahz (qd (Abx hr) (qv 1) (qf K (qv 0))) (by with_unfolding_all rfl)) (Dk (Ax (n := 1) (D := dF a n) (qf K (qv 0)) (ox T IH rfl rfl rfl rfl rfl hr dkl) (Aa (qv 1) Ad)))))))), ?_⟩
 obtain ⟨r, ls, ms, mv, rfl⟩ := kdJ hk
 obtain ⟨dx, y, p, q, o, g, l, gs, kvs, hx, h1, ⟨hg, hr1, hgl, hgm⟩, hl, hlm⟩ := RtAt.isCh.mp hr0
 have n1 : dep r <= n := by have : dep r + 1 <= n + 1 := hn; lia
 obtain ⟨C1, dx1, fs1, R1, ea1, eb1, ec1, ed1⟩ := De (a := a) h1 (n := n) n1 ok.1 bd
 have k0 : Q (.bl (decide (d ∈ Qh (ft r) ls ms mv) || (!decide (d ∈ oy ls mv) && ft r d))) H := k
 have eg : decide (d ∈ gs) = decide (d ∈ Qh (ft r) ls ms mv) := by rw [Aop]; exact hgm d
 rw [← eg] at k0
 refine ⟨hx, rfl, ⟨rfl, rfl⟩, x, dx, y, p, q, o, g, l, gs, d, rfl, hx, hg, hr1, hgl, ?_⟩
 conv => whnf
 cases e1 : decide (d ∈ gs) with
 | true => rw [e1] at k0; exact F4 k0
 |
  false =>
  rw [e1, Bool.false_or] at k0
  refine Ct ⟨hx, T.Ar, T.Ox, rfl, l, _, rfl, DGet.k (k := Sum.inl d) hl, ?_⟩
  conv => whnf
  rw [hlm d]
  cases e2 : decide (d ∈ oy ls mv) with
  | true => rw [e2] at k0; exact Ct k0
  |
   false =>
   rw [e2] at k0
   exact F4 ⟨hx, T.Ar, T.Kx, rfl, ea1, eb1, ec1, ed1 _ k0⟩
def Ag1 (hi : 8 <= i) : FnOk P w K mg base CX0 true (20 + 0) f fd ["self", "day"] (spF (jd a) 0 i) := by
 have no : ∀ {vs : List V} {H : Hp} {Q : VK} {E : XK}, spF (jd a) 0 i vs H Q E -> False := λ h => by
  obtain ⟨x, d, t, rfl, hk, hd, _⟩ := h
  exact Alm hk hi hd
 exact ⟨λ vs H Q E h => (no h).elim, λ A outer s H args us vs Q E _ _ _ _ h => (no h).elim⟩
theorem Ij (T : Vy K mg base a) : ∀ n, Xc P w K mg base a n
 | 0 => ⟨Ag1 dkd, Ag1 dkd, Ag1 dkd, Ag1 dkd, Ag1 dkd, Ag1 dkd⟩
 | n + 1 => have IH := Ij T n; ⟨Wv T n IH, Z1 T n IH, dh T n IH, Wu T n IH, Vj T n IH, Vf T n IH⟩
def Ag2 (hi : 8 <= i) : FnOk P w K mg base CX0 true (20 + 0) f fd ["self", "begin", "end"] (spD (jd a) 0 i) := by
 have no : ∀ {vs : List V} {H : Hp} {Q : VK} {E : XK}, spD (jd a) 0 i vs H Q E -> False := λ h => by
  obtain ⟨x, b, e, t, rfl, hk, hd, _⟩ := h
  exact Alm hk hi hd
 exact ⟨λ vs H Q E h => (no h).elim, λ A outer s H args us vs Q E _ _ _ _ h => (no h).elim⟩
theorem bx (T : Vy K mg base a) : ∀ n, Y1 P w K mg base a n
 | 0 => ⟨Ag2 dkd, Ag2 dkd, Ag2 dkd, Ag2 dkd, Ag2 dkd, Ag2 dkd⟩
 | n + 1 => have ID := bx T n; have IH := Ij T n; ⟨Yv T n IH ID, gf T n IH ID, jo T n IH ID, Yf T n IH ID, Ww T n IH ID, Xm T n IH ID⟩
def Bn : Aw ["self", "day", "end", "begin", "stop", "width", "upto", "found"] ["self", "day", "end"] (Ah Bj) := qsc
def B5 (T : Vy K mg base a) (n : Nat) : FnOk P w K mg base CX0 true (30 + n + 1) a.Bk a.Fd ["self", "day", "end"] (spJ (jd a) n) := by
 refine T.Zp.go Bn λ cdv A outer s H vs Q E hr h => ?_
 obtain ⟨i, x, b, e, t, rfl, hk, hn, hr0, ok, hw, hs, k⟩ := h
 refine ⟨_, (Ac (Cr 3 Bn.nd (qb (O4 rfl) T.V3 (Aa (qv 1) (Aa Ab Ad))))
  (Ac (Cr 4 Bn.nd (qb (J1 rfl) T.Su (Aa (qv 2) (Aa (B8 rfl T.N6) Ad))))
  (Ac (Cr 5 Bn.nd (B8 rfl T.Jg))
  (Ac (Uq Aof (Al Ni (qv 3) (qv 4) (Am _)) (Ac (Cr 6 Bn.nd (qb (J1 rfl) T.Su (Aa (Ag Ap (qv 3) (qv 5)) (Aa (qv 4) Ad))))
  (Ac (Cr 7 Bn.nd (Ax (n := 2) (D := dD a n) (qv 0) (Aep T (bx T n) rfl rfl rfl rfl rfl hr dkl) (Aa (qv 3) (Aa (qv 6) Ad))))
  (Ac (A4 (bh (qv 7) (λ _ => rfl)) (Af (Aj (qil K (qv 7) Ab))) Ao)
  (Ac (Cr 3 Bn.nd (qv 6))
  (Af (wg (i := 5) Bn.nd rfl (Or.inl rfl) (qv 5) wt)))))))
  (Af (Aj Gq)))))), ?_⟩
 conv => whnf
 generalize hlo : (if 0 > b then 0 else b) = lo
 have l1 : 0 <= lo /\ b <= lo := by rw [← hlo]; split <;> lia
 have l2 : ∀ k, b <= k -> k < lo -> k < 0 := λ k h1 h2 => by rw [← hlo] at h2; split at h2 <;> lia
 generalize hhi : (if 146097 < e then 146097 else e) = hi
 have u1 : hi <= e /\ hi <= 146097 := by rw [← hhi]; split <;> lia
 have u2 : e <= hi ∨ 146097 <= hi := by rw [← hhi]; split <;> lia
 refine ⟨λ m σ H' => ∃ (c wd : Int) (y1 y2 : Option V), m = (hi - c).toNat /\ lo <= c /\ (∀ k, b <= k -> k < c -> ft t k = false) /\ 4 <= wd /\ Same H H' /\ σ = [some (.ref x), some (.int b), some (.int e), some (.int c), some (.int hi), some (.int wd), y1, y2], ⟨_, lo, 4, _, _, rfl, Arv _, (λ k h1 h2 => DJ.Nh ok (.inl (l2 k h1 h2))), dkd, Ase _, rfl⟩, ?_⟩
 rintro m σ H1 ⟨c, wd, y1, y2, rfl, hc, hno, hwd, s1, rfl⟩
 refine ⟨λ z => ?_, λ z => ?_⟩
 ·
  have hlt : c < hi := Am8 z
  refine ⟨λ σ' H' => ∃ m', m' < (hi - c).toNat /\ ∃ (c wd : Int) (y1 y2 : Option V), m' = (hi - c).toNat /\ lo <= c /\ (∀ k, b <= k -> k < c -> ft t k = false) /\ 4 <= wd /\ Same H H' /\ σ' = [some (.ref x), some (.int b), some (.int e), some (.int c), some (.int hi), some (.int wd), y1, y2], λ σ' H' h => h, ?_⟩
  conv => whnf
  generalize hup : (if hi < c + wd then hi else c + wd) = up
  have hu : c < up /\ up <= hi := by rw [← hup]; split <;> lia
  have hw2 : Wn n c up := by
   obtain ⟨h0, h1, h2, h3, h4⟩ := hw
   exact ⟨h0, dkl, dkl, dkl, dkl⟩
  obtain ⟨C1, dx1, fs1, R1, ea1, eb1, ec1, ed1⟩ := Ts (a := a) (n := n) (hr0.up s1) hn ok hw2 (hs.sub dkl dkl dkl)
  refine ⟨ea1, eb1, ec1, ed1 _ λ D1 H2 s2 hD1 => ?_⟩
  refine ⟨_, .inl ⟨_, Asf hD1, rfl⟩, ?_⟩
  conv => whnf
  cases hds : days (ft t) c up with
  |
   nil =>
   have hn0 := v8 hds
   refine Ct ⟨_, rfl, _, _, rfl, rfl, (hi - up).toNat, dkl, up, wd + wd, _, _, rfl, dkl, λ q q1 q2 => ?_, dkl, s1.trans s2, rfl⟩
   by_cases hq : q < c
   · exact hno q q1 hq
   · exact hn0 q dkl q2
  |
   cons d ds =>
   obtain ⟨a1, a2, a3, a4⟩ := r8 hds
   rw [hds] at hD1
   refine F4 ⟨Asf hD1, (by show atI _ ((0 : Nat) : Int) = _; rw [Q1]; rfl), k (some d) _ (s1.trans s2) ⟨dkl, dkl, a3, λ q q1 q2 => ?_⟩⟩
   by_cases hq : q < c
   · exact hno q q1 hq
   · exact a4 q dkl q2
 ·
  have hge : ¬ c < hi := λ w => z (Am6 w)
  refine k none _ s1 λ q q1 q2 => ?_
  by_cases hq : q < c
  · exact hno q q1 hq
  · exact DJ.Nh ok dkl
def Z3 : Fk P w T 1 a.Jp a.Hy ["self", "one", "other"] (Vo a.Bi) := by
 refine T.ef.gq ["self", "one", "other"] λ cdv A outer s H vs Q E hr h => ?_
 obtain ⟨x, dx, y, z, rfl, hx, k⟩ := h
 refine ⟨_, (Ac (Ci (K := K) rfl (qv 0) (qv 1))
  (Af (Ci (K := K) rfl (qv 0) (qv 2)))), ?_⟩
 refine ⟨hx, T.Ie, T.Ta, ?_⟩
 refine ⟨Ae, T.Ie, T.Oy, ?_⟩
 exact k _ (λ c u hc e => by rw [An hc, An hc]; exact e) Ae
def ka : Fk P w T 1 a.Mn a.Ml ["self", "one", "other"] (Vo a.En) := by
 refine T.og.gq ["self", "one", "other"] λ cdv A outer s H vs Q E hr h => ?_
 obtain ⟨x, dx, y, z, rfl, hx, k⟩ := h
 refine ⟨_, (Ac (Ci (K := K) rfl (qv 0) (qv 1))
  (Af (Ci (K := K) rfl (qv 0) (qv 2)))), ?_⟩
 refine ⟨hx, T.Qo, T.Xx, ?_⟩
 refine ⟨Ae, T.Qo, T.Tr, ?_⟩
 exact k _ (λ c u hc e => by rw [An hc, An hc]; exact e) Ae
def nz : Fk P w T 1 a.Om a.Nr ["self", "one", "other"] (Vo a.Lc) := by
 refine T.sv.gq ["self", "one", "other"] λ cdv A outer s H vs Q E hr h => ?_
 obtain ⟨x, dx, y, z, rfl, hx, k⟩ := h
 refine ⟨_, (Ac (Ci (K := K) rfl (qv 0) (qv 1))
  (Af (Ci (K := K) rfl (qv 0) (qv 2)))), ?_⟩
 refine ⟨hx, T.Wt, T.il, ?_⟩
 refine ⟨Ae, T.Wt, T.Vp, ?_⟩
 exact k _ (λ c u hc e => by rw [An hc, An hc]; exact e) Ae
def ao : Fk P w T 1 a.Iu a.Im ["self", "rule", "begin", "end"] (jj a.Bf) := by
 refine T.gz.gq ["self", "rule", "begin", "end"] λ cdv A outer s H vs Q E hr h => ?_
 obtain ⟨x, dx, y, b, e, rfl, hx, k⟩ := h
 refine ⟨_, (Ac (Ci (K := K) rfl (qv 0) (qv 1))
  (Ac (Ci (K := K) rfl (qv 0) (qv 2))
  (Af (Ci (K := K) rfl (qv 0) (qv 3))))), ?_⟩
 refine ⟨hx, T.E9, T.Qx, ?_⟩
 refine ⟨Ae, T.E9, T.O5, ?_⟩
 refine ⟨Ae, T.E9, T.Tn, ?_⟩
 exact k _ (λ c u hc e => by rw [An hc, An hc, An hc]; exact e) Ae
def Jt : Aw ["self", "goals"] ["self"] (Ah Dt) := qsc
def Sd (T : Vy K mg base a) (n : Nat) : FnOk P w K mg base CX0 true (20 + n + 1) a.Dj a.Du ["self"] (U3 (jd a) n) := by
 refine T.S7.go Jt λ cdv A outer s H vs Q E hr h => ?_
 obtain ⟨x, dx, y, p, q, o, r, ls, ms, mv, rfl, hx, hr0, hn, ok, hp, hq, ⟨rs, ho, hok, rfl⟩, ⟨⟨l1, l2, l3⟩, hls, hms, hmv⟩, k⟩ := h
 refine ⟨_, (Ac (Ph (i0 := 1) Jt.nd rfl rfl (N := ["day", "goal", "self"]) (cap := [none, none, some 0]) (by show Cs (Ah Dt) _ ["self", "goals"] _ _; exact ⟨rfl, dkk, dkk, dkk, dkk, rfl, dkk⟩) rfl (Sw (K := K) rfl (qf K (qv 0))) (λ C s H fp => ⟨(Af4 (K := K) (n := 2) rfl rfl (F9 (Hi (i := 0) (by show (["day", "goal", "self"] : List Str).Nodup; decide +kernel) rfl (Or.inl rfl) (.inr rfl)) (F9 (Hi (i := 1) (by show (["day", "goal", "self"] : List Str).Nodup; decide +kernel) rfl (Or.inl rfl) (.inr rfl)) fk))), (ku (Asg (M9 (Al (V0 (K := K) rfl) (qv 0) (qf K (qv 2)) (by with_unfolding_all rfl)) (Hx (Dz (Ax (n := 1) (D := dF a n) (qf K (qv 2)) (ox T (Ij T n) rfl rfl rfl rfl rfl hr dkl) (Aa (qv 0) Ad))))))), (qv 1)⟩))
  (Af (Aj (qty (B6 (K := K) rfl) T.Jf (Aa (qb (Qz rfl) T.Qj (Aa (qty (p0 rfl) T.vc (Aa (Ag r9 (qty (Xs (K := K) rfl) T.V4 (Aa (qf K (qv 0)) Ad)) (qv 1)) Ad)) Ad)) Ad))))), ?_⟩
 have l4 : rs.length <= 10 := by rw [← Nc]; exact l3
 refine ⟨hx, T.Ar, T.F3, rfl, o, rfl, ⟨_, Asd ho⟩, ?_⟩
 refine Aao (K := K) (Tw (Asd ho)) hok (λ z => !decide (z.1 ∈ ls) && ft r z.1) (λ z => .int z.2) dkl ?_ (λ z hz _ H' _ R hR => hR H' (Ase _)) (λ D H1 s1 _ hD => ?_)
 ·
  intro z hz H' sm R hR
  have hd := (hmv z.2 (Anx.mpr ⟨z, hz, rfl⟩)).1
  have bd : Bd z.2.1 := ⟨by have := hd.1; lia, by have := hd.2; lia⟩
  obtain ⟨C1, dx1, fs1, R1, ea1, eb1, ec1, ed1⟩ := De (a := a) (hr0.up sm) (n := n) hn ok bd
  refine ⟨(sm _ _ hx), T.Ar, T.Gu, rfl, p, _, rfl, .inr (Asd (sm _ _ hp)), rfl, zp _, ?_⟩
  conv => whnf
  rw [if_pos rfl, Nt]
  have hR0 : ∀ H'', Same H' H'' -> R (!decide (z.2.1 ∈ ls) && ft r z.2.1) H'' := hR
  cases e1 : decide (z.2.1 ∈ ls) with
  |
   true =>
   rw [e1] at hR0
   exact Ct (hR0 H' (Ase _))
  |
   false =>
   rw [e1] at hR0
   exact F4 ⟨(sm _ _ hx), T.Ar, T.Kx, rfl, ea1, eb1, ec1, ed1 _ (hR0 H' (Ase _))⟩
 have hD' : H1 D = some (.lst ((((sps rs).filter λ z => !decide (z.1 ∈ ls) && ft r z.1).map (·.2)).map V.int)) := by
  rw [hD, Ao2]
  rfl
 generalize hgo : ((sps rs).filter λ z => !decide (z.1 ∈ ls) && ft r z.1).map (·.2) = go at hD'
 have hgl : go.length <= 10 := by
  rw [← hgo, Am9]
  exact Anb (Apc _ _) l3
 refine ⟨(s1 _ _ hx), T.Ar, T.Kw, rfl, q, _, rfl, .inr (Asd (s1 _ _ hq)), λ L hL => ?_⟩
 have s2 := s1.trans (Ai (o := .lst (ms.map V.int)) hL)
 refine ⟨L, D, _, _, rfl, rfl, Ae, (Ai hL) _ _ hD', (by rw [Am9, Am9]; exact Anb (by lia : _ <= 20) dkd), λ L2 hL2 => ?_⟩
 have s3 := s2.trans (Ai (o := .lst (ms.map V.int ++ go.map V.int)) hL2)
 refine ⟨L2, ms ++ go, rfl, (by rw [Ae, Apg]), (by rw [Anj]; lia), λ S qs hS hmem hnd => ?_⟩
 have s4 := s3.trans (Ai (o := .ext (SetI P w S qs)) hS)
 have hlen := cb hnd λ z hz => (hmem z).mp hz
 rw [Anj] at hlen
 refine ⟨S, qs, rfl, Ae, dkl, λ D2 ts hD2 hpm hlt => ?_⟩
 have s5 := s4.trans (Ai (o := .lst (ts.map V.int)) hD2)
 refine ⟨D2, _, rfl, .inl ⟨Asf Ae, λ g hg => ?_⟩⟩
 refine k g ts _ (s5.trans (Ai hg)) ⟨Ae, hlt, (by rw [hpm.length_eq]; lia), λ z => ?_⟩
 conv => whnf
 rw [hpm.mem_iff, hmem, ← hgo]
 exact Aqr
def D8 : Aw ["self", "lost", "day", "pair"] ["self"] (Ah Hl) := qsc
def Uu : Fk P w T 1 a.E7 a.E5 ["self"] (Yy a.Ak) := by
 refine T.Vk.go D8 λ cdv A outer s H vs Q E hr h => ?_
 obtain ⟨x, dx, y, p, q, o, g, ls, mv, rfl, hx, hp, ⟨rs, ho, hok, rfl⟩, l1, l3, k⟩ := h
 refine ⟨_, (Ac (Cr 1 D8.nd Adt)
  (Ac (To Aof rfl (Sw (K := K) rfl (qf K (qv 0))) (qnm 2 D8.nd) (Af (Aa0 (Abx hr) (qv 1) (qv 2) Sv rfl)))
  (Ac (To Aof rfl (Sw (K := K) rfl (qf K (qv 0))) (qnm 3 D8.nd) (Af (Aa0 (Abx hr) (qv 1) (qix K (qv 3) Ab) Sv rfl)))
  (Af (Aj (qv 1)))))), ?_⟩
 have l4 : rs.length <= 10 := by rw [← Nc]; exact l3
 refine λ L hL => ?_
 have s0 := Ai (o := .dK []) hL
 refine ⟨(s0 _ _ hx), T.Ar, T.Gu, rfl, p, rfl, ⟨_, Asd (s0 _ _ hp)⟩, ?_⟩
 conv => whnf
 have keep : ∀ {H1 : Hp} {kvs : List (Key × V)}, Same H H1 -> Same H (upd H1 L (.dK kvs)) := λ s c u e => by
  rw [An (Aq e hL)]
  exact s _ _ e
 refine Oz (H0 := H) (Tw (Asd hp)) (λ i σ H' => ∃ kvs, H' L = some (.dK kvs) /\ kvs.length <= i /\ Same H H' /\ (∀ z : Int, (T2 kvs (Sum.inl z)).isSome = decide (z ∈ ls.take i)) /\ ∃ y1 y2, σ = [some (.ref x), some (.ref L), y1, y2]) ⟨[], Ae, Anh _, s0, (λ z => rfl), _, _, rfl⟩ (λ _ _ _ _ ⟨_, _, _, s, _⟩ => s) ?_ ?_
 ·
  rintro i v σ H1 hv ⟨kvs, hL1, hk, s1, hv1, y1, y2, rfl⟩
  have hi : i < ls.length := by have := (Ang.mp hv).1; rwa [Am9] at this
  rw [Anu, An6 hi] at hv
  cases hv
  refine ⟨L, _, rfl, DPut.k (k := Sum.inl ls[i]) hL1 (Aox (by lia : _ <= 10) dkd), _, Ae, (Anb xg dkl), keep s1, λ z => ?_, _, _, rfl⟩
  rw [Aen, hv1 z, List.take_succ_eq_append_getElem hi, ← Bool.decide_or, Aop, Aog, An3]
  exact Or.comm
 rintro σ H1 ⟨kvs0, hL1, hk0, s1, hv1, y1, y2, rfl⟩
 rw [Am9] at hk0
 rw [Am9, Apo] at hv1
 refine ⟨(s1 _ _ hx), T.Ar, T.F3, rfl, o, rfl, ⟨_, Asd (s1 _ _ ho)⟩, ?_⟩
 refine Oz (H0 := H) (Tw (Asd ho)) (λ i σ H' => ∃ kvs, H' L = some (.dK kvs) /\ kvs.length <= 10 + i /\ Same H H' /\ (∀ z : Int, (T2 kvs (Sum.inl z)).isSome = decide (z ∈ ls ++ ((sps rs).take i).map (·.1))) /\ ∃ y1 y2, σ = [some (.ref x), some (.ref L), y1, y2]) ⟨kvs0, hL1, dkl, s1, (λ z => by rw [hv1 z, List.take_zero, Aqv, Aoc]), _, _, rfl⟩ (λ _ _ _ _ ⟨_, _, _, s, _⟩ => s) ?_ ?_
 ·
  rintro i v σ H2 hv ⟨kvs, hL2, hk, s2, hv2, z1, z2, rfl⟩
  have hi : i < rs.length := by have := (Ang.mp hv).1; rwa [Qi] at this
  have hv' : (refs rs)[i]? = some (.ref rs[i].1) := by show (rs.map _)[i]? = _; rw [Anu, An6 hi]; rfl
  rw [hv'] at hv
  cases hv
  have hz := s2 _ _ (hok _ (Aoz hi))
  refine ⟨Asd hz, rfl, L, _, rfl, DPut.k (k := Sum.inl rs[i].2.1) hL2 (Aox (by lia : _ <= 20) dkd), _, Ae, (Anb xg dkl), keep s2, λ z => ?_, _, _, rfl⟩
  have hi2 : i < (sps rs).length := by rw [Nc]; exact hi
  have e2 : (sps rs)[i] = rs[i].2 := by unfold sps; exact List.getElem_map _
  rw [Aen, hv2 z, List.take_succ_eq_append_getElem hi2, ← Bool.decide_or, Aop, Apg, ← List.append_assoc, Aog (s := ls ++ _), e2]
  show _ ↔ _ ∨ z ∈ [rs[i].2.1]
  rw [An3]
  exact Or.comm
 rintro σ H2 ⟨kvs, hL2, hk, s2, hv2, z1, z2, rfl⟩
 refine k L H2 s2 ⟨kvs, hL2, λ z => ?_⟩
 conv => whnf
 rw [hv2 z, Qi, ← Nc, Apo]
 rfl
def Hq : Fk P w T 2 a.Qe a.Rc ["number"] (rh) := by
 refine T.Hh.gq ["number"] λ cdv A outer s H vs Q E hr h => ?_
 obtain ⟨n, rfl, h0, h1, k⟩ := h
 refine ⟨_, (Af (A4 (Uz (Dz (qc (M1 T) hr T.Ri T.Nz T.Qk (Aa (qv 0) Ad)))) (Af Jc) Ao)), ?_⟩
 exact ⟨n, rfl, Ahp ⟨h0, h1⟩ k⟩
def Jz : Aw ["self", "rule", "left", "more", "moved", "day", "pair"] ["self", "rule", "left", "more", "moved"] (Ah Bm) := qsc
def F6 (T : Vy K mg base a) (n : Nat) : FnOk P w K mg base CX0 true (24 + n + 1) a.G5 a.Cp ["self", "rule", "left", "more", "moved"] (Tv (jd a) n) := by
 refine T.Z4.go Jz λ cdv A outer s H vs Q E hr h => ?_
 obtain ⟨x, dx, y, v1, v2, v3, r, ls, ms, mv, H0, rfl, hx, h0, s0, hr0, hn, ok, o1, o2, o3, ⟨⟨l1, l2, l3⟩, hls, hms, hmv⟩, k⟩ := h
 refine ⟨_, (Ac (Ci (K := K) rfl (qv 0) (qv 1))
  (J3 (Ci (K := K) rfl (qv 0) (Ey (Al k6 (qv 2) Gq (Am _)) (Bo Ad) (qty (B6 (K := K) rfl) T.Jf (Aa (qv 2) Ad))))
  (J3 (Ci (K := K) rfl (qv 0) (Ey (Al k6 (qv 3) Gq (Am _)) (Bo Ad) (qty (B6 (K := K) rfl) T.Jf (Aa (qv 3) Ad))))
  (J3 (Ci (K := K) rfl (qv 0) (Ey (Al k6 (qv 4) Gq (Am _)) (Bo Ad) (qty (B6 (K := K) rfl) T.Jf (Aa (qv 4) Ad))))
  (Ac (To Aof rfl (Sw (K := K) rfl (Ag Ab9 (qf K (qv 0)) (qf K (qv 0)))) (qnm 5 Jz.nd) (Af (Dd (qc (Hq T) hr T.Jy T.Hh T.Kd (Aa (qv 5) Ad)))))
  (Ac (To Aof rfl (Sw (K := K) rfl (qf K (qv 0))) (qnm 6 Jz.nd) (Ac (Dd (qc (Hq T) hr T.Jy T.Hh T.Kd (Aa (qix K (qv 6) Ab) Ad)))
  (Af (Dd (qc (Hq T) hr T.Jy T.Hh T.Kd (Aa (qix K (qv 6) Ab) Ad))))))
  (Ac (Ci (K := K) rfl (qv 0) (eo (D := λ C R => (C = a.Ak /\ R = λ x vs H Q => U3 (jd a) n (x :: (vs ++ ([] : List V))) H Q E0)) (qv 0) (by rintro C R ⟨rfl, rfl⟩; exact (qan T.Ar T.Se ((Sd T n).mono dkl) hr T.Sq))))
  (Af (Ci (K := K) rfl (qv 0) (eo (D := λ C R => (C = a.Ak /\ R = λ x vs H Q => (Yy a.Ak) (x :: (vs ++ ([] : List V))) H Q E0)) (qv 0) (by rintro C R ⟨rfl, rfl⟩ <;> first | exact (qan T.Ar T.Uv ((Uu T).mono dkl) hr T.Vv)))))))))))), ?_⟩
 refine ⟨hx, T.Ar, T.Kx, ?_⟩
 conv => whnf
 rw [show Ae1 "rule" (V.ref y) [] = ([("rule", V.ref y)] : List (Str × V)) from rfl]
 have sX1 : F5 x H (upd H x (.ins a.Ak dx [("rule", V.ref y)])) := λ c u hc e => by rw [An hc]; exact e
 have hx1 : (upd H x (.ins a.Ak dx [("rule", V.ref y)])) x = some (.ins a.Ak dx [("rule", V.ref y)]) := Ae
 generalize upd H x (.ins a.Ak dx [("rule", V.ref y)]) = H1 at *
 refine ⟨λ σ H' => ∃ p, F5 x H H' /\ H' x = some (.ins a.Ak dx [("rule", V.ref y), ("left", V.ref p)]) /\ H' p = some (.tup (ls.map V.int)) /\ σ = [some (.ref x), some (.ref y), some v1, some v2, some v3, none, none], ?_, ?_⟩
 ·
  rcases o1 with ⟨rfl, rfl⟩ | ⟨p, rfl, ht⟩
  ·
   refine ⟨λ _ => ?_, λ z => absurd (Am6 rfl) z⟩
   refine λ p nw => ?_
   have nn : p ≠ x := λ z => by rw [z, hx1] at nw; cases nw
   refine ⟨(Ai nw) _ _ hx1, T.Ar, T.Gu, ?_⟩
   exact ⟨p, (λ c u hc e => by rw [An hc]; exact (Ai nw) _ _ (sX1 _ _ hc e)), Ae, (by rw [An nn]; exact Ae), rfl⟩
  ·
   have S0 := sx0 h0 s0 sX1
   refine ⟨λ z => absurd (Am8 z) (λ e => nomatch e), λ _ => ?_⟩
   refine ⟨p, _, rfl, .inr ⟨Asd (S0 _ _ ht), ?_⟩⟩
   refine ⟨hx1, T.Ar, T.Gu, ?_⟩
   have sx2 : F5 x H (upd _ x (.ins a.Ak dx [("rule", V.ref y), ("left", V.ref p)])) := λ c u hc e => by rw [An hc]; exact sX1 _ _ hc e
   have S := sx0 h0 s0 sx2
   exact ⟨p, sx2, Ae, S _ _ ht, rfl⟩
 rintro σ H2 ⟨p, sX2, hx2, hp, rfl⟩
 refine ⟨λ σ H' => ∃ p q, F5 x H H' /\ H' x = some (.ins a.Ak dx [("rule", V.ref y), ("left", V.ref p), ("more", V.ref q)]) /\ H' p = some (.tup (ls.map V.int)) /\ H' q = some (.tup (ms.map V.int)) /\ σ = [some (.ref x), some (.ref y), some v1, some v2, some v3, none, none], ?_, ?_⟩
 ·
  rcases o2 with ⟨rfl, rfl⟩ | ⟨q, rfl, ht⟩
  ·
   refine ⟨λ _ => ?_, λ z => absurd (Am6 rfl) z⟩
   refine λ q nw => ?_
   have nn : q ≠ x := λ z => by rw [z, hx2] at nw; cases nw
   refine ⟨(Ai nw) _ _ hx2, T.Ar, T.Kw, ?_⟩
   exact ⟨p, q, (λ c u hc e => by rw [An hc]; exact (Ai nw) _ _ (sX2 _ _ hc e)), Ae, (by rw [An (λ e => by rw [e, hx2] at hp; cases hp)]; exact (Ai nw) _ _ hp), (by rw [An nn]; exact Ae), rfl⟩
  ·
   have S0 := sx0 h0 s0 sX2
   refine ⟨λ z => absurd (Am8 z) (λ e => nomatch e), λ _ => ?_⟩
   refine ⟨q, _, rfl, .inr ⟨Asd (S0 _ _ ht), ?_⟩⟩
   refine ⟨hx2, T.Ar, T.Kw, ?_⟩
   have sx2 : F5 x H (upd _ x (.ins a.Ak dx [("rule", V.ref y), ("left", V.ref p), ("more", V.ref q)])) := λ c u hc e => by rw [An hc]; exact sX2 _ _ hc e
   have S := sx0 h0 s0 sx2
   exact ⟨p, q, sx2, Ae, (by rw [An (λ e => by rw [e, hx2] at hp; cases hp)]; exact hp), S _ _ ht, rfl⟩
 rintro σ H3 ⟨p, q, sX3, hx3, hp, hq, rfl⟩
 refine ⟨λ σ H' => ∃ p q o, F5 x H H' /\ H' x = some (.ins a.Ak dx [("rule", V.ref y), ("left", V.ref p), ("more", V.ref q), ("moved", V.ref o)]) /\ H' p = some (.tup (ls.map V.int)) /\ H' q = some (.tup (ms.map V.int)) /\ MvAt H' o mv /\ σ = [some (.ref x), some (.ref y), some v1, some v2, some v3, none, none], ?_, ?_⟩
 ·
  rcases o3 with ⟨rfl, rfl⟩ | ⟨o, rfl, ht⟩
  ·
   refine ⟨λ _ => ?_, λ z => absurd (Am6 rfl) z⟩
   refine λ o nw => ?_
   have nn : o ≠ x := λ z => by rw [z, hx3] at nw; cases nw
   refine ⟨(Ai nw) _ _ hx3, T.Ar, T.F3, ?_⟩
   exact ⟨p, q, o, (λ c u hc e => by rw [An hc]; exact (Ai nw) _ _ (sX3 _ _ hc e)), Ae, (by rw [An (λ e => by rw [e, hx3] at hp; cases hp)]; exact (Ai nw) _ _ hp), (by rw [An (λ e => by rw [e, hx3] at hq; cases hq)]; exact (Ai nw) _ _ hq), ⟨[], by rw [An nn]; exact Ae, RowOk.nil, rfl⟩, rfl⟩
  ·
   have S0 := sx0 h0 s0 sX3
   refine ⟨λ z => absurd (Am8 z) (λ e => nomatch e), λ _ => ?_⟩
   refine ⟨o, _, rfl, .inr ⟨Asd (S0 _ _ ht.choose_spec.1), ?_⟩⟩
   refine ⟨hx3, T.Ar, T.F3, ?_⟩
   have sx2 : F5 x H (upd _ x (.ins a.Ak dx [("rule", V.ref y), ("left", V.ref p), ("more", V.ref q), ("moved", V.ref o)])) := λ c u hc e => by rw [An hc]; exact sX3 _ _ hc e
   have S := sx0 h0 s0 sx2
   exact ⟨p, q, o, sx2, Ae, (by rw [An (λ e => by rw [e, hx3] at hp; cases hp)]; exact hp), (by rw [An (λ e => by rw [e, hx3] at hq; cases hq)]; exact hq), ht.up S, rfl⟩
 rintro σ H4 ⟨p, q, o, sX4, hx4, hp, hq, ho, rfl⟩
 refine ⟨hx4, T.Ar, T.Gu, rfl, hx4, T.Ar, T.Kw, rfl, p, q, _, _, rfl, rfl, hp, hq, ?_, λ c H5 s5 hcc => ⟨c, rfl, ⟨_, Asd hcc⟩, ?_⟩⟩
 ·
  rw [Am9, Am9]
  exact Anb (by lia : _ <= 20) dkd
 rw [← Apg] at hcc
 refine Oz (H0 := H5) (Tw (Asd hcc)) (λ i σ H' => H5 = H' /\ ∃ z, σ = [some (.ref x), some (.ref y), some v1, some v2, some v3, z, none]) ⟨rfl, _, rfl⟩ (λ _ _ _ _ h => h.1 ▸ Ase _) ?_ ?_
 ·
  rintro i v σ _ hv ⟨rfl, z, rfl⟩
  obtain ⟨b, hb, rfl⟩ := Anx.mp (Aoa hv)
  have hd : Dy b := (Aog.mp hb).elim (hls b) (hms b)
  exact ⟨b, rfl, hd.1, hd.2, rfl, _, rfl⟩
 rintro σ _ ⟨rfl, z1, rfl⟩
 have hx5 := s5 _ _ hx4
 obtain ⟨rs, hor, hok, hrs⟩ := id (ho.up s5)
 refine ⟨hx5, T.Ar, T.F3, rfl, o, rfl, ⟨_, Asd hor⟩, ?_⟩
 refine Oz (H0 := H5) (Tw (Asd hor)) (λ i σ H' => H5 = H' /\ ∃ z, σ = [some (.ref x), some (.ref y), some v1, some v2, some v3, z1, z]) ⟨rfl, _, rfl⟩ (λ _ _ _ _ h => h.1 ▸ Ase _) ?_ ?_
 ·
  rintro i v σ _ hv ⟨rfl, z, rfl⟩
  obtain ⟨u, hu, hum, rfl⟩ := l8 hv
  have hu1 := hok u hum
  have hd := hmv u.2 (hrs ▸ List.mem_map_of_mem hum)
  exact ⟨Asd hu1, rfl, u.2.1, rfl, hd.1.1, hd.1.2, Asd hu1, rfl, u.2.2, rfl, hd.2.1, hd.2.2, rfl, _, rfl⟩
 rintro σ _ ⟨rfl, z2, rfl⟩
 have S5 := (sx0 h0 s0 sX4).trans s5
 refine ⟨hx5, f9 _ _ _ _, ⟨rfl, rfl⟩, x, dx, y, p, q, o, r, ls, ms, mv, rfl, hx5, hr0.up S5, hn, ok, s5 _ _ hp, s5 _ _ hq, ho.up s5, ⟨⟨l1, l2, l3⟩, hls, hms, hmv⟩, λ g gs H6 s6 hg => ?_⟩
 have hx6 := s6 _ _ hx5
 refine ⟨hx6, T.Ar, T.Cq, ?_⟩
 conv => whnf
 rw [show Ae1 "gained" (V.ref g) [("rule", V.ref y), ("left", V.ref p), ("more", V.ref q), ("moved", V.ref o)] = ([("rule", V.ref y), ("left", V.ref p), ("more", V.ref q), ("moved", V.ref o), ("gained", V.ref g)] : List (Str × V)) from rfl]
 have nx : ∀ {b : Addr} {xs : List V}, H6 b = some (.tup xs) -> b ≠ x := λ h e => by rw [e, hx6] at h; cases h
 have sX7 : F5 x H6 (upd H6 x (.ins a.Ak dx [("rule", V.ref y), ("left", V.ref p), ("more", V.ref q), ("moved", V.ref o), ("gained", V.ref g)])) := λ c u hc e => by rw [An hc]; exact e
 have hx7 : (upd H6 x (.ins a.Ak dx [("rule", V.ref y), ("left", V.ref p), ("more", V.ref q), ("moved", V.ref o), ("gained", V.ref g)])) x = some (.ins a.Ak dx [("rule", V.ref y), ("left", V.ref p), ("more", V.ref q), ("moved", V.ref o), ("gained", V.ref g)]) := Ae
 have sX07 : F5 x H (upd H6 x (.ins a.Ak dx [("rule", V.ref y), ("left", V.ref p), ("more", V.ref q), ("moved", V.ref o), ("gained", V.ref g)])) := λ c u hc e => sX7 _ _ hc (s6 _ _ (s5 _ _ (sX4 _ _ hc e)))
 generalize upd H6 x (.ins a.Ak dx [("rule", V.ref y), ("left", V.ref p), ("more", V.ref q), ("moved", V.ref o), ("gained", V.ref g)]) = H7 at *
 have hm7 : MvAt H7 o mv := by
  obtain ⟨rs, a1, a2, a3⟩ := (ho.up s5).up s6
  exact ⟨rs, sX7 _ _ (nx a1) a1, λ u hu => sX7 _ _ (nx (a2 u hu)) (a2 u hu), a3⟩
 have hg7 : H7 g = some (.tup (gs.map V.int)) := sX7 _ _ (nx hg.1) hg.1
 have hp6 := s6 _ _ (s5 _ _ hp)
 refine ⟨hx7, rfl, ⟨rfl, rfl⟩, x, dx, y, p, q, o, g, ls, mv, rfl, hx7, sX7 _ _ (nx hp6) hp6, hm7, l1, l3, λ l H8 s8 hl => ?_⟩
 have hx8 := s8 _ _ hx7
 refine ⟨hx8, T.Ar, T.Ox, ?_⟩
 conv => whnf
 rw [show Ae1 "lost" (V.ref l) [("rule", V.ref y), ("left", V.ref p), ("more", V.ref q), ("moved", V.ref o), ("gained", V.ref g)] = ([("rule", V.ref y), ("left", V.ref p), ("more", V.ref q), ("moved", V.ref o), ("gained", V.ref g), ("lost", V.ref l)] : List (Str × V)) from rfl]
 have nx8 : ∀ {b : Addr} {ho : HO}, H8 b = some ho -> (∀ C dx fs, ho ≠ .ins C dx fs) -> b ≠ x := λ h hh e => by rw [e, hx8] at h; cases h; exact hh _ _ _ rfl
 have sX9 : F5 x H8 (upd H8 x (.ins a.Ak dx [("rule", V.ref y), ("left", V.ref p), ("more", V.ref q), ("moved", V.ref o), ("gained", V.ref g), ("lost", V.ref l)])) := λ c u hc e => by rw [An hc]; exact e
 have hx9 : (upd H8 x (.ins a.Ak dx [("rule", V.ref y), ("left", V.ref p), ("more", V.ref q), ("moved", V.ref o), ("gained", V.ref g), ("lost", V.ref l)])) x = some (.ins a.Ak dx [("rule", V.ref y), ("left", V.ref p), ("more", V.ref q), ("moved", V.ref o), ("gained", V.ref g), ("lost", V.ref l)]) := Ae
 have sX09 : F5 x H (upd H8 x (.ins a.Ak dx [("rule", V.ref y), ("left", V.ref p), ("more", V.ref q), ("moved", V.ref o), ("gained", V.ref g), ("lost", V.ref l)])) := λ c u hc e => sX9 _ _ hc (s8 _ _ (sX07 _ _ hc e))
 generalize upd H8 x (.ins a.Ak dx [("rule", V.ref y), ("left", V.ref p), ("more", V.ref q), ("moved", V.ref o), ("gained", V.ref g), ("lost", V.ref l)]) = H9 at *
 obtain ⟨kvs, hl1, hl2⟩ := hl
 have hg8 := s8 _ _ hg7
 exact k H9 sX09 (RtAt.isCh.mpr ⟨dx, y, p, q, o, g, l, gs, kvs, hx9, hr0.up (sx0 h0 s0 sX09), ⟨sX9 _ _ (nx8 hg8 (λ _ _ _ e => nomatch e)) hg8, hg.2⟩, sX9 _ _ (nx8 hl1 (λ _ _ _ e => nomatch e)) hl1, hl2⟩)
def Bs : Fk P w T 1 a.Mb a.L8 ["_law_script", "_law_k"] (je K) := by
 refine T.Bu.gq ["_law_script", "_law_k"] λ cdv A outer s H vs Q E hr h => ?_
 obtain ⟨p, ns, i, rfl, hS, h0, k⟩ := h
 refine ⟨_, (Ac (A4 (Al Ni (qv 1) (qb (Ds (K := K) rfl) T.Zs (Aa (qv 0) Ad)) (Am _)) (Af (Aj (qil K (qv 0) (qv 1)))) Ao)
  (Af (Aj Ab))), ?_⟩
 refine ⟨p, _, rfl, .inl hS, ?_⟩
 refine ⟨λ e1 => ?_, λ e1 => k 0⟩
 have e1' := Am8 e1
 rw [Am9] at e1'
 obtain ⟨t, _, et⟩ := ax h0 e1'
 exact ⟨hS, et, k t⟩
def ck : Aw ["_law_pick", "_law_more"] ["_law_pick"] (Ah X5) := qsc
def B2 : Fk P w T 1 a.Ui a.T4 ["_law_pick"] (t8) := by
 refine T.Cm.go ck λ cdv A outer s H vs Q E hr h => ?_
 obtain ⟨p, rfl, k⟩ := h
 refine ⟨_, (Ac (Cr 1 ck.nd (Ag As (Ag Ap (Ag M4 (qv 0) Ab) Ab) Ab))
  (Af (Aj (Ag As (Ag M4 (qv 1) (qv 1)) Ab)))), ?_⟩
 refine ⟨_, _, rfl, rfl, .inr ⟨dkd, dkd⟩, ?_⟩
 have b0 : 0 <= (p * 48271 + 11) % 2147483647 := Anz _ dkd
 have b1 : (p * 48271 + 11) % 2147483647 < 2147483647 := Anw _ dkd
 refine ⟨_, _, rfl, rfl, .inl ⟨dkl, dkl⟩, ?_⟩
 exact k _ (Anz _ dkd)
def vx : Fk P w T 1 a.Ue a.Uk ["_law_year_here"] (ko) := by
 refine T.kj.gq ["_law_year_here"] λ cdv A outer s H vs Q E hr h => ?_
 obtain ⟨y, rfl, k⟩ := h
 refine ⟨_, (Af (Aj (zt (A8 Be (Ag As (qv 0) Ab) Ab (Am _)) (Dk (Dx (A8 Be (Ag As (qv 0) Ab) Ab (Am _)) (Dk (A8 yg (Ag As (qv 0) Ab) Ab (Am _)))))))), ?_⟩
 refine ⟨λ h1 => ?_, λ h1 => ?_⟩
 ·
  rw [Sb] at h1
  have e : DM.leap y = true := by rw [DM.bt]; exact .inl (Am8 h1)
  rw [e] at k
  exact k
 ·
  rw [Sb] at h1
  refine ⟨λ h2 => ?_, λ h2 => ?_⟩
  ·
   rw [Sb] at h2
   conv => whnf
   have e : DM.leap y = !decide (V.int (y % 100) = V.int 0) := by
    unfold DM.leap
    rw [Sb, h2]
    simp at h1
    simp [h1]
   rw [e] at k
   exact k
  ·
   rw [Sb] at h2
   have e : DM.leap y = false := by
    unfold DM.leap
    simp at h1 h2
    simp [h1, h2]
   rw [e] at k
   exact k
def ix : Aw ["_law_year_here", "_law_many"] ["_law_year_here"] (Ah Yo) := qsc
def Qg : Fk P w T 1 a.Ul a.Uo ["_law_year_here"] (W5) := by
 refine T.P0.go ix λ cdv A outer s H vs Q E hr h => ?_
 obtain ⟨y, rfl, k⟩ := h
 refine ⟨_, (Ac (Cr 1 ix.nd (Ag A7 (qv 0) Ab))
  (Af (Aj (Ag Ap (Ag A7 (Ag Ap (Ag M4 (qv 1) Ab) (Ag Au (Ag Ap (qv 1) Ab) Ab)) (Ag Au (Ag Ap (qv 1) Ab) Ab)) (Ag Au (Ag Ap (qv 1) Ab) Ab))))), ?_⟩
 refine ⟨_, _, rfl, rfl, .inr ⟨dkd, dkd⟩, ?_⟩
 exact k
def vo : Fk P w T 1 a.Uh a.Ug ["_law_found", "_law_due_here"] (fj) := by
 refine T.kr.gq ["_law_found", "_law_due_here"] λ cdv A outer s H vs Q E hr h => ?_
 skip
 refine ⟨_, (Ac (A4 (Dz (qb (Er (K := K) rfl) T.B1 (Aa (qv 1) (Aa (Th (v := .ty "tuple") rfl T.Jf dkk rfl) Ad)))) (Ac Jc
  (Af Jc)) Ao)
  (Ac (A4 (Dz (qb (Er (K := K) rfl) T.B1 (Aa (qv 1) (Aa (Th (v := .ty "str") rfl T.x8 dkk rfl) Ad)))) (Af (Aj (Dx (qb (Er (K := K) rfl) T.B1 (Aa (qv 0) (Aa (Th (v := .ty "str") rfl T.x8 dkk rfl) Ad))) (Dk (A8 Be (qv 0) (qv 1) (Am _)))))) Ao)
  (Ac (A4 (Al k6 (qv 1) Gq (Am _)) (Af (Aj (A8 k6 (qv 0) Gq (Am _)))) Ao)
  (Ac (A4 (Dz (qb (Er (K := K) rfl) T.B1 (Aa (qv 1) (Aa (Th (v := .ty "bool") rfl T.Wf dkk rfl) Ad)))) (Af (Aj (Dx (qb (Er (K := K) rfl) T.B1 (Aa (qv 0) (Aa (Th (v := .ty "bool") rfl T.Wf dkk rfl) Ad))) (Dk (A8 Be (qv 0) (qv 1) (Am _)))))) Ao)
  (Af (Aj (Dx (qb (Er (K := K) rfl) T.B1 (Aa (qv 0) (Aa (Th (v := .ty "int") rfl T.oh dkk rfl) Ad))) (Dx (Abo (qb (Er (K := K) rfl) T.B1 (Aa (qv 0) (Aa (Th (v := .ty "bool") rfl T.Wf dkk rfl) Ad)))) (Dk (A8 Be (qv 0) (qv 1) (Am _))))))))))), ?_⟩
 rcases Agu h with ⟨d, rfl, k⟩ | ⟨rfl, k⟩
 ·
  skip
  have ij : d = d := rfl
  refine ⟨_, _, _, _, rfl, i3.int _, rfl, Ct ?_⟩
  refine ⟨_, _, _, _, rfl, i3.int _, rfl, Ct ?_⟩
  refine ⟨λ z => by simp at z, λ _ => ?_⟩
  refine ⟨_, _, _, _, rfl, i3.int _, rfl, Ct ?_⟩
  refine ⟨_, _, _, _, rfl, i3.int _, rfl, F4 ?_⟩
  refine ⟨_, _, _, _, rfl, i3.int _, rfl, ?_⟩
  refine ⟨λ _ => ?_, λ z => absurd rfl z⟩
  conv => whnf
  rw [Sb, Am6 ij]
  exact k
 ·
  refine ⟨_, _, _, _, rfl, i3.non, rfl, Ct ?_⟩
  refine ⟨_, _, _, _, rfl, i3.non, rfl, Ct ?_⟩
  refine ⟨λ _ => ?_, λ z => absurd dkd z⟩
  exact k
def Fq : Fk P w T 1 a.Um a.T6 ["_law_pick", "_law_base"] (uu) := by
 refine T.Gd.gq ["_law_pick", "_law_base"] λ cdv A outer s H vs Q E hr h => ?_
 obtain ⟨p, b, rfl, k⟩ := h
 refine ⟨_, (Af (Aj (qb (J1 rfl) T.Su (Aa Ab (Aa (qb (O4 rfl) T.V3 (Aa Ab (Aa (Ag A7 (Ag Ap (qv 1) (Ag As (qv 0) Ab)) Ab) Ad))) Ad))))), ?_⟩
 refine k _ ?_ ?_
 ·
  split
  · split <;> lia
  · lia
 ·
  split
  · lia
  · lia
def rn : Fk P w T 1 a.Qy a.Qt ["_law_pick"] (qu) := by
 refine T.dz.gq ["_law_pick"] λ cdv A outer s H vs Q E hr h => ?_
 obtain ⟨p, rfl, k⟩ := h
 refine ⟨_, (Af (Aj (qil K (Lb (Aa Ab (Aa Ab (Aa Ab (Aa Ab (Aa (Ag Ap Ab (Ag As (Ag Au (qv 0) Ab) Ab)) (Aa Ab (Aa (Ag Ap Ab (Ag As (Ag Au (qv 0) Ab) Ab)) Ad)))))))) (Ag As (qv 0) Ab)))), ?_⟩
 refine λ L hL => ?_
 obtain ⟨t, t0, t1, ht⟩ := Xq (ts := [1, 1, 2, 3, 1 + p / 7 % 9, 12, 1 + p / 7 % 1000]) (i := p % 7) 1 1000 (Anz _ dkd) (Anw _ dkd) (λ t ht => by
  rcases Anf.mp ht with rfl | ht; · decide
  rcases Anf.mp ht with rfl | ht; · decide
  rcases Anf.mp ht with rfl | ht; · decide
  rcases Anf.mp ht with rfl | ht; · decide
  rcases Anf.mp ht with rfl | ht; · lia
  rcases Anf.mp ht with rfl | ht; · decide
  rw [An3] at ht; subst ht; lia)
 exact ⟨Asf Ae, ht, k t _ t0 t1 (Ai hL)⟩
def nr : Fk P w T 2 a.Of a.Od ["year", "month"] (mr) := by
 refine T.Yz.gq ["year", "month"] λ cdv A outer s H vs Q E hr h => ?_
 obtain ⟨y, m, rfl, h1, h2, k⟩ := h
 refine ⟨_, (Ac (A4 (Asg (M9 (Al Be (qv 1) Ab (Am _)) (Hx (Dz (qc (ky T) hr T.sd T.eh T.ph (Aa (qv 0) Ad)))))) (Af (Aj Ab)) Ao)
  (Af (Aj (qix K (xw rfl T.Fv) (Ag A7 (qv 1) Ab))))), ?_⟩
 refine ⟨λ e1 => ?_, λ e1 => ?_⟩
 ·
  rw [Sb] at e1
  have e1' : m = 2 := Am8 e1
  refine ⟨y, rfl, ?_⟩
  refine ⟨λ e2 => ?_, λ e2 => ?_⟩
  ·
   have e : DM.len y m = 29 := by unfold DM.len; rw [if_pos e1', if_pos e2]
   rw [e] at k
   exact k
  · exact ⟨T.Te _, Ag9 h1 h2 (λ z => e2 z.2), k⟩
 ·
  rw [Sb] at e1
  refine Ct ?_
  exact ⟨T.Te _, Ag9 h1 h2 (λ z => e1 (Am6 z.1)), k⟩
def Ju : Fk P w T 2 a.G1 a.G6 ["self", "rule", "many"] (d8 a.Bb) := by
 refine T.Zx.gq ["self", "rule", "many"] λ cdv A outer s H vs Q E hr h => ?_
 obtain ⟨x, dx, y, m, rfl, m0, m1, hx, k⟩ := h
 refine ⟨_, (Ac (Dd (qc (Bt T) hr T.Cc T.Bp T.Cb (Aa (qv 2) (Aa (m6 Y0 (B8 rfl T.J2)) (Aa (B8 rfl T.J2) Ad)))))
  (Ac (Ci (K := K) rfl (qv 0) (qv 1))
  (Af (Ci (K := K) rfl (qv 0) (qv 2))))), ?_⟩
 refine ⟨m, -1000, 1000, rfl, m0, m1, ?_⟩
 refine ⟨hx, T.El, T.O7, ?_⟩
 refine ⟨Ae, T.El, T.Gx, ?_⟩
 exact k _ (λ c u hc e => by rw [An hc, An hc]; exact e) Ae
def Io : Fk P w T 2 a.Oc a.Nu ["_law_year_here", "_law_month"] (ng) := by
 refine T.Hu.gq ["_law_year_here", "_law_month"] λ cdv A outer s H vs Q E hr h => ?_
 obtain ⟨y, m, rfl, k⟩ := h
 refine ⟨_, (Ac (A4 (Al Be (qv 1) Ab (Am _)) (Af (Aj (Ag Ap Ab (qty Wy T.oh (Aa (qc (vx T) hr T.yh T.kj T.y8 (Aa (qv 0) Ad)) Ad))))) Ao)
  (Af (Aj (Ag Ap Ab (qty Wy T.oh (Aa (A8 (Mq (K := K) rfl) (qv 1) (Bo (Yx [.int 1, .int 3, .int 5, .int 7, .int 8, .int 10, .int 12] dkk)) (by with_unfolding_all rfl)) Ad)))))), ?_⟩
 refine ⟨λ e1 => ?_, λ e1 => ?_⟩
 ·
  rw [Sb] at e1
  have e1' : m = 2 := Am8 e1
  refine ⟨y, rfl, .inr ⟨_, rfl, ?_⟩⟩
  conv => whnf
  have q := k H (Ase _)
  have e : DM.len y m = 28 + (if DM.leap y = true then 1 else 0) := by
   unfold DM.len
   rw [if_pos e1']
   cases DM.leap y <;> rfl
  rw [e] at q
  exact q
 ·
  rw [Sb] at e1
  have e1' : ¬ m = 2 := λ z => e1 (Am6 z)
  refine λ p hp => ⟨p, _, rfl, .inr (Asd Ae), rfl, rfl, .inr ⟨_, rfl, ?_⟩⟩
  conv => whnf
  have e : DM.len y m = 30 + (if (if false = true then !inV (.int m) [.int 1, .int 3, .int 5, .int 7, .int 8, .int 10, .int 12] else inV (.int m) [.int 1, .int 3, .int 5, .int 7, .int 8, .int 10, .int 12]) = true then 1 else 0) := by
   unfold DM.len
   rw [if_neg e1', if_neg Anr]
   have : inV (.int m) [.int 1, .int 3, .int 5, .int 7, .int 8, .int 10, .int 12] = decide (m = 1 ∨ m = 3 ∨ m = 5 ∨ m = 7 ∨ m = 8 ∨ m = 10 ∨ m = 12) := by
    refine Eq.trans (Nt m [1, 3, 5, 7, 8, 10, 12]) (Aop.mpr ?_)
    conv => whnf
    simp only [Anf, Ao4, Aqd]
   rw [this]
   by_cases z : m = 1 ∨ m = 3 ∨ m = 5 ∨ m = 7 ∨ m = 8 ∨ m = 10 ∨ m = 12
   · rw [if_pos z, Am6 z]; rfl
   · rw [if_neg z, Ane z]; rfl
  rw [e] at k
  exact k _ (Ai hp)
def pv : Fk P w T 2 a.Rh a.Q8 ["_law_pick", "_law_base"] (rl) := by
 refine T.cf.gq ["_law_pick", "_law_base"] λ cdv A outer s H vs Q E hr h => ?_
 obtain ⟨p, b, rfl, k⟩ := h
 refine ⟨_, (Af (Aj (qil K (Lb (Aa Ab (Aa (qc (Fq T) hr T.Hw T.Gd T.Hv (Aa (Ag Au (qv 0) Ab) (Aa (qv 1) Ad))) (Aa (Ag As (Ag Au (qv 0) Ab) Ab) (Aa (qc (Fq T) hr T.Hw T.Gd T.Hv (Aa (Ag Au (qv 0) Ab) (Aa (qv 1) Ad))) (Aa Ab Ad)))))) (Ag As (qv 0) Ab)))), ?_⟩
 refine ⟨_, b, rfl, λ v1 v10 v11 => ?_⟩
 refine ⟨_, b, rfl, λ v2 v20 v21 => ?_⟩
 refine λ L hL => ?_
 obtain ⟨t, t0, t1, ht⟩ := Xq (ts := [0, v1, p / 7 % 146097, v2, 0]) (i := p % 5) 0 146096 (Anz _ dkd) (Anw _ dkd) (λ t ht => by
  rcases Anf.mp ht with rfl | ht; · decide
  rcases Anf.mp ht with rfl | ht; · lia
  rcases Anf.mp ht with rfl | ht; · lia
  rcases Anf.mp ht with rfl | ht; · lia
  rw [An3] at ht; subst ht; decide)
 exact ⟨Asf Ae, ht, k t _ t0 dkl (Ai hL)⟩
def Nn : Fk P w T 2 a.Ra a.Qs ["_law_pick", "_law_base", "_law_many"] (su) := by
 refine T.Nd.gq ["_law_pick", "_law_base", "_law_many"] λ cdv A outer s H vs Q E hr h => ?_
 obtain ⟨p, b, m, rfl, m0, m1, k⟩ := h
 refine ⟨_, (Ac (A4 (Al Be (Ag As (qv 0) Ab) Ab (Am _)) (Af (Aj (qty (B6 (K := K) rfl) T.Jf (Aa (Sy (N := ["_law_k", "_law_base", "_law_pick"]) (cap := [none, some 1, some 0]) (by show Cs (Ah Rg) _ ["_law_pick", "_law_base", "_law_many"] _ _; exact ⟨rfl, dkk, dkk, dkk, dkk, rfl, dkk⟩) rfl (Pt rfl T.Hm (Aa (qv 2) Ad)) (λ C s H fp => ⟨(Hi (i := 0) (by show (["_law_k", "_law_base", "_law_pick"] : List Str).Nodup; decide +kernel) rfl (Or.inl rfl) (.inr rfl)), Vi, (qb (J1 rfl) T.Su (Aa Ab (Aa (Ag Ap (qc (Fq T) hr T.Hw T.Gd T.Hv (Aa (Ag Au (qv 2) Ab) (Aa (qv 1) Ad))) (qv 0)) Ad)))⟩)) Ad)))) Ao)
  (Af (Aj (qty (B6 (K := K) rfl) T.Jf (Aa (Sy (N := ["_law_k", "_law_base", "_law_pick"]) (cap := [none, some 1, some 0]) (by show Cs (Ah Rg) _ ["_law_pick", "_law_base", "_law_many"] _ _; exact ⟨rfl, dkk, dkk, dkk, dkk, rfl, dkk⟩) rfl (Pt rfl T.Hm (Aa (qv 2) Ad)) (λ C s H fp => ⟨(Hi (i := 0) (by show (["_law_k", "_law_base", "_law_pick"] : List Str).Nodup; decide +kernel) rfl (Or.inl rfl) (.inr rfl)), Vi, (qc (Fq T) hr T.Hw T.Gd T.Hv (Aa (qc (B2 T) hr T.C7 T.Cm T.C6 (Aa (Ag Ap (qv 2) (Ag M4 Ab (qv 0))) Ad)) (Aa (qv 1) Ad)))⟩)) Ad))))), ?_⟩
 refine ⟨λ _ => ?_, λ _ => ?_⟩
 ·
  refine ⟨_, rfl, dkl, dkl, ?_⟩
  refine wx (Lf 0 m.toNat _) (λ _ v => ∃ d : Int, v = .int d /\ Dy d) (by rw [Am9, An5]; lia) (λ x _ H' _ R hR => hR) ?_ (λ D H3 ys s3 _ hD hlen hG => ?_)
  ·
   intro x hx H' sm R hR
   obtain ⟨i, hi, rfl⟩ := Anx.mp hx
   exact ⟨_, b, rfl, λ v v0 v1 => hR _ H' (Ase _) ⟨_, rfl, by constructor <;> split <;> lia⟩⟩
  obtain ⟨ds, rfl, hds⟩ := Vg λ v hv => (Aa7 hlen hG v hv).choose_spec.2
  rw [Am9, Am9, An5] at hlen
  exact ⟨D, _, rfl, .inl ⟨Asf hD, λ u hu => k u ds _ (s3.trans (Ai hu)) Ae hlen hds⟩⟩
 ·
  refine ⟨_, rfl, dkl, dkl, ?_⟩
  refine wx (Lf 0 m.toNat _) (λ _ v => ∃ d : Int, v = .int d /\ Dy d) (by rw [Am9, An5]; lia) (λ x _ H' _ R hR => hR) ?_ (λ D H3 ys s3 _ hD hlen hG => ?_)
  ·
   intro x hx H' sm R hR
   obtain ⟨i, hi, rfl⟩ := Anx.mp hx
   exact ⟨_, _, rfl, rfl, .inl ⟨dkd, dkd⟩, _, rfl, λ n n0 => ⟨_, b, rfl, λ v v0 v1 => hR _ H' (Ase _) ⟨v, rfl, v0, v1⟩⟩⟩
  obtain ⟨ds, rfl, hds⟩ := Vg λ v hv => (Aa7 hlen hG v hv).choose_spec.2
  rw [Am9, Am9, An5] at hlen
  exact ⟨D, _, rfl, .inl ⟨Asf hD, λ u hu => k u ds _ (s3.trans (Ai hu)) Ae hlen hds⟩⟩
def Kg : Fk P w T 3 a.L7 a.Ma ["first", "every"] (jy) := by
 refine T.Jl.gq ["first", "every"] λ cdv A outer s H vs Q E hr h => ?_
 obtain ⟨f, e, rfl, ⟨f0, f1, e0, e1⟩, k⟩ := h
 refine ⟨_, (Ac (Dd (qc (Hq T) hr T.Jy T.Hh T.Kd (Aa (qv 0) Ad)))
  (Af (Dd (qc (Bt T) hr T.Cc T.Bp T.Cb (Aa (qv 1) (Aa Ab (Aa (B8 rfl T.Le) Ad))))))), ?_⟩
 exact ⟨f, rfl, f0, f1, e, 1, 1000, rfl, e0, e1, k⟩
def Ik : Fk P w T 3 a.K0 a.Gr ["self", "step", "first"] (mq (ad a)) := by
 refine T.j9.gq ["self", "step", "first"] λ cdv A outer s H vs Q E hr h => ?_
 obtain ⟨x, dx, st, fi, rfl, hx, ⟨s1, s2, f0, f1⟩, k⟩ := h
 refine ⟨_, (Ac (Dd (qc (Bt T) hr T.Cc T.Bp T.Cb (Aa (qv 1) (Aa Ab (Aa (Ag A7 (B8 rfl T.N6) Ab) Ad)))))
  (Ac (Dd (qc (Hq T) hr T.Jy T.Hh T.Kd (Aa (qv 2) Ad)))
  (Ac (Ci (K := K) rfl (qv 0) (qv 1))
  (Af (Ci (K := K) rfl (qv 0) (qv 2)))))), ?_⟩
 refine ⟨st, 1, _, rfl, s1, (by show st <= 146097 - 1; lia), ?_⟩
 refine ⟨fi, rfl, f0, f1, ?_⟩
 refine ⟨hx, T.Fn, T.Ob, ?_⟩
 refine ⟨Ae, T.Fn, T.Hz, ?_⟩
 exact k _ (λ c u hc e => by rw [An hc, An hc]; exact e) ⟨dx, Ae⟩
def U7 : Aw ["self", "days", "day"] ["self", "days"] (Ah Q4) := qsc
def i4 : Fk P w T 3 a.Mo a.L6 ["self", "days"] (ql (ad a)) := by
 refine T.nh.go U7 λ cdv A outer s H vs Q E hr h => ?_
 obtain ⟨x, dx, p, ds, rfl, hx, hp, ⟨hl0, hb⟩, k⟩ := h
 refine ⟨_, (Ac (To Aof rfl (Sw (K := K) rfl (qv 1)) (qnm 2 U7.nd) (Af (Dd (qc (Hq T) hr T.Jy T.Hh T.Kd (Aa (qv 2) Ad)))))
  (Af (Ci (K := K) rfl (qv 0) (qty (B6 (K := K) rfl) T.Jf (Aa (qb (Qz rfl) T.Qj (Aa (qty (Abj rfl) T.vc (Aa (qv 1) Ad)) Ad)) Ad))))), ?_⟩
 refine ⟨p, rfl, ⟨_, Asd hp⟩, ?_⟩
 refine Oz (Tw (Asd hp)) (λ i σ H' => H' = H /\ ∃ y, σ = [some (.ref x), some (.ref p), y]) ⟨rfl, _, rfl⟩ (λ _ _ _ _ h => h.1 ▸ Ase _) ?_ ?_
 ·
  rintro i v σ H1 hv ⟨rfl, y, rfl⟩
  obtain ⟨b, hbm, rfl⟩ := Anx.mp (Aoa hv)
  obtain ⟨b0, b1⟩ := hb b hbm
  exact ⟨b, rfl, b0, b1, rfl, _, rfl⟩
 rintro σ H1 ⟨rfl, y, rfl⟩
 refine ⟨p, ds, rfl, hp, dkl, λ D qs hD hmem hnd => ?_⟩
 have u1 := Ai (o := .ext (SetI P w D qs)) hD
 have hq := cb hnd λ z hz => (hmem z).mp hz
 refine ⟨D, qs, rfl, Ae, dkl, λ D2 ms hD2 hpm hlt => ?_⟩
 have hms : ∀ z, z ∈ ms ↔ z ∈ ds := λ z => by rw [hpm.mem_iff, hmem]
 have hlen : ms.length <= 1000 := by
  have := cb (hlt.imp λ h => by lia) λ z hz => (hms z).mp hz
  lia
 have u2 := Ai (o := .lst (ms.map V.int)) hD2
 refine ⟨D2, _, rfl, .inl ⟨Asf Ae, λ d hd => ?_⟩⟩
 have u3 := Ai (o := .tup (ms.map V.int)) hd
 have U := (u1.trans u2).trans u3
 have nd : d ≠ x := λ e => by rw [e, (u1.trans u2) _ _ hx] at hd; cases hd
 refine ⟨U _ _ hx, T.Pc, T.Mw, ?_⟩
 exact k _ (λ c u hc e => by rw [An hc]; exact U _ _ e) ⟨dx, d, ms, Ae, by rw [An nd]; exact Ae, hlt, hlen, hms⟩
def F0 : Aw ["_law_day_here", "_law_year_here", "_law_left", "_law_month"] ["_law_day_here"] (Ah Xy) := qsc
def Eu : Fk P w T 3 a.Ua a.T8 ["_law_day_here"] (uc) := by
 refine T.Fl.go F0 λ cdv A outer s H vs Q E hr h => ?_
 obtain ⟨d, rfl, h0, h1, k⟩ := h
 refine ⟨_, (Ac (Cr 1 F0.nd (Ag Ap Ab (Ag Au (Ag M4 (qv 0) Ab) Ab)))
  (Ac (A4 (Al lr (qc (Qg T) hr T.Uc T.P0 T.T3 (Aa (qv 1) Ad)) (qv 0) (Am _)) (Af (Cr 1 F0.nd (Ag A7 (qv 1) Ab))) (Af (A4 (Al jn (qc (Qg T) hr T.Uc T.P0 T.T3 (Aa (Ag Ap (qv 1) Ab) Ad)) (qv 0) (Am _)) (Af (Cr 1 F0.nd (Ag Ap (qv 1) Ab))) Ao)))
  (Ac (Cr 2 F0.nd (Ag A7 (qv 0) (qc (Qg T) hr T.Uc T.P0 T.T3 (Aa (qv 1) Ad))))
  (Ac (Cr 3 F0.nd Ab)
  (Ac (Uq Aof (Al Aaf (qv 2) (qc (Io T) hr T.Ld T.Hu T.K5 (Aa (qv 1) (Aa (qv 3) Ad))) (Am _)) (Ac (Cr 2 F0.nd (Ag A7 (qv 2) (qc (Io T) hr T.Ld T.Hu T.K5 (Aa (qv 1) (Aa (qv 3) Ad)))))
  (Af (Cr 3 F0.nd (Ag Ap (qv 3) Ab)))))
  (Af (Aj (Bo (Aa (qv 1) (Aa (qv 3) (Aa (Ag Ap (qv 2) Ab) Ad))))))))))), ?_⟩
 obtain ⟨y1, y2, y3, y4⟩ := DM.Ak0 h0 h1
 refine ⟨_, _, rfl, rfl, .inr ⟨dkd, dkd⟩, ?_⟩
 refine ⟨_, rfl, ?_⟩
 refine ⟨λ e1 => ?_, λ e1 => ?_⟩
 ·
  conv => whnf
  have e : 2000 + d * 400 / 146097 - 1 = DM.yr d := by unfold DM.yr; rw [if_pos (Am8 e1)]
  have z1 : DM.year (2000 + d * 400 / 146097 - 1) <= d := by rw [e]; exact y1
  have z2 : d < DM.year ((2000 + d * 400 / 146097 - 1) + 1) := by rw [e]; exact y2
  have z3 : 2000 <= 2000 + d * 400 / 146097 - 1 := by rw [e]; exact y3
  have z4 : 2000 + d * 400 / 146097 - 1 < 2400 := by rw [e]; exact y4
  refine ⟨_, rfl, ?_⟩
  refine ⟨λ m σ H' => ∃ mo left : Int, σ = [some (.int d), some (.int (2000 + d * 400 / 146097 - 1)), some (.int left), some (.int mo)] /\ 1 <= mo /\ mo <= 12 /\ 0 <= left /\ DM.mb (12 * ((2000 + d * 400 / 146097 - 1) - 2000) + (mo - 1)) + left = d /\ Same H H' /\ m = (12 - mo).toNat, ⟨11, 1, d - DM.year (2000 + d * 400 / 146097 - 1), rfl, dkl, dkl, dkl, ?_, Ase _, rfl⟩, ?_⟩
  ·
   rw [show (12 * ((2000 + d * 400 / 146097 - 1) - 2000) + (1 - 1 : Int)) = 12 * ((2000 + d * 400 / 146097 - 1) - 2000) by lia, DM.Vw]
   lia
  ·
   rintro m σ H1 ⟨mo, left, rfl, m1, m2, m3, m4, sm, rfl⟩
   generalize 2000 + d * 400 / 146097 - 1 = Y at *
   have en : (12 * (Y - 2000) + (mo - 1)) / 12 = Y - 2000 := by lia
   have er : (12 * (Y - 2000) + (mo - 1)) % 12 = mo - 1 := by lia
   have ms := DM.Vt (12 * (Y - 2000) + (mo - 1))
   rw [en, er, show (2000 : Int) + (Y - 2000) = Y by lia, show mo - 1 + 1 = mo by lia] at ms
   refine ⟨_, _, rfl, λ H2 s2 => ?_⟩
   refine ⟨λ e2 => ?_, λ e2 => ?_⟩
   ·
    have e2' := Am8 e2
    have m12 : mo ≠ 12 := by
     intro z
     subst z
     have := DM.Vw (Y + 1)
     rw [show 12 * (Y + 1 - 2000) = 12 * (Y - 2000) + (12 - 1) + 1 by lia] at this
     lia
    refine ⟨λ σ H' => ∃ m, m < (12 - mo).toNat /\ (∃ mo left : Int, σ = [some (.int d), some (.int Y), some (.int left), some (.int mo)] /\ 1 <= mo /\ mo <= 12 /\ 0 <= left /\ DM.mb (12 * (Y - 2000) + (mo - 1)) + left = d /\ Same H H' /\ m = (12 - mo).toNat), λ _ _ z => z, ?_⟩
    refine ⟨_, _, rfl, λ H3 s3 => ?_⟩
    refine ⟨(12 - (mo + 1)).toNat, dkl, mo + 1, left - DM.len Y mo, rfl, dkl, dkl, dkl, ?_, (sm.trans s2).trans s3, rfl⟩
    rw [show 12 * (Y - 2000) + (mo + 1 - 1) = 12 * (Y - 2000) + (mo - 1) + 1 by lia]
    lia
   ·
    have e2' : ¬ DM.len Y mo <= left := λ z => e2 (Am6 z)
    refine λ p hp => ?_
    have em : DM.mo d = 12 * (Y - 2000) + (mo - 1) := DM.Ad7 h0 h1 dkl dkl
    refine k p _ ((sm.trans s2).trans (Ai hp)) ((sm.trans s2).free hp) ?_
    conv => whnf
    rw [Ae, em, en, er]
    rw [show (2000 : Int) + (Y - 2000) = Y by lia, show mo - 1 + 1 = mo by lia, show d - DM.mb (12 * (Y - 2000) + (mo - 1)) + 1 = left + 1 by lia]
 ·
  refine ⟨_, rfl, ?_⟩
  refine ⟨λ e3 => ?_, λ e3 => ?_⟩
  ·
   conv => whnf
   have e : 2000 + d * 400 / 146097 + 1 = DM.yr d := by unfold DM.yr; rw [if_neg (λ z => e1 (Am6 z)), if_pos (Am8 e3)]
   have z1 : DM.year (2000 + d * 400 / 146097 + 1) <= d := by rw [e]; exact y1
   have z2 : d < DM.year ((2000 + d * 400 / 146097 + 1) + 1) := by rw [e]; exact y2
   have z3 : 2000 <= 2000 + d * 400 / 146097 + 1 := by rw [e]; exact y3
   have z4 : 2000 + d * 400 / 146097 + 1 < 2400 := by rw [e]; exact y4
   refine ⟨_, rfl, ?_⟩
   refine ⟨λ m σ H' => ∃ mo left : Int, σ = [some (.int d), some (.int (2000 + d * 400 / 146097 + 1)), some (.int left), some (.int mo)] /\ 1 <= mo /\ mo <= 12 /\ 0 <= left /\ DM.mb (12 * ((2000 + d * 400 / 146097 + 1) - 2000) + (mo - 1)) + left = d /\ Same H H' /\ m = (12 - mo).toNat, ⟨11, 1, d - DM.year (2000 + d * 400 / 146097 + 1), rfl, dkl, dkl, dkl, ?_, Ase _, rfl⟩, ?_⟩
   ·
    rw [show (12 * ((2000 + d * 400 / 146097 + 1) - 2000) + (1 - 1 : Int)) = 12 * ((2000 + d * 400 / 146097 + 1) - 2000) by lia, DM.Vw]
    lia
   ·
    rintro m σ H1 ⟨mo, left, rfl, m1, m2, m3, m4, sm, rfl⟩
    generalize 2000 + d * 400 / 146097 + 1 = Y at *
    have en : (12 * (Y - 2000) + (mo - 1)) / 12 = Y - 2000 := by lia
    have er : (12 * (Y - 2000) + (mo - 1)) % 12 = mo - 1 := by lia
    have ms := DM.Vt (12 * (Y - 2000) + (mo - 1))
    rw [en, er, show (2000 : Int) + (Y - 2000) = Y by lia, show mo - 1 + 1 = mo by lia] at ms
    refine ⟨_, _, rfl, λ H2 s2 => ?_⟩
    refine ⟨λ e2 => ?_, λ e2 => ?_⟩
    ·
     have e2' := Am8 e2
     have m12 : mo ≠ 12 := by
      intro z
      subst z
      have := DM.Vw (Y + 1)
      rw [show 12 * (Y + 1 - 2000) = 12 * (Y - 2000) + (12 - 1) + 1 by lia] at this
      lia
     refine ⟨λ σ H' => ∃ m, m < (12 - mo).toNat /\ (∃ mo left : Int, σ = [some (.int d), some (.int Y), some (.int left), some (.int mo)] /\ 1 <= mo /\ mo <= 12 /\ 0 <= left /\ DM.mb (12 * (Y - 2000) + (mo - 1)) + left = d /\ Same H H' /\ m = (12 - mo).toNat), λ _ _ z => z, ?_⟩
     refine ⟨_, _, rfl, λ H3 s3 => ?_⟩
     refine ⟨(12 - (mo + 1)).toNat, dkl, mo + 1, left - DM.len Y mo, rfl, dkl, dkl, dkl, ?_, (sm.trans s2).trans s3, rfl⟩
     rw [show 12 * (Y - 2000) + (mo + 1 - 1) = 12 * (Y - 2000) + (mo - 1) + 1 by lia]
     lia
    ·
     have e2' : ¬ DM.len Y mo <= left := λ z => e2 (Am6 z)
     refine λ p hp => ?_
     have em : DM.mo d = 12 * (Y - 2000) + (mo - 1) := DM.Ad7 h0 h1 dkl dkl
     refine k p _ ((sm.trans s2).trans (Ai hp)) ((sm.trans s2).free hp) ?_
     conv => whnf
     rw [Ae, em, en, er]
     rw [show (2000 : Int) + (Y - 2000) = Y by lia, show mo - 1 + 1 = mo by lia, show d - DM.mb (12 * (Y - 2000) + (mo - 1)) + 1 = left + 1 by lia]
  ·
   have e : 2000 + d * 400 / 146097 = DM.yr d := by unfold DM.yr; rw [if_neg (λ z => e1 (Am6 z)), if_neg (λ z => e3 (Am6 z))]
   have z1 : DM.year (2000 + d * 400 / 146097) <= d := by rw [e]; exact y1
   have z2 : d < DM.year ((2000 + d * 400 / 146097) + 1) := by rw [e]; exact y2
   have z3 : 2000 <= 2000 + d * 400 / 146097 := by rw [e]; exact y3
   have z4 : 2000 + d * 400 / 146097 < 2400 := by rw [e]; exact y4
   refine ⟨_, rfl, ?_⟩
   refine ⟨λ m σ H' => ∃ mo left : Int, σ = [some (.int d), some (.int (2000 + d * 400 / 146097)), some (.int left), some (.int mo)] /\ 1 <= mo /\ mo <= 12 /\ 0 <= left /\ DM.mb (12 * ((2000 + d * 400 / 146097) - 2000) + (mo - 1)) + left = d /\ Same H H' /\ m = (12 - mo).toNat, ⟨11, 1, d - DM.year (2000 + d * 400 / 146097), rfl, dkl, dkl, dkl, ?_, Ase _, rfl⟩, ?_⟩
   ·
    rw [show (12 * ((2000 + d * 400 / 146097) - 2000) + (1 - 1 : Int)) = 12 * ((2000 + d * 400 / 146097) - 2000) by lia, DM.Vw]
    lia
   ·
    rintro m σ H1 ⟨mo, left, rfl, m1, m2, m3, m4, sm, rfl⟩
    generalize 2000 + d * 400 / 146097 = Y at *
    have en : (12 * (Y - 2000) + (mo - 1)) / 12 = Y - 2000 := by lia
    have er : (12 * (Y - 2000) + (mo - 1)) % 12 = mo - 1 := by lia
    have ms := DM.Vt (12 * (Y - 2000) + (mo - 1))
    rw [en, er, show (2000 : Int) + (Y - 2000) = Y by lia, show mo - 1 + 1 = mo by lia] at ms
    refine ⟨_, _, rfl, λ H2 s2 => ?_⟩
    refine ⟨λ e2 => ?_, λ e2 => ?_⟩
    ·
     have e2' := Am8 e2
     have m12 : mo ≠ 12 := by
      intro z
      subst z
      have := DM.Vw (Y + 1)
      rw [show 12 * (Y + 1 - 2000) = 12 * (Y - 2000) + (12 - 1) + 1 by lia] at this
      lia
     refine ⟨λ σ H' => ∃ m, m < (12 - mo).toNat /\ (∃ mo left : Int, σ = [some (.int d), some (.int Y), some (.int left), some (.int mo)] /\ 1 <= mo /\ mo <= 12 /\ 0 <= left /\ DM.mb (12 * (Y - 2000) + (mo - 1)) + left = d /\ Same H H' /\ m = (12 - mo).toNat), λ _ _ z => z, ?_⟩
     refine ⟨_, _, rfl, λ H3 s3 => ?_⟩
     refine ⟨(12 - (mo + 1)).toNat, dkl, mo + 1, left - DM.len Y mo, rfl, dkl, dkl, dkl, ?_, (sm.trans s2).trans s3, rfl⟩
     rw [show 12 * (Y - 2000) + (mo + 1 - 1) = 12 * (Y - 2000) + (mo - 1) + 1 by lia]
     lia
    ·
     have e2' : ¬ DM.len Y mo <= left := λ z => e2 (Am6 z)
     refine λ p hp => ?_
     have em : DM.mo d = 12 * (Y - 2000) + (mo - 1) := DM.Ad7 h0 h1 dkl dkl
     refine k p _ ((sm.trans s2).trans (Ai hp)) ((sm.trans s2).free hp) ?_
     conv => whnf
     rw [Ae, em, en, er]
     rw [show (2000 : Int) + (Y - 2000) = Y by lia, show mo - 1 + 1 = mo by lia, show d - DM.mb (12 * (Y - 2000) + (mo - 1)) + 1 = left + 1 by lia]
def zf : Fk P w T 3 a.Wd a.Wm ["_law_year_here", "_law_month", "_law_date_here"] (yz) := by
 refine T.qw.gq ["_law_year_here", "_law_month", "_law_date_here"] λ cdv A outer s H vs Q E hr h => ?_
 obtain ⟨y, m, d, rfl, h1, h2, k⟩ := h
 refine ⟨_, (Af (Aj (Ag A7 (Ag Ap (Ag Ap (qc (Qg T) hr T.Uc T.P0 T.T3 (Aa (qv 0) Ad)) (qb (Abl (K := K) rfl rfl) T.Aax (Aa (Sy (N := ["_law_one", "_law_year_here"]) (cap := [none, some 0]) (by show Cs (Ah ed) _ ["_law_year_here", "_law_month", "_law_date_here"] _ _; exact ⟨rfl, dkk, dkk, dkk, dkk, rfl, dkk⟩) rfl (dg rfl T.Hm (Aa Ab (Aa (qv 1) Ad))) (λ C s H fp => ⟨(Hi (i := 0) (by show (["_law_one", "_law_year_here"] : List Str).Nodup; decide +kernel) rfl (Or.inl rfl) (.inr rfl)), Vi, (qc (Io T) hr T.Ld T.Hu T.K5 (Aa (qv 1) (Aa (qv 0) Ad)))⟩)) Ad))) (qv 2)) Ab))), ?_⟩
 refine ⟨_, rfl, ?_⟩
 refine ⟨_, _, rfl, ⟨dkl, dkl, dkl, dkl⟩, ?_⟩
 refine La (Lf 1 (m - 1).toNat _) (λ _ => true) (λ v => match v with | .int i => V.int (DM.len y i) | v => v) ?_ ?_ ?_ ?_
 ·
  rw [Am9, An5]
  lia
 · exact λ x _ H' _ R hR => hR H' (Ase _)
 ·
  intro x hx _ H' _ R hR
  obtain ⟨i, _, rfl⟩ := Anx.mp hx
  exact ⟨y, _, rfl, λ H2 s2 => hR H2 s2⟩
 ·
  intro D H' sm _ hD
  refine ⟨D, (List.range (m - 1).toNat).map λ (i : Nat) => DM.len y (1 + (i : Int)), rfl, Asf ?_, ?_⟩
  ·
   rw [hD, Aqq.mpr (λ _ _ => rfl), Ao2, Ao2]
   rfl
  ·
   have q := k H' sm
   have e := DM.Abk y (m - 1).toNat dkl
   rw [show (((m - 1).toNat : Nat) : Int) = m - 1 by lia] at e
   rw [e, ← k7] at q
   exact q
def kx : Aw ["day", "number"] ["day"] (Ah d4) := qsc
def yw : Fk P w T 4 a.W2 a.Wb ["day"] (xy) := by
 refine T.pf.go kx λ cdv A outer s H vs Q E hr h => ?_
 obtain ⟨d, rfl, h0, h1, k⟩ := h
 refine ⟨_, (Ac (A4 (Uz (Dz (qc (M1 T) hr T.Ri T.Nz T.Qk (Aa (qv 0) Ad)))) (Af Jc) Ao)
  (Ac (Cr 1 kx.nd (qc (Ng T) hr T.Pe T.Mp T.Pw (Aa (qv 0) Ad)))
  (Af (Aj (Bo (Aa (Ag Ap (B8 rfl T.Eo) (Ag Au (qv 1) Ab)) (Aa (Ag Ap (Ag As (qv 1) Ab) Ab) (Aa (Ag Ap (Ag A7 (qv 0) (qc (C0 T) hr T.Dm T.Cv T.Dp (Aa (qv 1) Ad))) Ab) Ad)))))))), ?_⟩
 refine ⟨d, rfl, ?_⟩
 refine Ahp ⟨h0, h1⟩ ?_
 refine ⟨_, rfl, ?_⟩
 exact ⟨_, rfl, λ p hp => k p _ (Ai hp) hp Ae⟩
def Lv : Fk P w T 4 a.Iy a.Eg ["self", "mask", "first", "every"] (jz (ad a)) := by
 refine T.dv.gq ["self", "mask", "first", "every"] λ cdv A outer s H vs Q E hr h => ?_
 obtain ⟨x, dx, mk, fi, e, rfl, hx, ⟨m0, m1, hf⟩, k⟩ := h
 refine ⟨_, (Ac (Dd (qc (Bt T) hr T.Cc T.Bp T.Cb (Aa (qv 1) (Aa Ab (Aa Ab Ad)))))
  (Ac (Dd (qc (Kg T) hr T.L9 T.Jl T.Me (Aa (qv 2) (Aa (qv 3) Ad))))
  (Ac (Ci (K := K) rfl (qv 0) (qv 1))
  (Ac (Ci (K := K) rfl (qv 0) (qv 2))
  (Af (Ci (K := K) rfl (qv 0) (qv 3))))))), ?_⟩
 refine ⟨mk, 1, 127, rfl, m0, m1, ?_⟩
 refine ⟨fi, e, rfl, hf, ?_⟩
 refine ⟨hx, T.Cg, T.W3, ?_⟩
 refine ⟨Ae, T.Cg, T.Ks, ?_⟩
 refine ⟨Ae, T.Cg, T.O0, ?_⟩
 exact k _ (λ c u hc e => by rw [An hc, An hc, An hc]; exact e) ⟨dx, Ae⟩
def Kf : Fk P w T 4 a.He a.Dg ["self", "date", "first", "every"] (fz (ad a)) := by
 refine T.aa.gq ["self", "date", "first", "every"] λ cdv A outer s H vs Q E hr h => ?_
 obtain ⟨x, dx, dt, fi, e, rfl, hx, ⟨d0, d1, d2, hf⟩, k⟩ := h
 refine ⟨_, (Ac (Dd (qc (Bt T) hr T.Cc T.Bp T.Cb (Aa (qb xr T.yk (Aa (qv 1) Ad)) (Aa Ab (Aa Ab Ad)))))
  (Ac (Dd (qc (Kg T) hr T.L9 T.Jl T.Me (Aa (qv 2) (Aa (qv 3) Ad))))
  (Ac (Dd (ll T.Ke ((Jw T).mono dkd) hr rfl T.dq T.Lr .nil Js (Aa (qv 0) (Aa (qc (Ng T) hr T.Pe T.Mp T.Pw (Aa (qv 2) Ad)) (Aa (qv 3) (Aa (qv 2) Ad))))))
  (Ac (Ci (K := K) rfl (qv 0) (qv 1))
  (Af (Ci (K := K) rfl (qv 0) (qv 3))))))), ?_⟩
 obtain ⟨a1, a2⟩ := Aee d0 d1 d2
 refine ⟨dt, rfl, _, 1, 31, rfl, a1, a2, ?_⟩
 refine ⟨fi, e, rfl, hf, ?_⟩
 refine ⟨fi, rfl, x, _, dx, _, _, fi, rfl, ⟨T.Cn, T.Lu, T.Ll, T.M6⟩, hx, λ H1 s1 hx1 => ?_⟩
 refine ⟨hx1, T.Cn, T.U9, ?_⟩
 refine ⟨Ae, T.Cn, T.gn, ?_⟩
 exact k _ (λ c u hc e => by rw [An hc, An hc]; exact s1 _ _ hc e) ⟨dx, Ae⟩
def Qw : Fk P w T 4 a.Ot a.Ht ["self", "which", "weekday_of", "first", "every"] (uw (ad a)) := by
 refine T.pj.gq ["self", "which", "weekday_of", "first", "every"] λ cdv A outer s H vs Q E hr h => ?_
 obtain ⟨x, dx, w, wd, fi, e, rfl, hx, ⟨d0, d1, d2, w0, w1, hf⟩, k⟩ := h
 refine ⟨_, (Ac (Dd (qc (Bt T) hr T.Cc T.Bp T.Cb (Aa (qb xr T.yk (Aa (qv 1) Ad)) (Aa Ab (Aa Ab Ad)))))
  (Ac (Dd (qc (Bt T) hr T.Cc T.Bp T.Cb (Aa (qv 2) (Aa Ab (Aa Ab Ad)))))
  (Ac (Dd (qc (Kg T) hr T.L9 T.Jl T.Me (Aa (qv 3) (Aa (qv 4) Ad))))
  (Ac (Dd (ll T.Ke ((Jw T).mono dkd) hr rfl T.dq T.Lr .nil Js (Aa (qv 0) (Aa (qc (Ng T) hr T.Pe T.Mp T.Pw (Aa (qv 3) Ad)) (Aa (qv 4) (Aa (qv 3) Ad))))))
  (Ac (Ci (K := K) rfl (qv 0) (qv 1))
  (Ac (Ci (K := K) rfl (qv 0) (qv 2))
  (Af (Ci (K := K) rfl (qv 0) (qv 4))))))))), ?_⟩
 obtain ⟨a1, a2⟩ := Aee d0 d1 d2
 refine ⟨w, rfl, _, 1, 5, rfl, a1, a2, ?_⟩
 refine ⟨wd, 0, 6, rfl, w0, w1, ?_⟩
 refine ⟨fi, e, rfl, hf, ?_⟩
 refine ⟨fi, rfl, x, _, dx, _, _, fi, rfl, ⟨T.Lz, T.So, T.Sr, T.Vr⟩, hx, λ H1 s1 hx1 => ?_⟩
 refine ⟨hx1, T.Lz, T.gx, ?_⟩
 refine ⟨Ae, T.Lz, T.R4, ?_⟩
 refine ⟨Ae, T.Lz, T.ve, ?_⟩
 exact k _ (λ c u hc e => by rw [An hc, An hc, An hc]; exact s1 _ _ hc e) ⟨dx, Ae⟩
def Td : Aw ["_law_cell", "_law_some"] ["_law_cell"] (Ah O6) := qsc
def iy : Fk P w T 4 a.K1 a.Ku ["_law_cell"] (ir) := by
 refine T.Uy.go Td λ cdv A outer s H vs Q E hr h => ?_
 obtain ⟨c, rfl, k⟩ := h
 refine ⟨_, (Ac (Cr 1 Td.nd (Lb (Yx [.int 0, .int 146096, .int 59, .int 60, .int 365, .int 366, .int 36584, .int 36583, .int 73108, .int 146037, .int 146036, .int 1460] dkk)))
  (Ac (A4 (Al Be (Ag As (qv 0) Ab) Ab (Am _)) (Af (Aj (qil K (qv 1) (Ag As (Ag Au (qv 0) Ab) Ab)))) Ao)
  (Ac (A4 (Al Be (Ag As (qv 0) Ab) Ab (Am _)) (Af (Aj (qc (zf T) hr T.Ach T.qw T.Aa8 (Aa (Ag Ap Ab (Ag As (Ag Au (qv 0) Ab) Ab)) (Aa (Ag Ap Ab (Ag As (Ag Au (qv 0) Ab) Ab)) (Aa (Ag Ap Ab (Ag As (Ag Au (qv 0) Ab) Ab)) Ad)))))) Ao)
  (Af (Aj (Ag As (Ag Au (qv 0) Ab) Ab)))))), ?_⟩
 refine λ l hl => ?_
 refine ⟨λ e1 => ?_, λ e1 => ?_⟩
 ·
  have i0 : 0 <= c / 4 % 12 := Anz _ dkd
  have i1 : c / 4 % 12 < 12 := Anw _ dkd
  obtain ⟨t, ht, et⟩ := ax (ts := [0, 146096, 59, 60, 365, 366, 36584, 36583, 73108, 146037, 146036, 1460]) i0 i1
  have ht' := Agr t ht
  exact ⟨Asf Ae, et, k t _ ht'.1 ht'.2 (Ai hl)⟩
 refine ⟨λ e2 => ?_, λ e2 => ?_⟩
 ·
  have a0 : 0 <= c / 4 % 400 := Anz _ dkd
  have a1 : c / 4 % 400 < 400 := Anw _ dkd
  have b0 : 0 <= c / 1600 % 12 := Anz _ dkd
  have b1 : c / 1600 % 12 < 12 := Anw _ dkd
  have c0 : 0 <= c / 19200 % 28 := Anz _ dkd
  have c1 : c / 19200 % 28 < 28 := Anw _ dkd
  refine ⟨_, _, _, rfl, dkl, dkl, λ H2 s2 => ?_⟩
  conv => whnf
  generalize c / 4 % 400 = ya at *
  generalize c / 1600 % 12 = mo at *
  generalize c / 19200 % 28 = da at *
  have r := DM.Akx (n := 12 * (2000 + ya - 2000) + (1 + mo - 1)) dkl dkl
  have q := DM.Ag7 (12 * (2000 + ya - 2000) + (1 + mo - 1))
  exact k _ H2 dkl dkl ((Ai hl).trans s2)
 · exact k _ _ (Anz _ dkd) (Anw _ dkd) (Ai hl)
def Cu : Aw ["_law_pick", "_law_base", "_law_more", "_law_first_here", "_law_often_here", "_law_way", "_law_month", "_law_year_here", "_law_date_here"] ["_law_pick", "_law_base"] (Ah Np) := qsc
def mx : Fk P w T 4 a.Nl a.Oj ["_law_pick", "_law_base"] (n6) := by
 refine T.Y4.go Cu λ cdv A outer s H vs Q E hr h => ?_
 obtain ⟨p, b, rfl, k⟩ := h
 refine ⟨_, (Ac (Cr 2 Cu.nd (qc (B2 T) hr T.C7 T.Cm T.C6 (Aa (Ag Ap (qv 0) Ab) Ad)))
  (Ac (Cr 3 Cu.nd (qc (pv T) hr T.vd T.cf T.va (Aa (qc (B2 T) hr T.C7 T.Cm T.C6 (Aa (Ag Ap (qv 0) Ab) Ad)) (Aa (qv 1) Ad))))
  (Ac (Cr 4 Cu.nd (qc (rn T) hr T.uj T.dz T.ua (Aa (qc (B2 T) hr T.C7 T.Cm T.C6 (Aa (Ag Ap (qv 0) Ab) Ad)) Ad)))
  (Ac (Cr 5 Cu.nd (Ag As (qv 0) Ab))
  (Ac (A4 (Al Be (qv 5) Ab (Am _)) (Af (Aj (Bo (Aa Bh (Aa (qil K (Lb (Aa (Ag Ap Ab (Ag As (Ag Au (qv 2) Ab) Ab)) (Aa (Ag Ap Ab (Ag As (Ag Au (qv 2) Ab) Ab)) (Aa Ab (Aa (Ag Ap Ab (Ag As (Ag Au (qv 2) Ab) Ab)) Ad))))) (Ag As (qv 2) Ab)) (Aa (qv 3) Ad)))))) Ao)
  (Ac (A4 (Al Be (qv 5) Ab (Am _)) (Af (Aj (Bo (Aa Bh (Aa (Ag Ap Ab (Ag As (qv 2) Ab)) (Aa (qv 3) (Aa (qv 4) Ad))))))) Ao)
  (Ac (A4 (Al Be (qv 5) Ab (Am _)) (Af (Aj (Bo (Aa Bh (Aa (qil K (Lb (Aa (Ag Ap Ab (Ag As (Ag Au (qv 2) Ab) Ab)) (Aa (Ag A7 (m6 Y0 Ab) (Ag As (Ag Au (qv 2) Ab) Ab)) (Aa Ab (Aa (m6 Y0 Ab) (Aa Ab Ad)))))) (Ag As (qv 2) Ab)) (Aa (qv 3) (Aa (qv 4) Ad))))))) Ao)
  (Ac (A4 (Al Be (qv 5) Ab (Am _)) (Af (Aj (Bo (Aa Bh (Aa (qil K (Lb (Yx [.int 1, .int 2, .int 5, .int (-1), .int (-5), .int 3, .int (-2), .int 4, .int (-3), .int (-4)] dkk)) (Ag As (qv 2) Ab)) (Aa (Ag As (Ag Au (qv 2) Ab) Ab) (Aa (qv 3) (Aa (qv 4) Ad)))))))) Ao)
  (Ac (A4 (Al Be (qv 5) Ab (Am _)) (J3 (Cr 6 Cu.nd (Ag Ap Ab (Ag As (Ag Ap (Ag A7 (qix K (qc (Eu T) hr T.F8 T.Fl T.Gg (Aa (qc (Fq T) hr T.Hw T.Gd T.Hv (Aa (Ag Au (qv 2) Ab) (Aa (qv 1) Ad))) Ad)) Ab) Ab) (Ag As (qv 2) Ab)) Ab)))
  (Af (Aj (Bo (Aa Bh (Aa (qv 6) (Aa (qil K (Lb (Aa (Ag Ap Ab (Ag As (Ag Au (qv 2) Ab) Ab)) (Aa (qc (Io T) hr T.Ld T.Hu T.K5 (Aa Ab (Aa (qv 6) Ad))) Ad))) (qty Wy T.oh (Aa (A8 Be (Ag As (qv 2) Ab) Ab (Am _)) Ad))) (Aa (qv 3) (Aa (qv 4) Ad))))))))) Ao)
  (Ac (A4 (Al Be (qv 5) Ab (Am _)) (Af (Aj (Bo (Aa Bh (Aa (qty (B6 (K := K) rfl) T.Jf (Aa (Sy (N := ["_law_k", "_law_base", "_law_more"]) (cap := [none, some 1, some 2]) (by show Cs (Ah Np) _ ["_law_pick", "_law_base", "_law_more", "_law_first_here", "_law_often_here", "_law_way", "_law_month", "_law_year_here", "_law_date_here"] _ _; exact ⟨rfl, dkk, dkk, dkk, dkk, rfl, dkk⟩) rfl (Pt rfl T.Hm (Aa (Ag As (qv 2) Ab) Ad)) (λ C s H fp => ⟨(Hi (i := 0) (by show (["_law_k", "_law_base", "_law_more"] : List Str).Nodup; decide +kernel) rfl (Or.inl rfl) (.inr rfl)), Vi, (qc (Fq T) hr T.Hw T.Gd T.Hv (Aa (qc (B2 T) hr T.C7 T.Cm T.C6 (Aa (Ag Ap (qv 2) (qv 0)) Ad)) (Aa (qv 1) Ad)))⟩)) Ad)) Ad))))) Ao)
  (Ac (A4 (Al Be (qv 5) Ab (Am _)) (Af (Aj (Bo (Aa Bh (Aa (Ag Ap Ab (Ag As (qv 2) Ab)) (Aa (Ag As (Ag Au (qv 2) Ab) Ab) Ad)))))) Ao)
  (Ac (A4 (Al Be (qv 5) Ab (Am _)) (Af (Aj (Bo (Aa Bh Ad)))) Ao)
  (Ac (Aay (qc (Eu T) hr T.F8 T.Fl T.Gg (Aa (qc (Fq T) hr T.Hw T.Gd T.Hv (Aa (qv 2) (Aa (qv 1) Ad))) Ad)) (wj rfl (F9 (qnm 7 Cu.nd) (F9 (qnm 6 Cu.nd) (F9 (qnm 8 Cu.nd) fk)))))
  (Af (Aj (Bo (Aa Bh (Aa (qv 6) (Aa (qb (J1 rfl) T.Su (Aa (qv 8) (Aa Ab Ad))) (Aa (qb (O4 rfl) T.V3 (Aa Ab (Aa (Ag A7 (qc (Fq T) hr T.Hw T.Gd T.Hv (Aa (qv 2) (Aa (qv 1) Ad))) (Ag As (Ag Au (qv 2) Ab) Ab)) Ad))) (Aa (Ag Ap Ab (Ag As (Ag Au (qv 2) Ab) Ab)) Ad))))))))))))))))))))), ?_⟩
 refine ⟨_, rfl, λ m m0 => ?_⟩
 refine ⟨_, rfl, λ n1 _ => ⟨_, b, rfl, λ fi H1 f0 f1 s1 => ?_⟩⟩
 refine ⟨_, rfl, λ n2 _ => ⟨_, rfl, λ e H2 e0 e1 s2 => ?_⟩⟩
 have S := s1.trans s2
 have hf : Fi fi e := ⟨f0, f1, e0, e1⟩
 refine ⟨λ _ => ?_, λ _ => ?_⟩
 ·
  refine λ L hL => ?_
  obtain ⟨t, t0, t1, ht⟩ := Xq (ts := [1 + m / 4 % 9, 1 + m / 4 % 60, 7, 1 + m / 4 % 146096]) (i := m % 4) 1 146096 (Anz _ dkd) (Anw _ dkd) (λ t ht => by
   rcases Anf.mp ht with rfl | ht; · lia
   rcases Anf.mp ht with rfl | ht; · lia
   rcases Anf.mp ht with rfl | ht; · decide
   rw [An3] at ht; subst ht; lia)
  exact ⟨Asf Ae, ht, λ t ht => k t (.ev _ fi) _ ((S.trans (Ai hL)).trans (Ai ht)) Ae ⟨t0, t1, f0, f1⟩⟩
 refine ⟨λ _ => ?_, λ _ => ?_⟩
 · exact λ t ht => k t (.wk _ fi e) _ (S.trans (Ai ht)) Ae ⟨dkl, dkl, hf⟩
 refine ⟨λ _ => ?_, λ _ => ?_⟩
 ·
  refine λ L hL => ?_
  obtain ⟨t, ⟨t0, t1, t2⟩, ht⟩ := Aaa (ts := [1 + m / 5 % 31, -1 - m / 5 % 31, 31, -1, 29]) (i := m % 5) (λ t => -31 <= t /\ t <= 31 /\ t ≠ 0) (Anz _ dkd) (Anw _ dkd) (λ t ht => by
   rcases Anf.mp ht with rfl | ht; · show _ /\ _ /\ _; lia
   rcases Anf.mp ht with rfl | ht; · show _ /\ _ /\ _; lia
   rcases Anf.mp ht with rfl | ht; · decide
   rcases Anf.mp ht with rfl | ht; · decide
   rw [An3] at ht; subst ht; decide)
  exact ⟨Asf Ae, ht, λ t ht => k t (.mo _ fi e) _ ((S.trans (Ai hL)).trans (Ai ht)) Ae ⟨t0, t1, t2, hf⟩⟩
 refine ⟨λ _ => ?_, λ _ => ?_⟩
 ·
  refine λ L hL => ?_
  obtain ⟨t, ⟨t0, t1, t2⟩, ht⟩ := Aaa (ts := [1, 2, 5, -1, -5, 3, -2, 4, -3, -4]) (i := m % 10) (λ t => -5 <= t /\ t <= 5 /\ t ≠ 0) (Anz _ dkd) (Anw _ dkd) Ahs
  exact ⟨Asf Ae, ht, λ t ht => k t (.nt _ _ fi e) _ ((S.trans (Ai hL)).trans (Ai ht)) Ae ⟨t0, t1, t2, dkl, dkl, hf⟩⟩
 refine ⟨λ _ => ?_, λ _ => ?_⟩
 ·
  refine ⟨λ σ' H' => ∃ mn w : Int, 1 <= mn /\ mn <= 12 /\ Same H2 H' /\ σ' = [some (.int p), some (.int b), some (.int m), some (.int fi), some (.int e), some (.int w), some (.int mn), none, none], ?_, ?_⟩
  ·
   refine ⟨_, b, rfl, λ v v0 v1 => ⟨v, rfl, v0, v1, λ q H3 s3 _ hq => ⟨Asd hq, rfl, _, _, ?_, ?_, s3, rfl⟩⟩⟩
   · lia
   · lia
  rintro σ H3 ⟨mn, w, mn0, mn1, s3, rfl⟩
  have lp := DM.len_pos 2000 mn
  refine ⟨2000, mn, rfl, λ H4 s4 => λ L hL => ?_⟩
  have S4 := (((S.trans s3).trans s4).trans (Ai (o := .lst [.int (1 + m / 31 % 28), .int (DM.len 2000 mn)]) hL))
  refine .inr ⟨_, rfl, Asf Ae, Ajc, ?_⟩
  conv => whnf
  generalize decide (V.int (m % 3) = V.int 0) = bb
  cases bb with
  | true => exact λ t ht => k t (.yr mn (DM.len 2000 mn) fi e) _ (S4.trans (Ai ht)) Ae ⟨mn0, mn1, dkl, Arv _, hf⟩
  | false => exact λ t ht => k t (.yr mn (1 + m / 31 % 28) fi e) _ (S4.trans (Ai ht)) Ae ⟨mn0, mn1, dkl, dkl, hf⟩
 refine ⟨λ _ => ?_, λ _ => ?_⟩
 ·
  refine ⟨_, rfl, dkl, dkl, ?_⟩
  refine Ab4 (Lf 0 (m % 7).toNat _) (λ v => ∃ d : Int, v = .int d /\ 0 <= d /\ d < 146097) (by rw [Am9, An5]; lia) (λ x _ H' _ R hR => hR true H' (Ase _)) ?_ (λ D H3 ys s3 _ hD hG hle => ?_)
  ·
   intro x hx H' sm R hR
   obtain ⟨i, hi, rfl⟩ := Anx.mp hx
   exact ⟨_, rfl, λ n n0 => ⟨_, b, rfl, λ v v0 v1 => hR _ H' (Ase _) ⟨v, rfl, v0, v1⟩⟩⟩
  obtain ⟨ds, rfl, hds⟩ := Vg hG
  rw [Am9, Am9, An5] at hle
  refine ⟨D, _, rfl, .inl ⟨Asf hD, λ u hu => λ t ht => ?_⟩⟩
  exact k t (.dy ds) _ (((S.trans s3).trans (Ai hu)).trans (Ai ht)) ⟨u, Ae, Ai ht _ _ Ae⟩ ⟨dkl, hds⟩
 refine ⟨λ _ => ?_, λ _ => ?_⟩
 · exact λ t ht => k t (.wh _ _) _ (S.trans (Ai ht)) Ae (show (1 : Int) <= 2 + m % 9 by lia)
 refine ⟨λ _ => ?_, λ _ => ?_⟩
 · exact λ t ht => k t (.nv) _ (S.trans (Ai ht)) Ae trivial
 refine ⟨_, b, rfl, λ v v0 v1 => ⟨v, rfl, v0, v1, λ q H3 s3 _ hq => ⟨q, _, rfl, Asd hq, rfl, _, _, rfl, _, _, rfl, _, _, rfl, rfl, ?_⟩⟩⟩
 obtain ⟨o1, o2, o3, o4⟩ := DM.d7 v0 v1
 have lp := DM.len_pos 2000 (DM.mo v % 12 + 1)
 refine ⟨_, b, rfl, λ u u0 u1 => λ t ht => k t (.yr _ _ _ _) _ ((S.trans s3).trans (Ai ht)) Ae ⟨dkl, dkl, ?_, ?_, ?_, ?_, dkl, dkl⟩⟩
 · split <;> lia
 · split <;> lia
 · split <;> lia
 · split <;> lia
def Pu : Aw ["_law_day_here", "_law_date_here", "_law_first_here", "_law_often_here", "_law_begin"] ["_law_day_here", "_law_date_here", "_law_first_here", "_law_often_here"] (Ah Lo) := qsc
def Xz : Fk P w T 4 a.G2 a.Hf ["_law_day_here", "_law_date_here", "_law_first_here", "_law_often_here"] (X0) := by
 refine T.Ru.go Pu λ cdv A outer s H vs Q E hr h => ?_
 obtain ⟨d, p, fi, e, rfl, hp, f0, f1, e0, k⟩ := h
 refine ⟨_, (Ac (Cr 4 Pu.nd (qc (Eu T) hr T.F8 T.Fl T.Gg (Aa (qv 2) Ad)))
  (Af (Aj (Ag Og (Ag A7 (Ag Ap (Ag M4 (Ag A7 (qix K (qv 1) Ab) (qix K (qv 4) Ab)) Ab) (qix K (qv 1) Ab)) (qix K (qv 4) Ab)) (qv 3))))), ?_⟩
 refine ⟨fi, rfl, f0, f1, λ q H1 s1 _ hq => ?_⟩
 have hp1 := s1 _ _ hp
 have k1 := k H1 s1
 rw [← DF.Ais (DM.mo d) (DM.mo fi)] at k1
 exact ⟨Asd (hp1), rfl, Asd (hq), rfl, _, _, rfl, rfl, .inr ⟨dkd, dkd⟩, Asd (hp1), rfl, Asd (hq), rfl, _, _, rfl, rfl, (by show (0 : Int) < e; lia), k1⟩
def Rm : Aw ["self", "month", "date", "first", "every", "year"] ["self", "month", "date", "first", "every"] (Ah Bv) := qsc
def Lj : Fk P w T 5 a.Jk a.Ej ["self", "month", "date", "first", "every"] (jb (ad a)) := by
 refine T.ip.go Rm λ cdv A outer s H vs Q E hr h => ?_
 obtain ⟨x, dx, mn, dt, fi, e, rfl, hx, ⟨m0, m1, d0, d1, hf⟩, k⟩ := h
 refine ⟨_, (Ac (Dd (qc (Bt T) hr T.Cc T.Bp T.Cb (Aa (qv 1) (Aa Ab (Aa Ab Ad)))))
  (Ac (Dd (qc (Bt T) hr T.Cc T.Bp T.Cb (Aa (qv 2) (Aa Ab (Aa (qc (nr T) hr T.rm T.Yz T.qe (Aa (B8 rfl T.M0) (Aa (qv 1) Ad))) Ad)))))
  (Ac (Dd (qc (Kg T) hr T.L9 T.Jl T.Me (Aa (qv 3) (Aa (qv 4) Ad))))
  (Ac (Cr 5 Rm.nd (qix K (qc (yw T) hr T.Aam T.pf T.Abr (Aa (qv 3) Ad)) Ab))
  (Ac (Dd (ll T.Ke ((Jw T).mono dkd) hr rfl T.dq T.Lr .nil Js (Aa (qv 0) (Aa (Ag A7 (Ag Ap (Ag M4 (Ag A7 (qv 5) (B8 rfl T.Eo)) Ab) (qv 1)) Ab) (Aa (Ag M4 (qv 4) Ab) (Aa (qv 3) Ad))))))
  (Ac (Ci (K := K) rfl (qv 0) (qv 1))
  (Ac (Ci (K := K) rfl (qv 0) (qv 2))
  (Af (Ci (K := K) rfl (qv 0) (qv 4)))))))))), ?_⟩
 refine ⟨mn, 1, 12, rfl, m0, m1, ?_⟩
 refine ⟨2000, mn, rfl, m0, m1, dt, 1, _, rfl, d0, d1, ?_⟩
 refine ⟨fi, e, rfl, hf, ?_⟩
 refine ⟨fi, rfl, hf.1, hf.2.1, λ p H0 s0 hp0 hp => ?_⟩
 refine ⟨Asd hp, rfl, ?_⟩
 have hx0 := s0 _ _ hx
 refine ⟨_, _, rfl, rfl, .inr ⟨dkd, dkd⟩, _, _, rfl, rfl, .inr ⟨dkd, dkd⟩, x, _, dx, _, _, fi, rfl, ⟨T.C9, T.Mx, T.Ms, T.O9⟩, hx0, λ H1 s1 hx1 => ?_⟩
 rw [show 2000 + DM.mo fi / 12 - 2000 = DM.mo fi / 12 by lia] at hx1
 refine ⟨hx1, T.C9, T.ja, ?_⟩
 refine ⟨Ae, T.C9, T.Vz, ?_⟩
 refine ⟨Ae, T.C9, T.jr, ?_⟩
 exact k _ (λ c u hc e => by rw [An hc, An hc, An hc]; exact s1 _ _ hc (s0 _ _ e)) ⟨dx, Ae⟩
def Ft : Aw ["_law_rule_here", "_law_day_here", "_law_date_here", "_law_word", "_law_weeks", "_law_last", "_law_years", "_law_turn"] ["_law_rule_here", "_law_day_here", "_law_date_here"] (Ah Vn) := qsc
theorem sr : Fk P w T 5 a.Q7 a.Q6 ["_law_rule_here", "_law_day_here", "_law_date_here"] (qa) := by
 refine T.gr.go Ft λ cdv A outer s H vs Q E hr h => ?_
 obtain ⟨t, p, d, r, rfl, ht, ok, d0, d1, hp, k⟩ := h
 refine ⟨_, (Ac (Cr 3 Ft.nd (qix K (qv 0) Ab))
  (Ac (A4 (Al Be (qv 3) Bh (Am _)) (Af (Aj Sv)) Ao)
  (Ac (A4 (Al Be (qv 3) Bh (Am _)) (Af (Aj (A8 (Mq (K := K) rfl) (qv 1) (qix K (qv 0) Ab) (by with_unfolding_all rfl)))) Ao)
  (Ac (A4 (Al Be (qv 3) Bh (Am _)) (Af (Aj (A8 Be (Ag Og (Ag M4 (qv 1) (qv 1)) (qix K (qv 0) Ab)) (qix K (qv 0) Ab) (Am _)))) Ao)
  (Ac (A4 (Al Be (qv 3) Bh (Am _)) (Af (Aj (Dx (A8 Aaf (qv 1) (qix K (qv 0) Ab) (Am _)) (Dk (A8 Be (Ag Og (Ag A7 (qv 1) (qix K (qv 0) Ab)) (qix K (qv 0) Ab)) Ab (Am _)))))) Ao)
  (Ac (A4 (Al Ni (qv 1) (qix K (qv 0) (m6 Y0 Ab)) (Am _)) (Af (Aj Sv)) Ao)
  (Ac (A4 (Al Be (qv 3) Bh (Am _)) (Ac (Cr 4 Ft.nd (Ag A7 (Ag Au (Ag Ap (qv 1) Ab) Ab) (Ag Au (Ag Ap (qix K (qv 0) Ab) Ab) Ab)))
  (Af (Aj (Dx (A8 Be (Ag Og (qv 4) (qix K (qv 0) Ab)) Ab (Am _)) (Dk (A8 Be (Ag As (Ag uh (qix K (qv 0) Ab) (qil K (Lb (Yx [.int 1, .int 2, .int 4, .int 8, .int 16, .int 32, .int 64] dkk)) (Ag As (Ag Ap (qv 1) Ab) Ab))) Ab) Ab (Am _))))))) Ao)
  (Ac (Cr 5 Ft.nd (qc (Io T) hr T.Ld T.Hu T.K5 (Aa (qix K (qv 2) Ab) (Aa (qix K (qv 2) Ab) Ad))))
  (Ac (A4 (Al Be (qv 3) Bh (Am _)) (Ac (Cr 6 Ft.nd (Ag A7 (qix K (qv 2) Ab) (qix K (qc (Eu T) hr T.F8 T.Fl T.Gg (Aa (qix K (qv 0) Ab) Ad)) Ab)))
  (Af (Aj (Dx (A8 Be (Ag Og (qv 6) (qix K (qv 0) Ab)) Ab (Am _)) (Dx (A8 Be (qix K (qv 2) Ab) (qix K (qv 0) Ab) (Am _)) (Dk (A8 Be (qix K (qv 2) Ab) (qix K (qv 0) Ab) (Am _)))))))) Ao)
  (Ac (A4 (Al lr (qc (Xz T) hr T.Zt T.Ru T.Z9 (Aa (qv 1) (Aa (qv 2) (Aa (qix K (qv 0) (m6 Y0 Ab)) (Aa (qix K (qv 0) (m6 Y0 Ab)) Ad))))) Ab (Am _)) (Af (Aj Sv)) Ao)
  (Ac (A4 (Al Be (qv 3) Bh (Am _)) (Af (Aj (A8 Be (qix K (qv 2) Ab) (qil K (Lb (Aa (qix K (qv 0) Ab) (Aa (Ag Ap (Ag Ap (qv 5) Ab) (qix K (qv 0) Ab)) Ad))) (qty Wy T.oh (Aa (A8 Ni (qix K (qv 0) Ab) Ab (Am _)) Ad))) (Am _)))) Ao)
  (Ac (Cr 7 Ft.nd (Ag Au (Ag Ap (qix K (qv 2) Ab) Ab) Ab))
  (Ac (A4 (Al Ni (qix K (qv 0) Ab) Ab (Am _)) (Af (Cr 7 Ft.nd (Ag A7 Ab (Ag Au (Ag Ap (Ag A7 (qv 5) (qix K (qv 2) Ab)) Ab) Ab)))) Ao)
  (Af (Aj (Dx (A8 Be (Ag As (Ag Ap (qv 1) Ab) Ab) (qix K (qv 0) Ab) (Am _)) (Dk (A8 Be (qv 7) (qix K (qv 0) Ab) (Am _))))))))))))))))))), ?_⟩
 cases r with
 |
  nv =>
  refine ⟨Asd (ht), rfl, ?_⟩
  refine br dkk ?_
  exact k H (Ase _)
 |
  dy ds =>
  obtain ⟨u, ht, hu⟩ := ht
  refine ⟨Asd (ht), rfl, ?_⟩
  refine Ex dkk ?_
  refine br dkk ?_
  refine ⟨Asd (ht), rfl, u, _, rfl, .inr (Asd hu), rfl, ?_, ?_⟩
  · rw [List.all_map]; exact Aqj.mpr λ _ _ => rfl
  ·
   show Q (.bl (inV (.int d) (ds.map V.int))) H
   rw [Nt]
   exact k H (Ase _)
 |
  wh m r =>
  refine ⟨Asd (ht), rfl, ?_⟩
  refine Ex dkk ?_
  refine Ex dkk ?_
  refine br dkk ?_
  have k0 : Q (.bl (isD d && decide (d * d % m = r))) H := k H (Ase _)
  rw [DF.Ahn d0 d1, An1] at k0
  have m1 : 1 <= m := ok
  refine ⟨_, _, rfl, rfl, .inl ⟨dkl, dkl⟩, Asd (ht), rfl, _, _, rfl, rfl, (by show (0 : Int) < m; lia), Asd (ht), rfl, ?_⟩
  conv => whnf
  rw [Sb]
  exact k0
 |
  ev st fi =>
  refine ⟨Asd (ht), rfl, ?_⟩
  refine Ex dkk ?_
  refine Ex dkk ?_
  refine Ex dkk ?_
  refine br dkk ?_
  obtain ⟨s1, s2, f0, f1⟩ := ok
  have k0 : Q (.bl (isD d && (decide (fi <= d) && decide ((d - fi) % st = 0)))) H := k H (Ase _)
  rw [DF.Ahn d0 d1, An1] at k0
  refine ⟨Asd (ht), rfl, ?_⟩
  conv => whnf
  cases e2 : decide (fi <= d) with
  | false => rw [e2] at k0; exact Ct k0
  | true =>
  rw [e2, An1] at k0
  refine F4 ?_
  refine ⟨Asd (ht), rfl, Asd (ht), rfl, _, _, rfl, rfl, (by show (0 : Int) < st; lia), ?_⟩
  conv => whnf
  rw [Sb]
  exact k0
 |
  wk mk fi e =>
  refine ⟨Asd (ht), rfl, ?_⟩
  refine Ex dkk ?_
  refine Ex dkk ?_
  refine Ex dkk ?_
  refine Ex dkk ?_
  obtain ⟨m0, m1, f0, f1, e0, e1⟩ := ok
  refine ⟨Asd (ht), rfl, ⟨λ z => ?_, λ z => ?_⟩⟩
  ·
   have z' : d < fi := Am8 z
   have k0 := k H (Ase _)
   rw [DF.Acf z'] at k0
   exact k0
  have hf : fi <= d := Api.mp λ w => z (Am6 w)
  clear z
  refine br dkk ?_
  have k0 := k
  refine ⟨Asd (ht), rfl, ?_⟩
  have pw := DF.Ait (mk := mk) (e := e) d0 d1 hf
  refine ⟨Asd (ht), rfl, _, _, rfl, rfl, (by show (0 : Int) < e; lia), ?_⟩
  conv => whnf
  rw [Sb]
  rw [pw] at k0
  cases e2 : decide (((d + 5) / 7 - (fi + 5) / 7) % e = 0) with
  |
   false =>
   have k1 := k0 H (Ase _)
   rw [e2] at k1
   exact Ct k1
  | true =>
  rw [e2, An1] at k0
  refine F4 ⟨Asd (ht), rfl, λ L hL => ?_⟩
  refine ⟨Asf Ae, Aka d, _, _, rfl, rfl, Aik d, ?_⟩
  conv => whnf
  rw [Sb]
  exact k0 _ (Ai hL)
 |
  yr mn dt fi e =>
  refine ⟨Asd (ht), rfl, ?_⟩
  refine Ex dkk ?_
  refine Ex dkk ?_
  refine Ex dkk ?_
  refine Ex dkk ?_
  have ok0 := ok
  obtain ⟨m0, m1, t0, t1, fo⟩ := ok
  refine ⟨Asd (ht), rfl, ⟨λ z => ?_, λ z => ?_⟩⟩
  ·
   have z' : d < fi := Am8 z
   have k0 := k H (Ase _)
   rw [DF.Acf z'] at k0
   exact k0
  have hf : fi <= d := Api.mp λ w => z (Am6 w)
  clear z
  refine Ex dkk ?_
  refine ⟨Asd (hp), rfl, Asd (hp), rfl, _, _, rfl, λ H1 s1 => ?_⟩
  have ht1 := s1 _ _ ht
  have hp1 := s1 _ _ hp
  refine br dkk ?_
  have py := DF.Akl d0 d1 hf ok0
  rw [py] at k
  refine ⟨Asd (hp1), rfl, Asd (ht1), rfl, fi, rfl, fo.1, fo.2.1, λ q H2 s2 _ hq => ?_⟩
  have ht2 := s2 _ _ ht1
  have hp2 := s2 _ _ hp1
  have k0 := k H2 (s1.trans s2)
  refine ⟨Asd hq, rfl, ?_⟩
  refine ⟨Asd (ht2), rfl, _, _, rfl, rfl, (by show (0 : Int) < e; exact fo.2.2.1), ?_⟩
  conv => whnf
  rw [Sb]
  cases e2 : decide ((2000 + DM.mo d / 12 - (2000 + DM.mo fi / 12)) % e = 0) with
  | false => rw [e2] at k0; exact Ct k0
  | true =>
  rw [e2, An1] at k0
  refine F4 ?_
  refine ⟨Asd (hp2), rfl, Asd (ht2), rfl, ?_⟩
  conv => whnf
  rw [Sb]
  cases e3 : decide (DM.mo d % 12 + 1 = mn) with
  | false => rw [e3] at k0; exact Ct k0
  | true =>
  rw [e3, An1] at k0
  refine F4 ?_
  refine ⟨Asd (hp2), rfl, Asd (ht2), rfl, ?_⟩
  conv => whnf
  rw [Sb]
  exact k0
 |
  mo dt fi e =>
  refine ⟨Asd (ht), rfl, ?_⟩
  refine Ex dkk ?_
  refine Ex dkk ?_
  refine Ex dkk ?_
  refine Ex dkk ?_
  have ok0 := ok
  obtain ⟨t0, t1, t2, fo⟩ := ok
  refine ⟨Asd (ht), rfl, ⟨λ z => ?_, λ z => ?_⟩⟩
  ·
   have z' : d < fi := Am8 z
   have k0 := k H (Ase _)
   rw [DF.Acf z'] at k0
   exact k0
  have hf : fi <= d := Api.mp λ w => z (Am6 w)
  clear z
  refine Ex dkk ?_
  refine ⟨Asd (hp), rfl, Asd (hp), rfl, _, _, rfl, λ H1 s1 => ?_⟩
  have ht1 := s1 _ _ ht
  have hp1 := s1 _ _ hp
  refine Ex dkk ?_
  refine ⟨Asd (ht1), rfl, Asd (ht1), rfl, d, p, fi, e, rfl, hp1, fo.1, fo.2.1, fo.2.2.1, λ H2 s2 => ?_⟩
  have ht2 := s2 _ _ ht1
  have hp2 := s2 _ _ hp1
  refine ⟨λ z => ?_, λ z => ?_⟩
  ·
   have k0 := k H2 (s1.trans s2)
   rw [DF.Ah5 d0 d1 hf (Am8 z)] at k0
   exact k0
  rw [DF.Akm d0 d1 hf ok0 (λ w => z (Am6 w))] at k
  refine br dkk ?_
  refine ⟨Asd (hp2), rfl, Asd (ht2), rfl, Asd (ht2), rfl, λ L hL => ?_⟩
  have ht3 := Ai (o := .lst [.int dt, .int (DM.len (2000 + DM.mo d / 12) (DM.mo d % 12 + 1) + 1 + dt)]) hL _ _ ht2
  refine ⟨Asd (ht3), rfl, .inr ⟨_, rfl, Asf Ae, Ajc, ?_⟩⟩
  conv => whnf
  have k0 := k _ ((s1.trans s2).trans (Ai (o := .lst [.int dt, .int (DM.len (2000 + DM.mo d / 12) (DM.mo d % 12 + 1) + 1 + dt)]) hL))
  by_cases hd : dt < 0
  ·
   rw [if_pos hd] at k0
   rw [Am6 hd, if_pos rfl]
   conv => whnf
   rw [Sb]
   exact k0
  ·
   rw [if_neg hd] at k0
   rw [Ane hd, if_neg dkd]
   conv => whnf
   rw [Sb]
   exact k0
 |
  nt w wd fi e =>
  refine ⟨Asd (ht), rfl, ?_⟩
  refine Ex dkk ?_
  refine Ex dkk ?_
  refine Ex dkk ?_
  refine Ex dkk ?_
  have ok0 := ok
  obtain ⟨t0, t1, t2, w0, w1, fo⟩ := ok
  refine ⟨Asd (ht), rfl, ⟨λ z => ?_, λ z => ?_⟩⟩
  ·
   have z' : d < fi := Am8 z
   have k0 := k H (Ase _)
   rw [DF.Acf z'] at k0
   exact k0
  have hf : fi <= d := Api.mp λ w => z (Am6 w)
  clear z
  refine Ex dkk ?_
  refine ⟨Asd (hp), rfl, Asd (hp), rfl, _, _, rfl, λ H1 s1 => ?_⟩
  have ht1 := s1 _ _ ht
  have hp1 := s1 _ _ hp
  refine Ex dkk ?_
  refine ⟨Asd (ht1), rfl, Asd (ht1), rfl, d, p, fi, e, rfl, hp1, fo.1, fo.2.1, fo.2.2.1, λ H2 s2 => ?_⟩
  have ht2 := s2 _ _ ht1
  have hp2 := s2 _ _ hp1
  refine ⟨λ z => ?_, λ z => ?_⟩
  ·
   have k0 := k H2 (s1.trans s2)
   rw [DF.Ahx d0 d1 hf (Am8 z)] at k0
   exact k0
  have k0 := k H2 (s1.trans s2)
  rw [DF.Akt d0 d1 hf ok0 (λ w => z (Am6 w))] at k0
  refine Ex dkk ?_
  refine ⟨Asd (hp2), rfl, Asd (ht2), rfl, ⟨λ z => ?_, λ z => ?_⟩⟩
  ·
   rw [if_pos (Am8 z)] at k0
   refine ⟨Asd (hp2), rfl, ?_⟩
   refine ⟨Asd (ht2), rfl, ?_⟩
   conv => whnf
   rw [Sb]
   cases e2 : decide ((d + 5) % 7 = wd) with
   | false => rw [e2] at k0; exact Ct k0
   | true =>
   rw [e2, An1] at k0
   refine F4 ?_
   refine ⟨Asd (ht2), rfl, ?_⟩
   conv => whnf
   rw [Sb]
   exact k0
  ·
   rw [if_neg (λ w => z (Am6 w))] at k0
   refine ⟨Asd (ht2), rfl, ?_⟩
   conv => whnf
   rw [Sb]
   cases e2 : decide ((d + 5) % 7 = wd) with
   | false => rw [e2] at k0; exact Ct k0
   | true =>
   rw [e2, An1] at k0
   refine F4 ?_
   refine ⟨Asd (ht2), rfl, ?_⟩
   conv => whnf
   rw [Sb]
   exact k0
def My : Aw ["_law_tree_here", "_law_short", "_law_first_here", "_law_often_here"] ["_law_tree_here", "_law_short"] (Ah O8) := qsc
theorem d5 : Fk P w T 7 a.Kn a.Kr ["_law_tree_here", "_law_short"] (iw (ad a)) := by
 refine T.U4.go My λ cdv A outer s H vs Q E hr h => ?_
 obtain ⟨t, b, r, rfl, ht, ok0, hm, k⟩ := h
 refine ⟨_, (Ac (Aay (me (Ae6 (K := K) rfl) (qv 0) (lu (m6 Y0 Ab)) Ab2) (wj rfl (F9 (qnm 2 My.nd) (F9 (qnm 3 My.nd) fk))))
  (Ac (A4 (Al Be (qix K (qv 0) Ab) Bh (Am _)) (Ac (A4 (Asg (M9 (Dz (qv 1)) (Hx (Al Be (qv 3) Ab (Am _))))) (Af (Aj (Ey (Al Be (qv 2) Ab (Am _)) (Gm T.Kc ((Kf T).mono dkd) hr rfl T.iq T.Nm.choose_spec.1 T.Nm.choose_spec.2 Js (Aa (qix K (qv 0) Ab) Ad)) (Gm T.Kc ((Kf T).mono dkd) hr rfl T.iq T.Ou.choose_spec.1 T.Ou.choose_spec.2 Js (Aa (qix K (qv 0) Ab) (Aa (qv 2) Ad)))))) Ao)
  (Af (Aj (qm T.Kc (Kf T) hr T.iq T.Zn (Aa (qix K (qv 0) Ab) (Aa (qv 2) (Aa (qv 3) Ad))))))) Ao)
  (Ac (A4 (Al Be (qix K (qv 0) Ab) Bh (Am _)) (Ac (A4 (Asg (M9 (Dz (qv 1)) (Hx (Al Be (qv 3) Ab (Am _))))) (Af (Aj (Ey (Al Be (qv 2) Ab (Am _)) (Gm T.cj ((Qw T).mono dkd) hr rfl T.Ae3 T.Ux.choose_spec.1 T.Ux.choose_spec.2 Js (Aa (qix K (qv 0) Ab) (Aa (qix K (qv 0) Ab) Ad))) (Gm T.cj ((Qw T).mono dkd) hr rfl T.Ae3 T.Vb.choose_spec.1 T.Vb.choose_spec.2 Js (Aa (qix K (qv 0) Ab) (Aa (qix K (qv 0) Ab) (Aa (qv 2) Ad))))))) Ao)
  (Af (Aj (qm T.cj (Qw T) hr T.Ae3 T.pb (Aa (qix K (qv 0) Ab) (Aa (qix K (qv 0) Ab) (Aa (qv 2) (Aa (qv 3) Ad)))))))) Ao)
  (Ac (A4 (Asg (M9 (Dz (qv 1)) (Hx (Al Be (qv 3) Ab (Am _))))) (Af (Aj (Ey (Al Be (qv 2) Ab (Am _)) (Gm T.Nb ((Lj T).mono dkd) hr rfl T.m7 T.Po.choose_spec.1 T.Po.choose_spec.2 Js (Aa (qix K (qv 0) Ab) (Aa (qix K (qv 0) Ab) Ad))) (Gm T.Nb ((Lj T).mono dkd) hr rfl T.m7 T.Pz.choose_spec.1 T.Pz.choose_spec.2 Js (Aa (qix K (qv 0) Ab) (Aa (qix K (qv 0) Ab) (Aa (qv 2) Ad))))))) Ao)
  (Af (Aj (qm T.Nb (Lj T) hr T.m7 T.cg (Aa (qix K (qv 0) Ab) (Aa (qix K (qv 0) Ab) (Aa (qv 2) (Aa (qv 3) Ad))))))))))), ?_⟩
 cases r with
 |
  mo dt fi e =>
  refine ⟨_, rfl, t, _, rfl, Asd ht, (by show ¬ (HT.sIx 4 0 (some (-2)) = 0 /\ HT.sIx 4 4 none = 4); decide), λ p hp => ?_⟩
  conv => whnf
  rw [Ams]
  refine ⟨p, _, rfl, Asd Ae, rfl, _, _, rfl, _, _, rfl, rfl, ?_⟩
  conv => whnf
  have S := Ai (o := .tup [.int fi, .int e]) hp
  have ht1 := S _ _ ht
  generalize upd H p (.tup [.int fi, .int e]) = H1 at *
  refine ⟨Asd (ht1), rfl, br dkk ?_⟩
  cases b with
  |
   false =>
   refine Ct (Ct ?_)
   refine ⟨Asd (ht1), rfl, λ x dx nx ndx nex => ⟨x, dx, dt, fi, e, rfl, Ae, ok0, λ H3 sx hr3 => ⟨rfl, k x H3 ((Hn nx ndx S sx)) hr3⟩⟩⟩
  | true =>
  refine F4 (⟨λ z => ?_, λ z => ?_⟩)
  ·
   have z1 : e = 1 := V.int.inj (Am8 z)
   subst z1
   refine ⟨λ z => ?_, λ z => ?_⟩
   ·
    have z0 : fi = 0 := V.int.inj (Am8 z)
    subst z0
    refine ⟨Asd (ht1), rfl, λ x dx nx ndx nex => ⟨x, dx, dt, 0, 1, rfl, Ae, ok0, λ H3 sx hr3 => ⟨rfl, k x H3 ((Hn nx ndx S sx)) hr3⟩⟩⟩
   · refine ⟨Asd (ht1), rfl, λ x dx nx ndx nex => ⟨x, dx, dt, fi, 1, rfl, Ae, ok0, λ H3 sx hr3 => ⟨rfl, k x H3 ((Hn nx ndx S sx)) hr3⟩⟩⟩
  · refine ⟨Asd (ht1), rfl, λ x dx nx ndx nex => ⟨x, dx, dt, fi, e, rfl, Ae, ok0, λ H3 sx hr3 => ⟨rfl, k x H3 ((Hn nx ndx S sx)) hr3⟩⟩⟩
 |
  nt w wd fi e =>
  refine ⟨_, rfl, t, _, rfl, Asd ht, (by show ¬ (HT.sIx 5 0 (some (-2)) = 0 /\ HT.sIx 5 5 none = 5); decide), λ p hp => ?_⟩
  conv => whnf
  rw [Alf]
  refine ⟨p, _, rfl, Asd Ae, rfl, _, _, rfl, _, _, rfl, rfl, ?_⟩
  conv => whnf
  have S := Ai (o := .tup [.int fi, .int e]) hp
  have ht1 := S _ _ ht
  generalize upd H p (.tup [.int fi, .int e]) = H1 at *
  refine ⟨Asd (ht1), rfl, Ex dkk ?_⟩
  refine ⟨Asd (ht1), rfl, br dkk ?_⟩
  cases b with
  |
   false =>
   refine Ct (Ct ?_)
   refine ⟨Asd (ht1), rfl, Asd (ht1), rfl, λ x dx nx ndx nex => ⟨x, dx, w, wd, fi, e, rfl, Ae, ok0, λ H3 sx hr3 => ⟨rfl, k x H3 ((Hn nx ndx S sx)) hr3⟩⟩⟩
  | true =>
  refine F4 (⟨λ z => ?_, λ z => ?_⟩)
  ·
   have z1 : e = 1 := V.int.inj (Am8 z)
   subst z1
   refine ⟨λ z => ?_, λ z => ?_⟩
   ·
    have z0 : fi = 0 := V.int.inj (Am8 z)
    subst z0
    refine ⟨Asd (ht1), rfl, Asd (ht1), rfl, λ x dx nx ndx nex => ⟨x, dx, w, wd, 0, 1, rfl, Ae, ok0, λ H3 sx hr3 => ⟨rfl, k x H3 ((Hn nx ndx S sx)) hr3⟩⟩⟩
   · refine ⟨Asd (ht1), rfl, Asd (ht1), rfl, λ x dx nx ndx nex => ⟨x, dx, w, wd, fi, 1, rfl, Ae, ok0, λ H3 sx hr3 => ⟨rfl, k x H3 ((Hn nx ndx S sx)) hr3⟩⟩⟩
  · refine ⟨Asd (ht1), rfl, Asd (ht1), rfl, λ x dx nx ndx nex => ⟨x, dx, w, wd, fi, e, rfl, Ae, ok0, λ H3 sx hr3 => ⟨rfl, k x H3 ((Hn nx ndx S sx)) hr3⟩⟩⟩
 |
  yr mn dt fi e =>
  refine ⟨_, rfl, t, _, rfl, Asd ht, (by show ¬ (HT.sIx 5 0 (some (-2)) = 0 /\ HT.sIx 5 5 none = 5); decide), λ p hp => ?_⟩
  conv => whnf
  rw [Alf]
  refine ⟨p, _, rfl, Asd Ae, rfl, _, _, rfl, _, _, rfl, rfl, ?_⟩
  conv => whnf
  have S := Ai (o := .tup [.int fi, .int e]) hp
  have ht1 := S _ _ ht
  generalize upd H p (.tup [.int fi, .int e]) = H1 at *
  refine ⟨Asd (ht1), rfl, Ex dkk ?_⟩
  refine ⟨Asd (ht1), rfl, Ex dkk ?_⟩
  cases b with
  |
   false =>
   refine Ct (Ct ?_)
   refine ⟨Asd (ht1), rfl, Asd (ht1), rfl, λ x dx nx ndx nex => ⟨x, dx, mn, dt, fi, e, rfl, Ae, ok0, λ H3 sx hr3 => ⟨rfl, k x H3 ((Hn nx ndx S sx)) hr3⟩⟩⟩
  | true =>
  refine F4 (⟨λ z => ?_, λ z => ?_⟩)
  ·
   have z1 : e = 1 := V.int.inj (Am8 z)
   subst z1
   refine ⟨λ z => ?_, λ z => ?_⟩
   ·
    have z0 : fi = 0 := V.int.inj (Am8 z)
    subst z0
    refine ⟨Asd (ht1), rfl, Asd (ht1), rfl, λ x dx nx ndx nex => ⟨x, dx, mn, dt, 0, 1, rfl, Ae, ok0, λ H3 sx hr3 => ⟨rfl, k x H3 ((Hn nx ndx S sx)) hr3⟩⟩⟩
   · refine ⟨Asd (ht1), rfl, Asd (ht1), rfl, λ x dx nx ndx nex => ⟨x, dx, mn, dt, fi, 1, rfl, Ae, ok0, λ H3 sx hr3 => ⟨rfl, k x H3 ((Hn nx ndx S sx)) hr3⟩⟩⟩
  · refine ⟨Asd (ht1), rfl, Asd (ht1), rfl, λ x dx nx ndx nex => ⟨x, dx, mn, dt, fi, e, rfl, Ae, ok0, λ H3 sx hr3 => ⟨rfl, k x H3 ((Hn nx ndx S sx)) hr3⟩⟩⟩
 | nv => exact hm.elim
 | ev _ _ => exact hm.elim
 | wk _ _ _ => exact hm.elim
 | dy _ => exact hm.elim
 | wh _ _ => exact hm.elim
def gk : Aw ["_law_tree_here", "_law_short", "_law_word"] ["_law_tree_here", "_law_short"] (Ah Hs) := qsc
def t9 : Fk P w T 9 a.Pn a.Uj ["_law_tree_here", "_law_short"] (vn (ad a) a.A5) := by
 refine T.lh.okC gk T.vh (λ vs H Q E h => ?_) (λ A outer s H vs Q E hr h => ?_)
 · obtain ⟨t, b, r, rfl, _⟩ := h; rfl
 ·
  obtain ⟨t, b, r, rfl, ht, ok0, tab, k⟩ := h
  refine ⟨_, (Ac (Cr 2 gk.nd (qix K (qv 0) Ab))
   (Ac (A4 (Al Be (qv 2) Bh (Am _)) (Af (Aj (Ada T.Afj rfl T.Ahr))) Ao)
   (Ac (A4 (Al Be (qv 2) Bh (Am _)) (Af (Aj (qm T.iu (i4 T) hr T.Aia T.lq (Aa (qix K (qv 0) Ab) Ad)))) Ao)
   (Ac (A4 (Al Be (qv 2) Bh (Am _)) (Af (Aj (qm T.Xh (dc T) hr T.Afz T.jf (Aa (Ajf T.zg rfl) Ad)))) Ao)
   (Ac (A4 (Al Be (qv 2) Bh (Am _)) (Af (Aj (Ey (Asg (M9 (Dz (qv 1)) (Hx (Al Be (qix K (qv 0) Ab) Ab (Am _))))) (Gm T.Nk ((Ik T).mono dkd) hr rfl T.ml T.Dh.choose_spec.1 T.Dh.choose_spec.2 Js (Aa (qix K (qv 0) Ab) Ad)) (qm T.Nk (Ik T) hr T.ml T.i6 (Aa (qix K (qv 0) Ab) (Aa (qix K (qv 0) Ab) Ad)))))) Ao)
   (Ac (A4 (Al Be (qv 2) Bh (Am _)) (Ac (A4 (Asg (M9 (Dz (qv 1)) (Hx (Al Be (qix K (qv 0) Ab) Ab (Am _))))) (Af (Aj (Ey (Al Be (qix K (qv 0) Ab) Ab (Am _)) (Gm T.Mz ((Lv T).mono dkd) hr rfl T.l7 T.Pm.choose_spec.1 T.Pm.choose_spec.2 Js (Aa (qix K (qv 0) Ab) Ad)) (Gm T.Mz ((Lv T).mono dkd) hr rfl T.l7 T.Pf.choose_spec.1 T.Pf.choose_spec.2 Js (Aa (qix K (qv 0) Ab) (Aa (qix K (qv 0) Ab) Ad)))))) Ao)
   (Af (Aj (qm T.Mz (Lv T) hr T.l7 T.ee (Aa (qix K (qv 0) Ab) (Aa (qix K (qv 0) Ab) (Aa (qix K (qv 0) Ab) Ad))))))) Ao)
   (Af (Aj (qc (d5 T) hr T.ke T.U4 T.kc (Aa (qv 0) (Aa (qv 1) Ad))))))))))), ?_⟩
  have k' : ∀ x H', Same H H' -> RuleAt (ad a) H' x r -> Q (.ref x) H' := λ x H' s hr => k x H' (λ q u _ eq => s _ _ eq) (tab.same s) hr
  cases r with
  |
   nv =>
   refine ⟨Asd (ht), rfl, ?_⟩
   refine br dkk ?_
   refine λ x dx nx ndx nex => ⟨[], (λ _ h => nomatch h), .nil, λ _ => k' x _ (λ q u eq => ?_) ⟨dx, Ae⟩⟩
   show upd (upd H dx (HO.own x)) x (HO.ins a.Gh dx []) q = some u
   rw [An (Aq eq nx), An (Aq eq ndx)]
   exact eq
  |
   dy ds =>
   obtain ⟨u, ht, hu⟩ := ht
   refine ⟨Asd (ht), rfl, ?_⟩
   refine Ex dkk ?_
   refine br dkk ?_
   refine ⟨Asd (ht), rfl, λ x dx nx ndx nex => ⟨x, dx, u, ds, rfl, Ae, ?_, ok0, λ H3 sx hr3 => ⟨rfl, [], (λ _ h => nomatch h), .nil, λ _ => k' x H3 (Hn nx ndx (Ase _) sx) hr3⟩⟩⟩
   rw [An (Aq hu nx), An (Aq hu ndx)]
   exact hu
  |
   wh m r =>
   have htt : H t = some (.tup [.str "where", .int m, .int r]) := ht
   refine ⟨Asd (ht), rfl, ?_⟩
   refine Ex dkk ?_
   refine Ex dkk ?_
   refine br dkk ?_
   have key := Aad (H := H) (P := a.A5) (pos := Aeo B0) (q := Ub) (ps := uk B0) (b := uq B0) (sc := ba B0) (cl := [("_law_tree_here", s.heap.objs.size + 1)])
    (Q := λ v H' => ∀ x dx, H' x = none -> H' dx = none -> dx ≠ x -> W0 a.B3 [.ref x, v] (upd (upd H' dx (.own x)) x (.ins a.B3 dx [])) (λ v2 H2 => v2 = .non /\ RC ["_law_tree_here", "_law_short", "_law_word"] (Ah Hs) (s.heap.objs.size + 1) Q [some (.ref t), some (.bl b), some (.str "where")] (.ref x) H2) E0) tab ?_
   · exact ⟨tab, key.1, key.2⟩
   refine λ f cd H1 s1 t1 hf hcd => ?_
   refine λ x dx nx ndx nex => ⟨x, dx, f, rfl, Ae, λ H3 sx hx3 => ⟨rfl, ?_⟩⟩
   have S3 := Hn nx ndx (Ase _) sx
   obtain ⟨tb, htb⟩ := tab.tbl
   have npt : t ≠ a.A5 := λ z => by rw [z, htb] at htt; cases htt
   refine ⟨[(0, ("_law_tree_here" : Str), s.heap.objs.size + 1, .ref t)], λ p hp => ?_, dks, λ hn => ?_⟩
   ·
    rw [An3] at hp
    subst hp
    exact ⟨rfl, rfl, rfl, rfl⟩
   have hc : H3 (s.heap.objs.size + 1) = none := hn _ (List.mem_singleton.mpr rfl)
   have up : ∀ q u, H3 q = some u -> (Tz [(0, ("_law_tree_here" : Str), s.heap.objs.size + 1, .ref t)] H3) q = some u := λ q u eq => by
    show upd H3 _ _ q = some u
    rw [An (Aq eq hc)]
    exact eq
   refine k x _ (λ q u hq eq => up _ _ (S3 _ _ (s1 _ _ hq eq))) (t1.same λ q u eq => up _ _ (S3 _ _ eq)) ⟨dx, f, t, up _ _ hx3, ⟨_, cd, up _ _ (S3 _ _ hf), up _ _ (S3 _ _ hcd), dks, rfl, λ i y z h1 h2 => ?_, λ p hp => ?_⟩, up _ _ (S3 _ _ (s1 _ _ npt htt))⟩
   ·
    match i, h1, h2 with
    |
     0, h1, h2 =>
     cases h1
     cases h2
     exact ⟨s.heap.objs.size + 1, List.lookup_cons_self .., Ae⟩
    | i + 1, h1, h2 => exact absurd h1 dks
   ·
    rw [An3] at hp
    subst hp
    exact ⟨.ref t, Ae⟩
  |
   ev st fi =>
   refine ⟨Asd (ht), rfl, ?_⟩
   refine Ex dkk ?_
   refine Ex dkk ?_
   refine Ex dkk ?_
   refine br dkk ?_
   cases b with
   |
    false =>
    refine Ct (Ct ?_)
    refine ⟨Asd (ht), rfl, Asd (ht), rfl, λ x dx nx ndx nex => ⟨x, dx, st, fi, rfl, Ae, ok0, λ H3 sx hr3 => ⟨rfl, [], (λ _ h => nomatch h), .nil, λ _ => k' x H3 (Hn nx ndx (Ase _) sx) hr3⟩⟩⟩
   | true =>
   refine F4 ⟨Asd (ht), rfl, ⟨λ z => ?_, λ z => ?_⟩⟩
   ·
    have z0 : fi = 0 := V.int.inj (Am8 z)
    subst z0
    refine ⟨Asd (ht), rfl, λ x dx nx ndx nex => ⟨x, dx, st, 0, rfl, Ae, ok0, λ H3 sx hr3 => ⟨rfl, [], (λ _ h => nomatch h), .nil, λ _ => k' x H3 (Hn nx ndx (Ase _) sx) hr3⟩⟩⟩
   · refine ⟨Asd (ht), rfl, Asd (ht), rfl, λ x dx nx ndx nex => ⟨x, dx, st, fi, rfl, Ae, ok0, λ H3 sx hr3 => ⟨rfl, [], (λ _ h => nomatch h), .nil, λ _ => k' x H3 (Hn nx ndx (Ase _) sx) hr3⟩⟩⟩
  |
   wk mk fi e =>
   refine ⟨Asd (ht), rfl, ?_⟩
   refine Ex dkk ?_
   refine Ex dkk ?_
   refine Ex dkk ?_
   refine Ex dkk ?_
   refine br dkk ?_
   cases b with
   |
    false =>
    refine Ct (Ct ?_)
    refine ⟨Asd (ht), rfl, Asd (ht), rfl, Asd (ht), rfl, λ x dx nx ndx nex => ⟨x, dx, mk, fi, e, rfl, Ae, ok0, λ H3 sx hr3 => ⟨rfl, [], (λ _ h => nomatch h), .nil, λ _ => k' x H3 (Hn nx ndx (Ase _) sx) hr3⟩⟩⟩
   | true =>
   refine F4 ⟨Asd (ht), rfl, ⟨λ z => ?_, λ z => ?_⟩⟩
   ·
    have z1 : e = 1 := V.int.inj (Am8 z)
    subst z1
    refine ⟨Asd (ht), rfl, ⟨λ z => ?_, λ z => ?_⟩⟩
    ·
     have z0 : fi = 0 := V.int.inj (Am8 z)
     subst z0
     refine ⟨Asd (ht), rfl, λ x dx nx ndx nex => ⟨x, dx, mk, 0, 1, rfl, Ae, ok0, λ H3 sx hr3 => ⟨rfl, [], (λ _ h => nomatch h), .nil, λ _ => k' x H3 (Hn nx ndx (Ase _) sx) hr3⟩⟩⟩
    · refine ⟨Asd (ht), rfl, Asd (ht), rfl, λ x dx nx ndx nex => ⟨x, dx, mk, fi, 1, rfl, Ae, ok0, λ H3 sx hr3 => ⟨rfl, [], (λ _ h => nomatch h), .nil, λ _ => k' x H3 (Hn nx ndx (Ase _) sx) hr3⟩⟩⟩
   · refine ⟨Asd (ht), rfl, Asd (ht), rfl, Asd (ht), rfl, λ x dx nx ndx nex => ⟨x, dx, mk, fi, e, rfl, Ae, ok0, λ H3 sx hr3 => ⟨rfl, [], (λ _ h => nomatch h), .nil, λ _ => k' x H3 (Hn nx ndx (Ase _) sx) hr3⟩⟩⟩
  |
   mo dt fi e =>
   refine ⟨Asd (ht), rfl, ?_⟩
   refine Ex dkk ?_
   refine Ex dkk ?_
   refine Ex dkk ?_
   refine Ex dkk ?_
   refine Ex dkk ?_
   exact ⟨t, b, _, rfl, ht, ok0, trivial, λ x H' s' hr => ⟨[], (λ _ h => nomatch h), .nil, λ _ => k' x H' s' hr⟩⟩
  |
   nt w wd fi e =>
   refine ⟨Asd (ht), rfl, ?_⟩
   refine Ex dkk ?_
   refine Ex dkk ?_
   refine Ex dkk ?_
   refine Ex dkk ?_
   refine Ex dkk ?_
   exact ⟨t, b, _, rfl, ht, ok0, trivial, λ x H' s' hr => ⟨[], (λ _ h => nomatch h), .nil, λ _ => k' x H' s' hr⟩⟩
  |
   yr mn dt fi e =>
   refine ⟨Asd (ht), rfl, ?_⟩
   refine Ex dkk ?_
   refine Ex dkk ?_
   refine Ex dkk ?_
   refine Ex dkk ?_
   refine Ex dkk ?_
   exact ⟨t, b, _, rfl, ht, ok0, trivial, λ x H' s' hr => ⟨[], (λ _ h => nomatch h), .nil, λ _ => k' x H' s' hr⟩⟩
def B4 : Aw ["_law_pick", "_law_base", "_law_deep", "_law_more", "_law_way", "_law_one", "_law_word", "_law_begin", "_law_far", "_law_left", "_law_extra", "_law_begins", "_law_pairs"] ["_law_pick", "_law_base", "_law_deep"] (Ah X2) := qsc
def m9 (T : Vy K mg base a) (n : Nat) (IH : FnOk P w K mg base CX0 true (20 + n) a.J5 a.J9 ["_law_pick", "_law_base", "_law_deep"] (Qn n)) : FnOk P w K mg base CX0 true (20 + n + 1) a.J5 a.J9 ["_law_pick", "_law_base", "_law_deep"] (Qn (n + 1)) := by
 refine T.T7.go B4 λ cdv A outer s H vs Q E hr h => ?_
 obtain ⟨p, b, dp, rfl, b0, b1, dp0, dp1, k⟩ := h
 refine ⟨_, (Ac (Cr 3 B4.nd (qc (B2 T) hr T.C7 T.Cm T.C6 (Aa (Ag Ap (qv 0) Ab) Ad)))
  (Ac (Cr 4 B4.nd (Ag As (Ag Au (qv 0) Ab) Ab))
  (Ac (A4 (Asg (o8 (Al Be (qv 2) Ab (Am _)) (Zk (Al lr (qv 4) Ab (Am _))))) (Af (Aj (qc (mx T) hr T.o7 T.Y4 T.sj (Aa (qc (B2 T) hr T.C7 T.Cm T.C6 (Aa (qv 0) Ad)) (Aa (qv 1) Ad))))) Ao)
  (Ac (Cr 5 B4.nd (qc IH hr T.Yb T.T7 T.X9 (Aa (qc (B2 T) hr T.C7 T.Cm T.C6 (Aa (qv 3) Ad)) (Aa (qv 1) (Aa (Ag A7 (qv 2) Ab) Ad)))))
  (Ac (A4 (Al Ni (qv 4) Ab (Am _)) (Ac (Cr 6 B4.nd (qil K (Lb (Yx [.str "either", .str "both", .str "but", .str "either"] dkk)) (qv 4)))
  (Af (Aj (Bo (Aa (qv 6) (Aa (qv 5) (Aa (qc IH hr T.Yb T.T7 T.X9 (Aa (qc (B2 T) hr T.C7 T.Cm T.C6 (Aa (Ag Ap (qv 3) Ab) Ad)) (Aa (qv 1) (Aa (Ag A7 (qv 2) Ab) Ad)))) Ad))))))) Ao)
  (Ac (A4 (Al Be (qv 4) Ab (Am _)) (Ac (Cr 7 B4.nd (Ag A7 (Ag Ap (qv 1) (Ag As (qv 3) Ab)) Ab))
  (Ac (A4 (Al Be (Ag As (Ag Au (qv 3) Ab) Ab) Ab (Am _)) (Ac (Cr 8 B4.nd (qil K (Lb (Aa (Ag Aae Ab Ab) (Aa (Ag Aae Ab Ab) (Aa (Ag Aae Ab Ab) Ad)))) (Ag As (qv 3) Ab)))
  (Af (Aj (Bo (Aa Bh (Aa (Ag A7 (qv 7) (qv 8)) (Aa (Ag Ap (Ag Ap (qv 7) (qv 8)) (Ag As (qv 3) Ab)) (Aa (qv 5) Ad)))))))) Ao)
  (Af (Aj (Bo (Aa Bh (Aa (qv 7) (Aa (Ag Ap (qv 7) (Ag As (Ag Au (qv 3) Ab) Ab)) (Aa (qv 5) Ad))))))))) Ao)
  (Ac (A4 (Al Be (qv 4) Ab (Am _)) (Af (Aj (Bo (Aa Bh (Aa (qil K (Lb (Aa (Ag A7 (Ag As (qv 3) Ab) Ab) (Aa (Ag A7 (Ag As (qv 3) Ab) Ab) Ad))) (Ag As (Ag Au (qv 3) Ab) Ab)) (Aa (qv 5) Ad)))))) Ao)
  (J3 (A4 (Al Be (Ag As (Ag Au (qv 3) Ab) Ab) Ab (Am _)) (Af (Cr 5 B4.nd (Bo (Aa Bh (Aa (Ag Ap Ab (Ag As (Ag Au (qv 3) Ab) Ab)) (Aa Ab Ad)))))) Ao)
  (Ac (Cr 9 B4.nd (qc (Nn T) hr T.Qr T.Nd T.Qu (Aa (Ag Au (qv 3) Ab) (Aa (qv 1) (Aa (Ag As (qv 3) Ab) Ad)))))
  (Ac (Cr 10 B4.nd (qc (Nn T) hr T.Qr T.Nd T.Qu (Aa (Ag Ap (qv 3) Ab) (Aa (qv 1) (Aa (Ag As (Ag Au (qv 3) Ab) Ab) Ad)))))
  (Ac (Cr 11 B4.nd (qc (Nn T) hr T.Qr T.Nd T.Qu (Aa (Ag Ap (qv 3) Ab) (Aa (qv 1) (Aa (Ag As (Ag Au (qv 3) Ab) Ab) Ad)))))
  (J3 (A4 (Al Be (Ag As (Ag Au (qv 3) Ab) Ab) Ab (Am _)) (Af (Cr 11 B4.nd (Ag Ab9 (me Aac (qv 11) Ab2 (lu Ab)) (qv 9)))) Ao)
  (Ac (Cr 12 B4.nd (ym (K := K) rfl rfl rfl T.V4 rfl T.Aa5 (Aa (qv 11) (Aa (qc (Nn T) hr T.Qr T.Nd T.Qu (Aa (Ag Ap (qv 3) Ab) (Aa (qv 1) (Aa (qb (Ds (K := K) rfl) T.Zs (Aa (qv 11) Ad)) Ad)))) Ad))))
  (Af (Aj (Bo (Aa Bh (Aa (qv 5) (Aa (qv 9) (Aa (qv 10) (Aa (qty (B6 (K := K) rfl) T.Jf (Aa (qv 12) Ad)) Ad))))))))))))))))))))), ?_⟩
 have hdp : dp <= (n : Int) := by lia
 refine ⟨_, rfl, λ m m0 => ?_⟩
 have w0 : 0 <= p / 9 % 10 := Anz _ dkd
 have simple : ∀ {D : Ends}, True := λ {_} => trivial
 refine ⟨λ z => F4 ?_, λ z => ⟨λ _ => ?_, λ _ => ?_⟩⟩
 · exact ⟨_, rfl, λ q _ => ⟨_, b, rfl, λ t r H2 s2 ht ok => k t (.s r) H2 s2 ht ok (Aon _)⟩⟩
 · exact ⟨_, rfl, λ q _ => ⟨_, b, rfl, λ t r H2 s2 ht ok => k t (.s r) H2 s2 ht ok (Aon _)⟩⟩
 have dpos : 1 <= dp := by
  have : dp ≠ 0 := λ e => z (Am6 (by rw [e]))
  lia
 refine ⟨_, rfl, λ q1 _ => ⟨_, b, _, rfl, b0, b1, dkl, dkl, λ y1 r1 H1 s1 h1 ok1 d1 => ?_⟩⟩
 refine ⟨λ z => ?_, λ _ => ?_⟩
 ·
  have z4 : p / 9 % 10 < 4 := Am8 z
  obtain ⟨wd, hwd, hw3⟩ := Aiz w0 z4
  refine λ L hL => ⟨Asf Ae, hwd, ?_⟩
  have u2 := Ai (o := .lst [V.str "either", V.str "both", V.str "but", V.str "either"]) hL
  refine ⟨_, rfl, λ q2 _ => ⟨_, b, _, rfl, b0, b1, dkl, dkl, λ y2 r2 H3 s3 h2 ok2 d2 => ?_⟩⟩
  refine λ t ht => ?_
  have S3 := (s1.trans u2).trans s3
  have ST := S3.trans (Ai (o := .tup [.str wd, .ref y1, .ref y2]) ht)
  have a1 := ((h1.up u2).up s3).up (Ai (o := .tup [.str wd, .ref y1, .ref y2]) ht)
  have a2 := h2.up (Ai (o := .tup [.str wd, .ref y1, .ref y2]) ht)
  rcases hw3 with rfl | rfl | rfl
  · exact k t (.ei r1 r2) _ ST (TrAt.ei.mpr ⟨y1, y2, Ae, a1, a2⟩) ⟨ok1, ok2⟩ (by show max (dep r1) (dep r2) + 1 <= _; lia)
  · exact k t (.bo r1 r2) _ ST (TrAt.bo.mpr ⟨y1, y2, Ae, a1, a2⟩) ⟨ok1, ok2⟩ (by show max (dep r1) (dep r2) + 1 <= _; lia)
  · exact k t (.bu r1 r2) _ ST (TrAt.bu.mpr ⟨y1, y2, Ae, a1, a2⟩) ⟨ok1, ok2⟩ (by show max (dep r1) (dep r2) + 1 <= _; lia)
 refine ⟨λ _ => ?_, λ _ => ?_⟩
 ·
  conv => whnf
  refine ⟨λ _ => ?_, λ _ => ?_⟩
  ·
   refine ⟨_, _, rfl, rfl, ⟨dkd, dkd, dkd⟩, _, _, rfl, rfl, ⟨dkd, dkd, dkd⟩, _, _, rfl, rfl, ⟨dkd, dkd, dkd⟩, λ L hL => ?_⟩
   obtain ⟨far, f0, f1, hf⟩ := Xq (ts := [10 ^ (9 : Int).toNat, 10 ^ (12 : Int).toNat, 10 ^ (17 : Int).toNat]) (i := m % 3) 0 (10 ^ 17) (Anz _ dkd) (Anw _ dkd) dkk
   have S5 := Ai (o := .lst [V.int (10 ^ (9 : Int).toNat), V.int (10 ^ (12 : Int).toNat), V.int (10 ^ (17 : Int).toNat)]) hL
   refine ⟨Asf Ae, hf, ?_⟩
   refine λ t ht => ?_
   have ST := (s1.trans S5).trans (Ai (o := .tup [.str "within", .int (b + m % 50 - 10 - far), .int (b + m % 50 - 10 + far + m % 9), .ref y1]) ht)
   exact k t (.wi (b + m % 50 - 10 - far) (b + m % 50 - 10 + far + m % 9) r1) _ ST (TrAt.wi.mpr ⟨y1, Ae, (h1.up S5).up (Ai ht)⟩) ⟨⟨dkl, dkl, dkl, dkl⟩, ok1⟩ (by show dep r1 + 1 <= _; lia)
  ·
   have S5 := Ase H1
   refine λ t ht => ?_
   have ST := s1.trans (Ai (o := .tup [.str "within", .int (b + m % 50 - 10), .int (b + m % 50 - 10 + m / 50 % 90), .ref y1]) ht)
   exact k t (.wi (b + m % 50 - 10) (b + m % 50 - 10 + m / 50 % 90) r1) _ ST (TrAt.wi.mpr ⟨y1, Ae, (h1.up S5).up (Ai ht)⟩) ⟨⟨dkl, dkl, dkl, dkl⟩, ok1⟩ (by show dep r1 + 1 <= _; lia)
 refine ⟨λ _ => ?_, λ _ => ?_⟩
 ·
  refine λ L hL => ?_
  obtain ⟨v, v0, v1, hv⟩ := Xq (ts := [m % 15 - 7, m % 2001 - 1000]) (i := m / 2001 % 2) (-1000) 1000 (Anz _ dkd) (Anw _ dkd) (λ t ht => by
   rcases Anf.mp ht with rfl | ht; · lia
   rw [An3] at ht; subst ht; lia)
  have S5 := Ai (o := .lst [V.int (m % 15 - 7), V.int (m % 2001 - 1000)]) hL
  refine ⟨Asf Ae, hv, λ t ht => ?_⟩
  exact k t (.sh v r1) _ ((s1.trans S5).trans (Ai ht)) (TrAt.sh.mpr ⟨y1, Ae, (h1.up S5).up (Ai ht)⟩) ⟨⟨v0, v1⟩, ok1⟩ (by show dep r1 + 1 <= _; lia)
 refine ⟨λ σ H' => ∃ (y : Addr) (r : Rt), Same H H' /\ TrAt H' r y /\ Okt r /\ dep r <= (dp - 1).toNat /\ σ = [some (.int p), some (.int b), some (.int dp), some (.int m), some (.int (p / 9 % 10)), some (.ref y), none, none, none, none, none, none, none], ?_, ?_⟩
 ·
  refine ⟨λ _ => ?_, λ _ => ?_⟩
  ·
   refine λ t ht => ?_
   exact ⟨t, .s (.ev (1 + m / 192 % 2) 0), s1.trans (Ai ht), Ae, (show Ok (.ev (1 + m / 192 % 2) 0) from ⟨dkl, dkl, dkd, dkd⟩), Aon _, rfl⟩
  · exact ⟨y1, r1, s1, h1, ok1, d1, rfl⟩
 rintro σ H2 ⟨y, r, s2, h2, ok2, d2, rfl⟩
 refine ⟨_, b, _, rfl, dkl, dkl, λ l1 ls H3 s3 hl1 ln1 hd1 => ?_⟩
 refine ⟨_, b, _, rfl, dkl, dkl, λ l2 ms H4 s4 hl2 ln2 hd2 => ?_⟩
 refine ⟨_, b, _, rfl, dkl, dkl, λ l3 bs H5 s5 hl3 ln3 hd3 => ?_⟩
 refine ⟨λ σ H' => ∃ (l4 : Addr) (cs : List Int), Same H5 H' /\ H' l4 = some (.tup (cs.map V.int)) /\ cs.length <= 4 /\ (∀ d ∈ cs, Dy d) /\ σ = [some (.int p), some (.int b), some (.int dp), some (.int m), some (.int (p / 9 % 10)), some (.ref y), none, none, none, some (.ref l1), some (.ref l2), some (.ref l4), none], ?_, ?_⟩
 ·
  refine ⟨λ _ => ?_, λ _ => ?_⟩
  ·
   refine ⟨_, rfl, l3, _, rfl, hl3, λ l5 H6 s6 hl5 => ?_⟩
   rw [Amo, ← List.map_take] at hl5
   refine ⟨l5, l1, _, _, rfl, rfl, hl5, s6 _ _ (s5 _ _ (s4 _ _ hl1)), (by rw [Am9, Am9, Aoy]; exact Anb (by lia : _ <= 10) dkd), λ l6 H7 s7 hl6 => ?_⟩
   rw [← Apg] at hl6
   refine ⟨l6, _, s6.trans s7, hl6, by rw [Anj, Aoy]; lia, λ d hd => ?_, rfl⟩
   rcases Aog.mp hd with hd | hd
   · exact hd3 d (List.mem_of_mem_take hd)
   · exact hd1 d hd
  · exact ⟨l3, bs, Ase _, hl3, dkl, hd3, rfl⟩
 rintro σ H6 ⟨l4, cs, s6, hl4, lc, hdc, rfl⟩
 refine ⟨l4, _, rfl, .inr (Asd hl4), _, b, _, rfl, dkl, (by rw [Am9]; lia), λ l5 es H7 s7 hl5 ln5 hd5 => ?_⟩
 rw [Am9] at ln5
 have l45 : cs.length = es.length := by lia
 refine ⟨l4, l5, cs, es, rfl, Asd (s7 _ _ hl4), Asd hl5, l45, dkl, λ L H8 rs s8 hL hok hrs => ?_⟩
 refine ⟨L, _, rfl, .inl ⟨Asf hL, λ o ho => λ t ht => ?_⟩⟩
 have u9 := Ai (o := .tup (refs rs)) ho
 have u10 := Ai (o := .tup [.str "changed", .ref y, .ref l1, .ref l2, .ref o]) ht
 have S58 := (s6.trans s7).trans s8
 have S8 := ((s3.trans s4).trans s5).trans S58
 have hmv : ∀ z ∈ cs.zip es, Dy z.1 /\ Dy z.2 := λ z hz => ⟨hdc _ (Ap6 hz).1, hd5 _ (Ap6 hz).2⟩
 refine k t (.ch r ls ms (cs.zip es)) _ (((s2.trans S8).trans u9).trans u10) (TrAt.ch.mpr ⟨y, l1, l2, o, Ae, ((h2.up S8).up u9).up u10, u10 _ _ (u9 _ _ (S58 _ _ (s5 _ _ (s4 _ _ hl1)))), u10 _ _ (u9 _ _ (S58 _ _ (s5 _ _ hl2))), ⟨rs, u10 _ _ Ae, (hok.up u9).up u10, hrs⟩⟩) ⟨ok2, ⟨dkl, dkl, by rw [List.length_zip]; lia⟩, hd1, hd2, hmv⟩ (by show dep r + 1 <= _; lia)
theorem Y7 (T : Vy K mg base a) : ∀ n, FnOk P w K mg base CX0 true (20 + n) a.J5 a.J9 ["_law_pick", "_law_base", "_law_deep"] (Qn n)
 | 0 => ⟨λ vs H Q E h => by obtain ⟨p, b, dp, rfl, b0, b1, d0, d1, _⟩ := h; exact absurd (Int.lt_of_le_of_lt d0 d1) (Int.lt_irrefl _), λ A outer s H args us vs Q E _ _ _ _ h => by obtain ⟨p, b, dp, rfl, b0, b1, d0, d1, _⟩ := h; exact absurd (Int.lt_of_le_of_lt d0 d1) (Int.lt_irrefl _)⟩
 | n + 1 => m9 T n (Y7 T n)
def vp : Fk P w T 30 a.J5 a.J9 ["_law_pick", "_law_base", "_law_deep"] (Qn 4) := (Y7 T 4).mono dkd
def Fs : Aw ["_law_rule_here", "_law_day_here", "_law_date_here", "_law_word", "_law_one", "_law_other", "_law_begin", "_law_goal"] ["_law_rule_here", "_law_day_here", "_law_date_here"] (Ah Qp) := qsc
theorem jl (
      T : Vy K mg base a) (n : Nat) (IH : FnOk P w K mg base CX0 true (20 + n) a.Hk a.Hj ["_law_rule_here", "_law_day_here", "_law_date_here"] (Ol n)) : FnOk P w K mg base CX0 true (20 + n + 1) a.Hk a.Hj ["_law_rule_here", "_law_day_here", "_law_date_here"] (Ol (n + 1)) := by
 refine T.Dv.go Fs λ cdv A outer s H vs Q E hr h => ?_
 obtain ⟨t, p, d, r, rfl, ht, ok, hn, d0, d1, hp, k⟩ := h
 refine ⟨_, (Ac (Cr 3 Fs.nd (qix K (qv 0) Ab))
  (Ac (A4 (Uz (bw jn Ni Ab (qv 1) Ab)) (Af (Aj Sv)) Ao)
  (Ac (A4 (Al (Mq (K := K) rfl) (qv 3) (Bo (Yx [.str "either", .str "both", .str "but"] dkk)) (by with_unfolding_all rfl)) (Ac (Cr 4 Fs.nd (qc IH hr T.Et T.Dv T.Es (Aa (qix K (qv 0) Ab) (Aa (qv 1) (Aa (qv 2) Ad)))))
  (Ac (Cr 5 Fs.nd (qc IH hr T.Et T.Dv T.Es (Aa (qix K (qv 0) Ab) (Aa (qv 1) (Aa (qv 2) Ad)))))
  (Af (Aj (Af1 (Abx hr) (Af6 (mf Bh (zt (qv 4) (Dk (qv 5))) (mf Bh (Dx (qv 4) (Dk (qv 5))) (mf Bh (Dx (qv 4) (Dk (Abo (qv 5)))) Afv))) rfl rfl dkd dkd) (qv 3) (λ _ _ => rfl)))))) Ao)
  (Ac (A4 (Al Be (qv 3) Bh (Am _)) (Af (Aj (Dx (A8 jn (qix K (qv 0) Ab) (qv 1) (Am _)) (Dx (A8 Ni (qv 1) (qix K (qv 0) Ab) (Am _)) (Dk (qc IH hr T.Et T.Dv T.Es (Aa (qix K (qv 0) Ab) (Aa (qv 1) (Aa (qv 2) Ad))))))))) Ao)
  (Ac (A4 (Al Be (qv 3) Bh (Am _)) (Ac (Cr 5 Fs.nd (Ag A7 (qv 1) (qix K (qv 0) Ab)))
  (Af (Aj (Dx (mj jn Ni Ab (qv 5) Ab) (Dk (qc IH hr T.Et T.Dv T.Es (Aa (qix K (qv 0) Ab) (Aa (qv 5) (Aa (qc (Eu T) hr T.F8 T.Fl T.Gg (Aa (qv 5) Ad)) Ad))))))))) Ao)
  (Ac (A4 (Al yg (qv 3) Bh (Am _)) (Af (Aj (qc (sr T) hr T.ug T.gr T.uo (Aa (qv 0) (Aa (qv 1) (Aa (qv 2) Ad)))))) Ao)
  (Ac (A4 (Al (Mq (K := K) rfl) (qv 1) (qix K (qv 0) Ab) (by with_unfolding_all rfl)) (Af (Aj Sv)) Ao)
  (Ac (To Aof rfl (Sw (K := K) rfl (qix K (qv 0) Ab)) (wj rfl (F9 (qnm 6 Fs.nd) (F9 (qnm 7 Fs.nd) fk))) (Af (A4 (Asg (M9 (Al Be (qv 7) (qv 1) (Am _)) (M9 (Al (V0 (K := K) rfl) (qv 6) (qix K (qv 0) Ab) (by with_unfolding_all rfl)) (Hx (Dz (qc IH hr T.Et T.Dv T.Es (Aa (qix K (qv 0) Ab) (Aa (qv 6) (Aa (qc (Eu T) hr T.F8 T.Fl T.Gg (Aa (qv 6) Ad)) Ad))))))))) (Af (Aj Sv)) Ao)))
  (Ac (A4 (Asg (o8 (Al (Mq (K := K) rfl) (qv 1) (qix K (qv 0) Ab) (by with_unfolding_all rfl)) (Zk (Al (Mq (K := K) rfl) (qv 1) (Sy (N := ["_law_pair"]) (cap := [none]) (by show Cs (Ah Qp) _ ["_law_rule_here", "_law_day_here", "_law_date_here", "_law_word", "_law_one", "_law_other", "_law_begin", "_law_goal"] _ _; exact ⟨rfl, dkk, dkk, dkk, dkk, rfl, dkk⟩) rfl (Sw (K := K) rfl (qix K (qv 0) Ab)) (λ C s H fp => ⟨(Hi (i := 0) (by show (["_law_pair"] : List Str).Nodup; decide +kernel) rfl (Or.inl rfl) (.inr rfl)), Vi, (qix K (qv 0) Ab)⟩)) (by with_unfolding_all rfl))))) (Af (Aj Sv)) Ao)
  (Af (Aj (qc IH hr T.Et T.Dv T.Es (Aa (qix K (qv 0) Ab) (Aa (qv 1) (Aa (qv 2) Ad))))))))))))))), ?_⟩
 cases r with
 |
  s r0 =>
  obtain ⟨w0, vs, htw, hw⟩ := qr (r := r0) ht
  refine ⟨Asd (htw), at0 _ _, ?_⟩
  refine ⟨λ _ => ⟨λ z => absurd z (by rw [Am6 d1]; decide), λ _ => ?_⟩, λ z => absurd (Am6 d0) z⟩
  refine λ c hc => ⟨c, _, rfl, .inr (Asd Ae), rfl, dkk, ?_⟩
  conv => whnf
  have sc := Ai (o := .tup [.str "either", .str "both", .str "but"]) hc
  generalize upd H c (.tup [.str "either", .str "both", .str "but"]) = Hc at *
  refine ⟨λ z => absurd ((Aky w0 hw).symm.trans z) dkd, λ _ => ?_⟩
  refine ⟨λ z => absurd ((Ahd w0 hw).symm.trans z) dkd, λ _ => ?_⟩
  refine ⟨λ z => absurd ((Ah7 w0 hw).symm.trans z) dkd, λ _ => ?_⟩
  refine ⟨λ _ => ?_, λ z => absurd (by rw [Ai5 w0 hw]; rfl) z⟩
  exact ⟨t, p, d, r0, rfl, TreeAt.up ht sc, ok, d0, d1, sc _ _ hp, λ H' s' => k H' (sc.trans s')⟩
 |
  ei r1 r2 =>
  obtain ⟨y, z, htw, h1, h2⟩ := TrAt.ei.mp ht
  have n1 : dep r1 < n /\ dep r2 < n := by have : max (dep r1) (dep r2) + 1 < n + 1 := hn; lia
  refine ⟨Asd (htw), rfl, ?_⟩
  refine ⟨λ _ => ⟨λ z => absurd z (by rw [Am6 d1]; decide), λ _ => ?_⟩, λ z => absurd (Am6 d0) z⟩
  refine λ c hc => ⟨c, _, rfl, .inr (Asd Ae), rfl, dkk, ?_⟩
  conv => whnf
  have sc := Ai (o := .tup [.str "either", .str "both", .str "but"]) hc
  generalize upd H c (.tup [.str "either", .str "both", .str "but"]) = Hc at *
  refine br dkk ?_
  refine ⟨Asd (sc _ _ htw), rfl, y, p, d, r1, rfl, h1.up sc, ok.1, n1.1, d0, d1, sc _ _ hp, λ H1 s1 => ?_⟩
  refine ⟨Asd (s1 _ _ (sc _ _ htw)), rfl, z, p, d, r2, rfl, (h2.up sc).up s1, ok.2, n1.2, d0, d1, s1 _ _ (sc _ _ hp), λ H2 s2 => ?_⟩
  have S := (sc.trans s1).trans s2
  have k0 : ∀ H', Same H H' -> Q (.bl (ft r1 d || ft r2 d)) H' := k
  refine λ D hD => ?_
  conv => whnf
  generalize ft r1 d = o1 at *
  generalize ft r2 d = o2 at *
  cases o1 with
  |
   true =>
   cases o2 with
   | true => exact F4 (F4 (F4 ⟨Ae, [((Sum.inr "either" : Key), .bl true), (Sum.inr "both", .bl true), (Sum.inr "but", .bl false)], rfl, dkd, D, _, rfl, dgk (k := Sum.inr "either") Ae (Adq _ _ _), k0 _ (S.trans (Fg hD))⟩))
   | false => exact F4 (F4 (F4 ⟨Ae, [((Sum.inr "either" : Key), .bl true), (Sum.inr "both", .bl false), (Sum.inr "but", .bl true)], rfl, dkd, D, _, rfl, dgk (k := Sum.inr "either") Ae (Adq _ _ _), k0 _ (S.trans (Fg hD))⟩))
  |
   false =>
   cases o2 with
   | true => exact Ct (Ct (Ct ⟨Ae, [((Sum.inr "either" : Key), .bl true), (Sum.inr "both", .bl false), (Sum.inr "but", .bl false)], rfl, dkd, D, _, rfl, dgk (k := Sum.inr "either") Ae (Adq _ _ _), k0 _ (S.trans (Fg hD))⟩))
   | false => exact Ct (Ct (Ct ⟨Ae, [((Sum.inr "either" : Key), .bl false), (Sum.inr "both", .bl false), (Sum.inr "but", .bl false)], rfl, dkd, D, _, rfl, dgk (k := Sum.inr "either") Ae (Adq _ _ _), k0 _ (S.trans (Fg hD))⟩))
 |
  bo r1 r2 =>
  obtain ⟨y, z, htw, h1, h2⟩ := TrAt.bo.mp ht
  have n1 : dep r1 < n /\ dep r2 < n := by have : max (dep r1) (dep r2) + 1 < n + 1 := hn; lia
  refine ⟨Asd (htw), rfl, ?_⟩
  refine ⟨λ _ => ⟨λ z => absurd z (by rw [Am6 d1]; decide), λ _ => ?_⟩, λ z => absurd (Am6 d0) z⟩
  refine λ c hc => ⟨c, _, rfl, .inr (Asd Ae), rfl, dkk, ?_⟩
  conv => whnf
  have sc := Ai (o := .tup [.str "either", .str "both", .str "but"]) hc
  generalize upd H c (.tup [.str "either", .str "both", .str "but"]) = Hc at *
  refine br dkk ?_
  refine ⟨Asd (sc _ _ htw), rfl, y, p, d, r1, rfl, h1.up sc, ok.1, n1.1, d0, d1, sc _ _ hp, λ H1 s1 => ?_⟩
  refine ⟨Asd (s1 _ _ (sc _ _ htw)), rfl, z, p, d, r2, rfl, (h2.up sc).up s1, ok.2, n1.2, d0, d1, s1 _ _ (sc _ _ hp), λ H2 s2 => ?_⟩
  have S := (sc.trans s1).trans s2
  have k0 : ∀ H', Same H H' -> Q (.bl (ft r1 d && ft r2 d)) H' := k
  refine λ D hD => ?_
  conv => whnf
  generalize ft r1 d = o1 at *
  generalize ft r2 d = o2 at *
  cases o1 with
  |
   true =>
   cases o2 with
   | true => exact F4 (F4 (F4 ⟨Ae, [((Sum.inr "either" : Key), .bl true), (Sum.inr "both", .bl true), (Sum.inr "but", .bl false)], rfl, dkd, D, _, rfl, dgk (k := Sum.inr "both") Ae (Ac8 _ _ _), k0 _ (S.trans (Fg hD))⟩))
   | false => exact F4 (F4 (F4 ⟨Ae, [((Sum.inr "either" : Key), .bl true), (Sum.inr "both", .bl false), (Sum.inr "but", .bl true)], rfl, dkd, D, _, rfl, dgk (k := Sum.inr "both") Ae (Ac8 _ _ _), k0 _ (S.trans (Fg hD))⟩))
  |
   false =>
   cases o2 with
   | true => exact Ct (Ct (Ct ⟨Ae, [((Sum.inr "either" : Key), .bl true), (Sum.inr "both", .bl false), (Sum.inr "but", .bl false)], rfl, dkd, D, _, rfl, dgk (k := Sum.inr "both") Ae (Ac8 _ _ _), k0 _ (S.trans (Fg hD))⟩))
   | false => exact Ct (Ct (Ct ⟨Ae, [((Sum.inr "either" : Key), .bl false), (Sum.inr "both", .bl false), (Sum.inr "but", .bl false)], rfl, dkd, D, _, rfl, dgk (k := Sum.inr "both") Ae (Ac8 _ _ _), k0 _ (S.trans (Fg hD))⟩))
 |
  bu r1 r2 =>
  obtain ⟨y, z, htw, h1, h2⟩ := TrAt.bu.mp ht
  have n1 : dep r1 < n /\ dep r2 < n := by have : max (dep r1) (dep r2) + 1 < n + 1 := hn; lia
  refine ⟨Asd (htw), rfl, ?_⟩
  refine ⟨λ _ => ⟨λ z => absurd z (by rw [Am6 d1]; decide), λ _ => ?_⟩, λ z => absurd (Am6 d0) z⟩
  refine λ c hc => ⟨c, _, rfl, .inr (Asd Ae), rfl, dkk, ?_⟩
  conv => whnf
  have sc := Ai (o := .tup [.str "either", .str "both", .str "but"]) hc
  generalize upd H c (.tup [.str "either", .str "both", .str "but"]) = Hc at *
  refine br dkk ?_
  refine ⟨Asd (sc _ _ htw), rfl, y, p, d, r1, rfl, h1.up sc, ok.1, n1.1, d0, d1, sc _ _ hp, λ H1 s1 => ?_⟩
  refine ⟨Asd (s1 _ _ (sc _ _ htw)), rfl, z, p, d, r2, rfl, (h2.up sc).up s1, ok.2, n1.2, d0, d1, s1 _ _ (sc _ _ hp), λ H2 s2 => ?_⟩
  have S := (sc.trans s1).trans s2
  have k0 : ∀ H', Same H H' -> Q (.bl (ft r1 d && !ft r2 d)) H' := k
  refine λ D hD => ?_
  conv => whnf
  generalize ft r1 d = o1 at *
  generalize ft r2 d = o2 at *
  cases o1 with
  |
   true =>
   cases o2 with
   | true => exact F4 (F4 (F4 ⟨Ae, [((Sum.inr "either" : Key), .bl true), (Sum.inr "both", .bl true), (Sum.inr "but", .bl false)], rfl, dkd, D, _, rfl, dgk (k := Sum.inr "but") Ae (Adn _ _ _), k0 _ (S.trans (Fg hD))⟩))
   | false => exact F4 (F4 (F4 ⟨Ae, [((Sum.inr "either" : Key), .bl true), (Sum.inr "both", .bl false), (Sum.inr "but", .bl true)], rfl, dkd, D, _, rfl, dgk (k := Sum.inr "but") Ae (Adn _ _ _), k0 _ (S.trans (Fg hD))⟩))
  |
   false =>
   cases o2 with
   | true => exact Ct (Ct (Ct ⟨Ae, [((Sum.inr "either" : Key), .bl true), (Sum.inr "both", .bl false), (Sum.inr "but", .bl false)], rfl, dkd, D, _, rfl, dgk (k := Sum.inr "but") Ae (Adn _ _ _), k0 _ (S.trans (Fg hD))⟩))
   | false => exact Ct (Ct (Ct ⟨Ae, [((Sum.inr "either" : Key), .bl false), (Sum.inr "both", .bl false), (Sum.inr "but", .bl false)], rfl, dkd, D, _, rfl, dgk (k := Sum.inr "but") Ae (Adn _ _ _), k0 _ (S.trans (Fg hD))⟩))
 |
  wi wb we r1 =>
  obtain ⟨y, htw, h1⟩ := TrAt.wi.mp ht
  have n1 : dep r1 < n := by have : dep r1 + 1 < n + 1 := hn; lia
  refine ⟨Asd (htw), rfl, ?_⟩
  refine ⟨λ _ => ⟨λ z => absurd z (by rw [Am6 d1]; decide), λ _ => ?_⟩, λ z => absurd (Am6 d0) z⟩
  refine λ c hc => ⟨c, _, rfl, .inr (Asd Ae), rfl, dkk, ?_⟩
  conv => whnf
  have sc := Ai (o := .tup [.str "either", .str "both", .str "but"]) hc
  generalize upd H c (.tup [.str "either", .str "both", .str "but"]) = Hc at *
  refine Ex dkk ?_
  refine br dkk ?_
  have k0 : ∀ H', Same H H' -> Q (.bl ((decide (wb <= d) && decide (d < we)) && ft r1 d)) H' := k
  refine ⟨Asd (sc _ _ htw), rfl, ?_⟩
  conv => whnf
  cases e1 : decide (wb <= d) with
  | false => rw [e1] at k0; exact Ct (k0 _ sc)
  |
   true =>
   rw [e1, An1] at k0
   refine F4 ⟨Asd (sc _ _ htw), rfl, ?_⟩
   conv => whnf
   cases e2 : decide (d < we) with
   | false => rw [e2] at k0; exact Ct (k0 _ sc)
   |
    true =>
    rw [e2, An1] at k0
    exact F4 ⟨Asd (sc _ _ htw), rfl, y, p, d, r1, rfl, h1.up sc, ok.2, n1, d0, d1, sc _ _ hp, λ H' s' => k0 H' (sc.trans s')⟩
 |
  sh sm r1 =>
  obtain ⟨y, htw, h1⟩ := TrAt.sh.mp ht
  have n1 : dep r1 < n := by have : dep r1 + 1 < n + 1 := hn; lia
  refine ⟨Asd (htw), rfl, ?_⟩
  refine ⟨λ _ => ⟨λ z => absurd z (by rw [Am6 d1]; decide), λ _ => ?_⟩, λ z => absurd (Am6 d0) z⟩
  refine λ c hc => ⟨c, _, rfl, .inr (Asd Ae), rfl, dkk, ?_⟩
  conv => whnf
  have sc := Ai (o := .tup [.str "either", .str "both", .str "but"]) hc
  generalize upd H c (.tup [.str "either", .str "both", .str "but"]) = Hc at *
  refine Ex dkk ?_
  refine Ex dkk ?_
  refine br dkk ?_
  have k0 : ∀ H', Same H H' -> Q (.bl (ft r1 (d - sm))) H' := λ H' s' => by
   have k1 : Q (.bl (isD d && ft r1 (d - sm))) H' := k H' s'
   rw [DF.Na.mpr ⟨d0, d1⟩, An1] at k1
   exact k1
  refine ⟨Asd (sc _ _ htw), rfl, ?_⟩
  conv => whnf
  by_cases g0 : 0 <= d - sm
  ·
   rw [Am6 g0]
   refine F4 ?_
   conv => whnf
   by_cases g1 : d - sm < 146097
   ·
    rw [Am6 g1]
    exact F4 ⟨Asd (sc _ _ htw), rfl, d - sm, rfl, g0, g1, λ q H3 s3 _ hq => ⟨y, q, d - sm, r1, rfl, (h1.up sc).up s3, ok.2, n1, g0, g1, hq, λ H' s' => k0 H' ((sc.trans s3).trans s')⟩⟩
   ·
    rw [Ane g1]
    have := k0 _ sc
    rw [DJ.Nh ok.2 (.inr dkl)] at this
    exact Ct this
  ·
   rw [Ane g0]
   have := k0 _ sc
   rw [DJ.Nh ok.2 (.inl dkl)] at this
   exact Ct (Ct this)
 |
  ch r1 ls ms mv =>
  obtain ⟨y, l1, l2, o, htw, h1, hl1, hl2, rs, ho, hok, rfl⟩ := TrAt.ch.mp ht
  have n1 : dep r1 < n := by have : dep r1 + 1 < n + 1 := hn; lia
  obtain ⟨ok1, ⟨c1, c2, c3⟩, hd1, hd2, hd3⟩ := ok
  refine ⟨Asd (htw), rfl, ?_⟩
  refine ⟨λ _ => ⟨λ z => absurd z (by rw [Am6 d1]; decide), λ _ => ?_⟩, λ z => absurd (Am6 d0) z⟩
  refine λ c hc => ⟨c, _, rfl, .inr (Asd Ae), rfl, dkk, ?_⟩
  conv => whnf
  have sc := Ai (o := .tup [.str "either", .str "both", .str "but"]) hc
  generalize upd H c (.tup [.str "either", .str "both", .str "but"]) = Hc at *
  refine Ex dkk ?_
  refine Ex dkk ?_
  refine Ex dkk ?_
  refine Ex dkk ?_
  have k0 : ∀ H', Same H H' -> Q (.bl (decide (d ∈ Qh (ft r1) ls ms (sps rs)) || (!decide (d ∈ oy ls (sps rs)) && ft r1 d))) H' := k
  clear k
  refine ⟨Asd (sc _ _ htw), rfl, l2, _, rfl, .inr (Asd (sc _ _ hl2)), rfl, zp _, ?_⟩
  conv => whnf
  show Br (inV (.int d) (ms.map V.int)) _ _
  rw [Nt]
  by_cases hms : d ∈ ms
  ·
   rw [Am6 hms]
   have := k0 _ sc
   rw [Am6 (show d ∈ Qh (ft r1) ls ms (sps rs) from Apd _ hms), Ark] at this
   exact F4 this
  rw [Ane hms]
  refine Ct ⟨Asd (sc _ _ htw), rfl, o, rfl, ⟨_, Asd (sc _ _ ho)⟩, ?_⟩
  refine Oz (H0 := Hc) (Tw (Asd (sc _ _ ho))) (λ i σ H' => Same Hc H' /\ (∀ q ∈ (sps rs).take i, ¬ (q.2 = d /\ q.1 ∉ ls /\ ft r1 q.1 = true)) /\ ∃ z1 z2, σ = [some (.ref t), some (.int d), some (.ref p), some (.str "changed"), none, none, z1, z2]) ⟨Ase _, (λ q hq => nomatch hq), _, _, rfl⟩ (λ _ _ _ _ h => h.1) ?_ ?_
  ·
   rintro i x σ H1 hx ⟨s1, hno, z1, z2, rfl⟩
   obtain ⟨u, hu, hum, rfl⟩ := l8 hx
   have S1 := sc.trans s1
   have hu1 := S1 _ _ (hok u hum)
   have hus : u.2 ∈ sps rs := List.mem_map_of_mem hum
   have hts : (sps rs)[i]? = some u.2 := by unfold sps; rw [Anu, hu]; rfl
   have step : ¬ (u.2.2 = d /\ u.2.1 ∉ ls /\ ft r1 u.2.1 = true) -> ∀ q ∈ (sps rs).take (i + 1), ¬ (q.2 = d /\ q.1 ∉ ls /\ ft r1 q.1 = true) := λ g q hq => by
    rw [List.take_succ, hts] at hq
    rcases Aog.mp hq with hq | hq
    · exact hno q hq
    ·
     rw [show q = u.2 from An3.mp hq]
     exact g
   refine ⟨u.1, _, rfl, Asd hu1, rfl, _, _, rfl, _, _, rfl, rfl, ?_⟩
   conv => whnf
   rw [Sb]
   by_cases hg : u.2.2 = d
   ·
    rw [Am6 hg]
    refine F4 ⟨Asd (S1 _ _ htw), rfl, l1, _, rfl, .inr (Asd (S1 _ _ hl1)), rfl, zp _, ?_⟩
    conv => whnf
    rw [if_pos rfl, Nt]
    by_cases hb : u.2.1 ∈ ls
    ·
     rw [Am6 hb]
     exact Ct (Ct ⟨s1, step (λ w => w.2.1 hb), _, _, rfl⟩)
    ·
     rw [Ane hb]
     have hdy := (hd3 u.2 hus).1
     refine F4 ⟨Asd (S1 _ _ htw), rfl, u.2.1, rfl, hdy.1, hdy.2, λ q H3 s3 _ hq => ⟨y, q, u.2.1, r1, rfl, (h1.up S1).up s3, ok1, n1, hdy.1, hdy.2, hq, λ H4 s4 => ?_⟩⟩
     conv => whnf
     have S4 := (s1.trans s3).trans s4
     cases hf : ft r1 u.2.1 with
     | false => exact Ct ⟨S4, step (λ w => by rw [hf] at w; exact absurd w.2.2 dkd), _, _, rfl⟩
     |
      true =>
      have := k0 _ (sc.trans S4)
      rw [← hg, Aav (ms := ms) hus hb hf, Ark] at this
      exact F4 this
   ·
    rw [Ane hg]
    exact Ct (Ct ⟨s1, step (λ w => hg w.1), _, _, rfl⟩)
  rintro σ H1 ⟨s1, hno, z1, z2, rfl⟩
  rw [Qi, ← Nc, Apo] at hno
  have S1 := sc.trans s1
  rw [Ado hms hno] at k0
  refine ⟨Asd (S1 _ _ htw), rfl, l1, _, rfl, .inr (Asd (S1 _ _ hl1)), rfl, zp _, ?_⟩
  conv => whnf
  show Br (inV (.int d) (ls.map V.int)) _ _
  rw [Nt]
  by_cases hls : d ∈ ls
  ·
   rw [Am6 hls]
   have := k0 _ S1
   rw [Am6 (show d ∈ oy ls (sps rs) from Apd _ hls)] at this
   exact F4 (F4 this)
  rw [Ane hls]
  refine Ct ⟨Asd (S1 _ _ htw), rfl, o, rfl, ⟨_, Asd (S1 _ _ ho)⟩, ?_⟩
  refine Ad3 (Tw (K := K) (Asd (S1 _ _ ho))) (hok.up S1) (λ _ => true) (λ q => .int q.1) (by rw [← Nc]; lia) (λ _ _ H' _ R hR => hR H' (Ase _)) (λ u hu _ H' sm R hR => ⟨Asd (sm _ _ (S1 _ _ (hok u hu))), rfl, hR H' (Ase _)⟩) (λ D H2 s2 _ hD => ?_)
  conv => whnf
  have hD' : H2 D = some (.lst (((sps rs).map (·.1)).map V.int)) := by
   rw [hD, Aqq.mpr (λ _ _ => rfl), Ao2]
   rfl
  refine ⟨D, _, rfl, .inl (Asf hD'), rfl, zp _, ?_⟩
  conv => whnf
  show Br (inV (.int d) (((sps rs).map (·.1)).map V.int)) _ _
  rw [Nt]
  have S2 := S1.trans s2
  by_cases hmv : d ∈ (sps rs).map (·.1)
  ·
   rw [Am6 hmv]
   have := k0 _ S2
   rw [Am6 (show d ∈ oy ls (sps rs) from Ant _ hmv)] at this
   exact F4 this
  rw [Ane hmv]
  have hlo : decide (d ∈ oy ls (sps rs)) = false := Ane λ w => (Aog.mp w).elim hls hmv
  rw [hlo] at k0
  exact Ct ⟨Asd (S2 _ _ htw), rfl, y, p, d, r1, rfl, h1.up S2, ok1, n1, d0, d1, S2 _ _ hp, λ H' s' => k0 H' (S2.trans s')⟩
theorem Xf (T : Vy K mg base a) : ∀ n, FnOk P w K mg base CX0 true (20 + n) a.Hk a.Hj ["_law_rule_here", "_law_day_here", "_law_date_here"] (Ol n)
 | 0 => ⟨λ vs H Q E h => by obtain ⟨t, p, d, r, rfl, h1, h2, h3, _⟩ := h; exact absurd h3 (Apu _), λ A outer s H args us vs Q E _ _ _ _ h => by obtain ⟨t, p, d, r, rfl, h1, h2, h3, _⟩ := h; exact absurd h3 (Apu _)⟩
 | n + 1 => jl T n (Xf T n)
def Tu : Fk P w T 30 a.Hk a.Hj ["_law_rule_here", "_law_day_here", "_law_date_here"] (Ol 5) := (Xf T 5).mono dkd
def Vs : Aw ["_law_tree_here", "_law_short", "_law_word", "_law_inner"] ["_law_tree_here", "_law_short"] (Ah Yg) := qsc
theorem oq (
      T : Vy K mg base a) (n : Nat) (IH : FnOk P w K mg base CX0 true (n + 32) a.Jx a.J8 ["_law_tree_here", "_law_short"] (Q2 (jd a) a.A5 n)) : FnOk P w K mg base CX0 true (n + 32 + 1) a.Jx a.J8 ["_law_tree_here", "_law_short"] (Q2 (jd a) a.A5 (n + 1)) := by
 refine T.Di.go Vs λ cdv A outer s H vs Q E hr h => ?_
 obtain ⟨t, b, r, rfl, ht, ok, hn, tab, k⟩ := h
 refine ⟨_, (Ac (Cr 2 Vs.nd (qix K (qv 0) Ab))
  (Ac (A4 (Al Be (qv 2) Bh (Am _)) (Af (Aj (qm T.T1 (Z3 T) hr T.Ad1 T.gy (Aa (qc IH hr T.D9 T.Di T.Ec (Aa (qix K (qv 0) Ab) (Aa (qv 1) Ad))) (Aa (qc IH hr T.D9 T.Di T.Ec (Aa (qix K (qv 0) Ab) (Aa (qv 1) Ad))) Ad))))) Ao)
  (Ac (A4 (Al Be (qv 2) Bh (Am _)) (Af (Aj (qm T.gd (ka T) hr T.Ai0 T.mz (Aa (qc IH hr T.D9 T.Di T.Ec (Aa (qix K (qv 0) Ab) (Aa (qv 1) Ad))) (Aa (qc IH hr T.D9 T.Di T.Ec (Aa (qix K (qv 0) Ab) (Aa (qv 1) Ad))) Ad))))) Ao)
  (Ac (A4 (Al Be (qv 2) Bh (Am _)) (Af (Aj (qm T.sg (nz T) hr T.Ajq T.o5 (Aa (qc IH hr T.D9 T.Di T.Ec (Aa (qix K (qv 0) Ab) (Aa (qv 1) Ad))) (Aa (qc IH hr T.D9 T.Di T.Ec (Aa (qix K (qv 0) Ab) (Aa (qv 1) Ad))) Ad))))) Ao)
  (Ac (A4 (Al Be (qv 2) Bh (Am _)) (Af (Aj (qm T.Sj (ao T) hr T.Adg T.dj (Aa (qc IH hr T.D9 T.Di T.Ec (Aa (qix K (qv 0) Ab) (Aa (qv 1) Ad))) (Aa (qix K (qv 0) Ab) (Aa (qix K (qv 0) Ab) Ad)))))) Ao)
  (Ac (A4 (Al Be (qv 2) Bh (Am _)) (Af (Aj (qm T.Kb (Ju T) hr T.ik T.Lq (Aa (qc IH hr T.D9 T.Di T.Ec (Aa (qix K (qv 0) Ab) (Aa (qv 1) Ad))) (Aa (qix K (qv 0) Ab) Ad))))) Ao)
  (Ac (A4 (Al yg (qv 2) Bh (Am _)) (Af (Aj (qc (t9 T) hr T.zd T.lh T.zc (Aa (qv 0) (Aa (qv 1) Ad))))) Ao)
  (Ac (Cr 3 Vs.nd (qc IH hr T.D9 T.Di T.Ec (Aa (qix K (qv 0) Ab) (Aa (qv 1) Ad))))
  (Ac (A4 (Asg (M9 (bh (qv 1) (λ _ => rfl)) (Hx (Al (vv (hu2 hr)) (qix K (qv 0) Ab) (Bo Ad) (Am _))))) (Ac (A4 (Al (vv (hu2 hr)) (qix K (qv 0) Ab) (Bo Ad) (Am _)) (Af (Aj (Ey (Al (vv (hu2 hr)) (qix K (qv 0) Ab) (Bo Ad) (Am _)) (Gm T.Hr ((F6 T n).mono dkl) hr rfl T.Wr T.N5.choose_spec.1 T.N5.choose_spec.2 Js (Aa (qv 3) Ad)) (Gm T.Hr ((F6 T n).mono dkl) hr rfl T.Wr T.Nw.choose_spec.1 T.Nw.choose_spec.2 Js (Aa (qv 3) (Aa (qix K (qv 0) Ab) Ad)))))) Ao)
  (Af (Aj (Gm T.Hr ((F6 T n).mono dkl) hr rfl T.Wr T.N1.choose_spec.1 T.N1.choose_spec.2 Js (Aa (qv 3) (Aa (qix K (qv 0) Ab) (Aa (qix K (qv 0) Ab) Ad))))))) Ao)
  (Af (Aj (Gm T.Hr ((F6 T n).mono dkl) hr rfl T.Wr T.Zm .nil Js (Aa (qv 3) (Aa (qix K (qv 0) Ab) (Aa (qix K (qv 0) Ab) (Aa (qix K (qv 0) Ab) Ad)))))))))))))))), ?_⟩
 obtain ⟨tb0, e0⟩ := tab.tbl
 cases r with
 |
  s r0 =>
  obtain ⟨w0, vs, htw, hw⟩ := qr (r := r0) ht
  refine ⟨Asd (htw), at0 _ _, ?_⟩
  refine ⟨λ z => absurd ((Ajo w0 hw).symm.trans z) dkd, λ _ => ?_⟩
  refine ⟨λ z => absurd ((Aj1 w0 hw).symm.trans z) dkd, λ _ => ?_⟩
  refine ⟨λ z => absurd ((Aj9 w0 hw).symm.trans z) dkd, λ _ => ?_⟩
  refine ⟨λ z => absurd ((Ahd w0 hw).symm.trans z) dkd, λ _ => ?_⟩
  refine ⟨λ z => absurd ((Ah7 w0 hw).symm.trans z) dkd, λ _ => ?_⟩
  refine ⟨λ _ => ?_, λ z => absurd (by rw [Ai5 w0 hw]; rfl) z⟩
  exact ⟨t, b, r0, rfl, ht, ok, tab, λ x H' s' t' hr => k x H' s' t' hr⟩
 |
  ei r1 r2 =>
  obtain ⟨y, z, htw, h1, h2⟩ := TrAt.ei.mp ht
  have n1 : dep r1 < n /\ dep r2 < n := by have : max (dep r1) (dep r2) + 1 < n + 1 := hn; lia
  refine ⟨Asd (htw), rfl, ?_⟩
  refine br dkk ?_
  refine ⟨Asd (htw), rfl, y, b, r1, rfl, h1, ok.1, n1.1, tab, λ x1 H1 s1 t1 q1 => ?_⟩
  obtain ⟨tb1, e1⟩ := t1.tbl
  refine ⟨Asd (Ack e0 s1 htw), rfl, z, b, r2, rfl, h2.upX e0 s1, ok.2, n1.2, t1, λ x2 H2 s2 t2 q2 => ?_⟩
  refine λ x dx nx ndx nex => ⟨x, dx, x1, x2, rfl, Ae, λ H3 sx hx3 => ⟨rfl, ?_⟩⟩
  have S3 := Hn nx ndx (Ase _) sx
  exact k x H3 (λ q u hq e => S3 _ _ (s2 _ _ hq (s1 _ _ hq e))) (t2.same S3) (RtAt.isEi.mpr ⟨dx, x1, x2, hx3, (Ash e1 s2 q1).up S3, q2.up S3⟩)
 |
  bo r1 r2 =>
  obtain ⟨y, z, htw, h1, h2⟩ := TrAt.bo.mp ht
  have n1 : dep r1 < n /\ dep r2 < n := by have : max (dep r1) (dep r2) + 1 < n + 1 := hn; lia
  refine ⟨Asd (htw), rfl, ?_⟩
  refine Ex dkk ?_
  refine br dkk ?_
  refine ⟨Asd (htw), rfl, y, b, r1, rfl, h1, ok.1, n1.1, tab, λ x1 H1 s1 t1 q1 => ?_⟩
  obtain ⟨tb1, e1⟩ := t1.tbl
  refine ⟨Asd (Ack e0 s1 htw), rfl, z, b, r2, rfl, h2.upX e0 s1, ok.2, n1.2, t1, λ x2 H2 s2 t2 q2 => ?_⟩
  refine λ x dx nx ndx nex => ⟨x, dx, x1, x2, rfl, Ae, λ H3 sx hx3 => ⟨rfl, ?_⟩⟩
  have S3 := Hn nx ndx (Ase _) sx
  exact k x H3 (λ q u hq e => S3 _ _ (s2 _ _ hq (s1 _ _ hq e))) (t2.same S3) (RtAt.isBo.mpr ⟨dx, x1, x2, hx3, (Ash e1 s2 q1).up S3, q2.up S3⟩)
 |
  bu r1 r2 =>
  obtain ⟨y, z, htw, h1, h2⟩ := TrAt.bu.mp ht
  have n1 : dep r1 < n /\ dep r2 < n := by have : max (dep r1) (dep r2) + 1 < n + 1 := hn; lia
  refine ⟨Asd (htw), rfl, ?_⟩
  refine Ex dkk ?_
  refine Ex dkk ?_
  refine br dkk ?_
  refine ⟨Asd (htw), rfl, y, b, r1, rfl, h1, ok.1, n1.1, tab, λ x1 H1 s1 t1 q1 => ?_⟩
  obtain ⟨tb1, e1⟩ := t1.tbl
  refine ⟨Asd (Ack e0 s1 htw), rfl, z, b, r2, rfl, h2.upX e0 s1, ok.2, n1.2, t1, λ x2 H2 s2 t2 q2 => ?_⟩
  refine λ x dx nx ndx nex => ⟨x, dx, x1, x2, rfl, Ae, λ H3 sx hx3 => ⟨rfl, ?_⟩⟩
  have S3 := Hn nx ndx (Ase _) sx
  exact k x H3 (λ q u hq e => S3 _ _ (s2 _ _ hq (s1 _ _ hq e))) (t2.same S3) (RtAt.isBu.mpr ⟨dx, x1, x2, hx3, (Ash e1 s2 q1).up S3, q2.up S3⟩)
 |
  wi wb we r1 =>
  obtain ⟨y, htw, h1⟩ := TrAt.wi.mp ht
  have n1 : dep r1 < n := by have : dep r1 + 1 < n + 1 := hn; lia
  refine ⟨Asd (htw), rfl, ?_⟩
  refine Ex dkk ?_
  refine Ex dkk ?_
  refine Ex dkk ?_
  refine br dkk ?_
  refine ⟨Asd (htw), rfl, y, b, r1, rfl, h1, ok.2, n1, tab, λ x1 H1 s1 t1 q1 => ?_⟩
  have htw1 := Ack e0 s1 htw
  refine ⟨Asd (htw1), rfl, Asd (htw1), rfl, λ x dx nx ndx nex => ⟨x, dx, x1, wb, we, rfl, Ae, λ H3 sx hx3 => ⟨rfl, ?_⟩⟩⟩
  have S3 := Hn nx ndx (Ase _) sx
  exact k x H3 (λ q u hq e => S3 _ _ (s1 _ _ hq e)) (t1.same S3) (RtAt.isWi.mpr ⟨dx, x1, hx3, q1.up S3⟩)
 |
  sh sm r1 =>
  obtain ⟨y, htw, h1⟩ := TrAt.sh.mp ht
  have n1 : dep r1 < n := by have : dep r1 + 1 < n + 1 := hn; lia
  refine ⟨Asd (htw), rfl, ?_⟩
  refine Ex dkk ?_
  refine Ex dkk ?_
  refine Ex dkk ?_
  refine Ex dkk ?_
  refine br dkk ?_
  refine ⟨Asd (htw), rfl, y, b, r1, rfl, h1, ok.2, n1, tab, λ x1 H1 s1 t1 q1 => ?_⟩
  have htw1 := Ack e0 s1 htw
  refine ⟨Asd (htw1), rfl, λ x dx nx ndx nex => ⟨x, dx, x1, sm, rfl, ok.1.1, ok.1.2, Ae, λ H3 sx hx3 => ⟨rfl, ?_⟩⟩⟩
  have S3 := Hn nx ndx (Ase _) sx
  exact k x H3 (λ q u hq e => S3 _ _ (s1 _ _ hq e)) (t1.same S3) (RtAt.isSh.mpr ⟨dx, x1, hx3, q1.up S3⟩)
 |
  ch r1 ls ms mv =>
  obtain ⟨y, l1, l2, o, htw, h1, hl1, hl2, rs, ho, hok, rfl⟩ := TrAt.ch.mp ht
  have n1 : dep r1 < n := by have : dep r1 + 1 < n + 1 := hn; lia
  obtain ⟨ok1, okc⟩ := ok
  refine ⟨Asd (htw), rfl, ?_⟩
  refine Ex dkk ?_
  refine Ex dkk ?_
  refine Ex dkk ?_
  refine Ex dkk ?_
  refine Ex dkk ?_
  refine Ex dkk ?_
  refine ⟨Asd (htw), rfl, y, b, r1, rfl, h1, ok1, n1, tab, λ x1 H1 s1 t1 q1 => ?_⟩
  have fin : ∀ (H2 : Hp) (v1 v2 v3 : V), F5 a.A5 H H2 -> Agg H2 a.A5 -> RtAt (jd a) H2 r1 x1 -> OT H2 v1 ls -> OT H2 v2 ms -> OM H2 v3 (sps rs) -> ∀ x dx : Addr, H2 x = none -> H2 dx = none -> Tv (jd a) n [.ref x, .ref x1, v1, v2, v3] (upd (upd H2 dx (.own x)) x (.ins a.Ak dx [])) (λ v H' => v = .non /\ Q (.ref x) H') E0 := λ H2 v1 v2 v3 g1 g2 g3 g4 g5 g6 x dx nx ndx => by
   refine ⟨x, dx, x1, v1, v2, v3, r1, ls, ms, sps rs, H2, rfl, Ae, nx, (λ q u e => by rw [An (Aq e nx), An (Aq e ndx)]; exact e), g3, dkl, ok1, g4, g5, g6, okc, λ H3 sx hr3 => ⟨rfl, ?_⟩⟩
   have S3 := Hn nx ndx (Ase _) sx
   exact k x H3 (λ q u hq e => S3 _ _ (g1 _ _ hq e)) (g2.same S3) hr3
  have a0 := Ack e0 s1 htw
  have a1 := Ack e0 s1 hl1
  have a2 := Ack e0 s1 hl2
  have a3 := Ack e0 s1 ho
  have a4 : RowOk H1 rs := λ z hz => Ack e0 s1 (hok z hz)
  have all : ∀ {H9 : Hp}, Same H1 H9 -> F5 a.A5 H H9 /\ Agg H9 a.A5 /\ RtAt (jd a) H9 r1 x1 /\ H9 t = some (.tup [.str "changed", .ref y, .ref l1, .ref l2, .ref o]) /\ OT H9 (.ref l1) ls /\ OT H9 (.ref l2) ms /\ OM H9 (.ref o) (sps rs) := λ s9 =>
   ⟨λ q u hq e => s9 _ _ (s1 _ _ hq e), t1.same s9, q1.up s9, s9 _ _ a0, .inr ⟨l1, rfl, s9 _ _ a1⟩, .inr ⟨l2, rfl, s9 _ _ a2⟩, .inr ⟨o, rfl, rs, s9 _ _ a3, a4.up s9, rfl⟩⟩
  refine ⟨_, rfl, ?_⟩
  cases b with
  |
   false =>
   obtain ⟨S9, T9, R9, A9, O1, O2, O3⟩ := all (Ase _)
   refine Ct (Ct ?_)
   exact ⟨Asd (A9), rfl, Asd (A9), rfl, Asd (A9), rfl, λ x dx nx ndx nex => fin _ _ _ _ S9 T9 R9 O1 O2 O3 x dx nx ndx⟩
  |
   true =>
   refine F4 ⟨Asd (a0), rfl, λ em hem => ⟨o, em, _, rfl, rfl, (Ai hem) _ _ a3, Ae, ⟨λ z3 => ?_, λ _ => ?_⟩⟩⟩
   ·
    have u1 := Ai (o := .tup []) hem
    generalize upd H1 em (.tup []) = H5 at *
    refine ⟨Asd (u1 _ _ a0), rfl, λ em2 hem2 => ⟨l2, em2, _, rfl, rfl, (Ai hem2) _ _ (u1 _ _ a2), Ae, ⟨λ z2 => ?_, λ _ => ?_⟩⟩⟩
    ·
     have u2 := Ai (o := .tup []) hem2
     generalize upd H5 em2 (.tup []) = H6 at *
     refine ⟨Asd (u2 _ _ (u1 _ _ a0)), rfl, λ em3 hem3 => ⟨l1, em3, _, rfl, rfl, (Ai hem3) _ _ (u2 _ _ (u1 _ _ a1)), Ae, ⟨λ z1 => ?_, λ _ => ?_⟩⟩⟩
     ·
      obtain ⟨S9, T9, R9, A9, O1, O2, O3⟩ := all ((u1.trans u2).trans (Ai (o := .tup []) hem3))
      exact λ x dx nx ndx nex => fin _ .non .non .non S9 T9 R9 (.inl ⟨rfl, um z1⟩) (.inl ⟨rfl, um z2⟩) (.inl ⟨rfl, Ab1 z3⟩) x dx nx ndx
     ·
      obtain ⟨S9, T9, R9, A9, O1, O2, O3⟩ := all ((u1.trans u2).trans (Ai (o := .tup []) hem3))
      exact ⟨Asd (A9), rfl, λ x dx nx ndx nex => fin _ _ .non .non S9 T9 R9 O1 (.inl ⟨rfl, um z2⟩) (.inl ⟨rfl, Ab1 z3⟩) x dx nx ndx⟩
    ·
     obtain ⟨S9, T9, R9, A9, O1, O2, O3⟩ := all (u1.trans (Ai (o := .tup []) hem2))
     exact ⟨Asd (A9), rfl, Asd (A9), rfl, λ x dx nx ndx nex => fin _ _ _ .non S9 T9 R9 O1 O2 (.inl ⟨rfl, Ab1 z3⟩) x dx nx ndx⟩
   ·
    obtain ⟨S9, T9, R9, A9, O1, O2, O3⟩ := all (Ai (o := .tup []) hem)
    exact ⟨Asd (A9), rfl, Asd (A9), rfl, Asd (A9), rfl, λ x dx nx ndx nex => fin _ _ _ _ S9 T9 R9 O1 O2 O3 x dx nx ndx⟩
theorem Zg (T : Vy K mg base a) : ∀ n, FnOk P w K mg base CX0 true (n + 32) a.Jx a.J8 ["_law_tree_here", "_law_short"] (Q2 (jd a) a.A5 n)
 | 0 => ⟨λ vs H Q E h => by obtain ⟨t, b, r, rfl, h1, h2, h3, _⟩ := h; exact absurd h3 (Apu _), λ A outer s H args us vs Q E _ _ _ _ h => by obtain ⟨t, b, r, rfl, h1, h2, h3, _⟩ := h; exact absurd h3 (Apu _)⟩
 | n + 1 => oq T n (Zg T n)
def fu : Fk P w T 40 a.Jx a.J8 ["_law_tree_here", "_law_short"] (Q2 (jd a) a.A5 5) := (Zg T 5).mono dkd
def Lm : Aw ["_law_made_here", "_law_begin", "_law_days", "_law_falling", "_law_k", "_law_found"] ["_law_made_here", "_law_begin", "_law_days", "_law_falling"] (Ah M3) := qsc
def Z0 : Fk P w T 40 a.Ja a.Ic ["_law_made_here", "_law_begin", "_law_days", "_law_falling"] (Z5 (jd a)) := by
 refine T.Si.go Lm λ cdv A outer s H vs Q E hr h => ?_
 obtain ⟨x, D, F, bg, lo, m, r, rfl, hr0, hn, ok, hD, hF, hm, lo0, lo1, k⟩ := h
 refine ⟨_, (Ac (To Aof rfl (Pt rfl T.Hm (Aa (qb (Ds (K := K) rfl) T.Zs (Aa (qv 2) Ad)) Ad)) (qnm 4 Lm.nd) (Ac (Cr 5 Lm.nd (Ax (n := 1) (D := dF a 4) (qv 0) (ox T (Ij T 4) rfl rfl rfl rfl rfl hr dkd) (Aa (qil K (qv 2) (qv 4)) Ad)))
  (Af (A4 (Asg (o8 (Uz (Dz (qb (Er (K := K) rfl) T.B1 (Aa (qv 5) (Aa (Th (v := .ty "bool") rfl T.Wf dkk rfl) Ad))))) (Zk (Al yg (qv 5) (qil K (qv 3) (qv 4)) (Am _))))) (Af Jc) Ao))))
  (Af (Aj (Dx (A8 Aes (Ax (n := 1) (D := dF a 4) (qv 0) (ox T (Ij T 4) rfl rfl rfl rfl rfl hr dkd) (Aa (m6 Y0 Ab) Ad)) Sv (Am _)) (Dk (A8 Aes (Ax (n := 1) (D := dF a 4) (qv 0) (ox T (Ij T 4) rfl rfl rfl rfl rfl hr dkd) (Aa Ab Ad)) Sv (Am _))))))), ?_⟩
 refine ⟨D, _, rfl, .inl (Asf hD), _, rfl, dkl, (by rw [Am9, c8]; lia), ?_⟩
 conv => whnf
 rw [Am9, c8, Aoe]
 refine Oz (Lf 0 m H) (λ i σ H' => H = H' /\ ∃ y1 y2, σ = [some (.ref x), some (.int bg), some (.ref D), some (.ref F), y1, y2]) ⟨rfl, _, _, rfl⟩ (λ _ _ _ _ h => h.1 ▸ Ase _) ?_ ?_
 ·
  rintro i v σ H1 hv ⟨rfl, y1, y2, rfl⟩
  obtain ⟨j, hj, rfl⟩ := Anx.mp (Aoa hv)
  have hj := Ao9.mp hj
  rw [show (0 : Int) + (j : Int) = (j : Int) by lia]
  have bd : Bd (lo + (j : Int)) := ⟨dkl, dkl⟩
  obtain ⟨C1, dx1, fs1, R1, ea1, eb1, ec1, ed1⟩ := De (a := a) hr0 (n := 4) hn ok bd
  refine ⟨ea1, eb1, ec1, Asf (hD), Ac3 hj, ed1 _ ?_⟩
  refine ⟨_, _, _, _, rfl, i3.bl _, rfl, Ct ?_⟩
  refine ⟨Asf (hF), Aek hj, ?_⟩
  conv => whnf
  rw [Am6 rfl]
  exact Ct ⟨rfl, _, _, rfl⟩
 rintro σ H1 ⟨rfl, y1, y2, rfl⟩
 have bm : Bd (-1) := ⟨dkd, dkd⟩
 have bp : Bd 146097 := ⟨dkd, dkd⟩
 obtain ⟨C1, dx1, fs1, R1, ea1, eb1, ec1, ed1⟩ := De (a := a) hr0 (n := 4) hn ok bm
 obtain ⟨C2, dx2, fs2, R2, ea2, eb2, ec2, ed2⟩ := De (a := a) hr0 (n := 4) hn ok bp
 rw [DJ.Nh ok (.inl dkd)] at ed1
 rw [DJ.Nh ok (.inr dkd)] at ed2
 exact ⟨ea1, eb1, ec1, ed1 _ ⟨false, false, rfl, rfl, F4 ⟨ea2, eb2, ec2, ed2 _ ⟨false, false, rfl, rfl, k⟩⟩⟩⟩
theorem Amj (T : Vy K mg base a) (e1 : X.prog = P) (e2 : X.w = w) (e3 : X.K = K) (e4 : X.mg = mg) (e5 : X.base = base) (hr : Room true kk X.A) (hk : 31 + n <= kk) : ∀ C R, dN a n C R -> Ans X "next_in" 2 C R := by
 subst e1 e2 e3 e4 e5
 rintro C R ⟨i, hi, rfl, rfl⟩
 match i, hi with
 |
  0, _ =>
  refine (qan T.md T.Tb (((Sg T).imp λ vs H Q E h => ?_).mono (Anb dkl hk)) hr T.U5)
  obtain ⟨x, b, e, t, rfl, hk, hn, hr, ok, hw, hs, k⟩ := h
  obtain rfl := kd0 hk
  exact ⟨x, b, e, rfl, (rg k).2 λ _ _ _ => rfl⟩
 |
  1, _ =>
  refine (qan T.Fn T.Lp (((Li T).imp λ vs H Q E h => ?_).mono (Anb dkl hk)) hr T.Mt)
  obtain ⟨x, b, e, t, rfl, hk, hn, hr, ok, hw, hs, k⟩ := h
  obtain ⟨q1, q2, rfl⟩ := kdJ hk
  exact ⟨x, b, e, q1, q2, rfl, hr, ok, rg k⟩
 |
  2, _ =>
  refine (qan T.Cg T.P8 (((P5 T).imp λ vs H Q E h => ?_).mono (Anb dkl hk)) hr T.R7)
  obtain ⟨x, b, e, t, rfl, hk, hn, hr, ok, hw, hs, k⟩ := h
  obtain ⟨q1, q2, q3, rfl⟩ := kdJ hk
  exact ⟨x, b, e, q1, q2, q3, rfl, hr, ok, rg k⟩
 |
  3, _ =>
  refine (qan T.Cn T.Oo (((Ck T).imp λ vs H Q E h => ?_).mono (Anb dkl hk)) hr T.C5)
  obtain ⟨x, b, e, t, rfl, hk, hn, hr, ok, hw, hs, k⟩ := h
  obtain ⟨q1, q2, q3, rfl⟩ := kdJ hk
  exact ⟨x, b, e, .mo q1 q2 q3, rfl, trivial, hr, ok, rg k⟩
 |
  4, _ =>
  refine (qan T.Lz T.Vc (((Ck T).imp λ vs H Q E h => ?_).mono (Anb dkl hk)) hr T.C5)
  obtain ⟨x, b, e, t, rfl, hk, hn, hr, ok, hw, hs, k⟩ := h
  obtain ⟨q1, q2, q3, q4, rfl⟩ := kdJ hk
  exact ⟨x, b, e, .nt q1 q2 q3 q4, rfl, trivial, hr, ok, rg k⟩
 |
  5, _ =>
  refine (qan T.C9 T.Pl (((Ck T).imp λ vs H Q E h => ?_).mono (Anb dkl hk)) hr T.C5)
  obtain ⟨x, b, e, t, rfl, hk, hn, hr, ok, hw, hs, k⟩ := h
  obtain ⟨q1, q2, q3, q4, rfl⟩ := kdJ hk
  exact ⟨x, b, e, .yr q1 q2 q3 q4, rfl, trivial, hr, ok, rg k⟩
 |
  6, _ =>
  refine (qan T.Pc T.Nf (((M5 T).imp λ vs H Q E h => ?_).mono (Anb dkl hk)) hr T.Pa)
  obtain ⟨x, b, e, t, rfl, hk, hn, hr, ok, hw, hs, k⟩ := h
  obtain ⟨q1, rfl⟩ := kdJ hk
  exact ⟨x, b, e, q1, rfl, hr, (rg k).dy⟩
 |
  7, _ =>
  refine (qan T.Q3 T.Rj (((R0 T).imp λ vs H Q E h => ?_).mono (Anb dkl hk)) hr T.Sn)
  obtain ⟨x, b, e, t, rfl, hk, hn, hr, ok, hw, hs, k⟩ := h
  obtain ⟨q1, q2, rfl⟩ := kdJ hk
  exact ⟨x, b, e, q1, q2, rfl, hr, ok, hw.wi, rg k⟩
 | 8, _ => exact ⟨T.Ie, _, _, _, _, _, _, _, _, _, _, T.Yt, (B5 T n).mono dkm, hr, T.Df, .nil, Js, λ _ _ _ _ _ h => ⟨_, h⟩⟩
 | 9, _ => exact ⟨T.Qo, _, _, _, _, _, _, _, _, _, _, T.cn, (B5 T n).mono dkm, hr, T.Df, .nil, Js, λ _ _ _ _ _ h => ⟨_, h⟩⟩
 | 10, _ => exact ⟨T.Wt, _, _, _, _, _, _, _, _, _, _, T.jk, (B5 T n).mono dkm, hr, T.Df, .nil, Js, λ _ _ _ _ _ h => ⟨_, h⟩⟩
 | 11, _ => exact ⟨T.E9, _, _, _, _, _, _, _, _, _, _, T.Ym, (B5 T n).mono dkm, hr, T.Df, .nil, Js, λ _ _ _ _ _ h => ⟨_, h⟩⟩
 | 12, _ => exact ⟨T.El, _, _, _, _, _, _, _, _, _, _, T.V6, (B5 T n).mono dkm, hr, T.Df, .nil, Js, λ _ _ _ _ _ h => ⟨_, h⟩⟩
 | 13, _ => exact ⟨T.Ar, _, _, _, _, _, _, _, _, _, _, T.Oh, (B5 T n).mono dkm, hr, T.Df, .nil, Js, λ _ _ _ _ _ h => ⟨_, h⟩⟩
def Ef : Aw ["_law_script", "_law_made_here", "_law_days", "_law_falling", "_law_k", "_law_cell", "_law_low", "_law_high", "_law_due_here"] ["_law_script", "_law_made_here", "_law_days", "_law_falling"] (Ah Kp) := qsc
def cu : Fk P w T 42 a.K3 a.Ki ["_law_script", "_law_made_here", "_law_days", "_law_falling"] (fc K (jd a)) := by
 refine T.U0.go Ef λ cdv A outer s H vs Q E hr h => ?_
 obtain ⟨sa, x, D, F, ns, lo, m, r, rfl, hS, hr0, hn, ok, hD, hF, hm1, hm, lo0, lo1, k⟩ := h
 refine ⟨_, (Ac (To Aof rfl (Pt rfl T.Hm (Aa Ab Ad)) (qnm 4 Ef.nd) (Ac (Cr 5 Ef.nd (qc (B2 T) hr T.C7 T.Cm T.C6 (Aa (Ag Ap (qc (Bs T) hr T.B9 T.Bu T.B7 (Aa (qv 0) (Aa (Ag Ap Ab (qv 4)) Ad))) (qv 4)) Ad)))
  (Ac (Cr 6 Ef.nd (Ag Og (qv 5) (qb (Ds (K := K) rfl) T.Zs (Aa (qv 2) Ad))))
  (Ac (Cr 7 Ef.nd (Ag Ap (qv 6) (Ag Og (Ag Au (qv 5) Ab) (Ag A7 (Ag Ap (qb (Ds (K := K) rfl) T.Zs (Aa (qv 2) Ad)) Ab) (qv 6)))))
  (Ac (Ph (i0 := 8) Ef.nd rfl rfl (N := ["_law_j", "_law_days", "_law_falling"]) (cap := [none, some 2, some 3]) (by show Cs (Ah Kp) _ ["_law_script", "_law_made_here", "_law_days", "_law_falling", "_law_k", "_law_cell", "_law_low", "_law_high", "_law_due_here"] _ _; exact ⟨rfl, dkk, dkk, dkk, dkk, rfl, dkk⟩) rfl (dg rfl T.Hm (Aa (qv 6) (Aa (qv 7) Ad))) (λ C s H fp => ⟨(Hi (i := 0) (by show (["_law_j", "_law_days", "_law_falling"] : List Str).Nodup; decide +kernel) rfl (Or.inl rfl) (.inr rfl)), (ku (Dz (qil K (qv 2) (qv 0)))), (qil K (qv 1) (qv 0))⟩))
  (Af (A4 (Uz (Dz (qc (vo T) hr T.ze T.kr T.yl (Aa (Ax (n := 2) (D := dN a 4) (qv 1) (Amj T rfl rfl rfl rfl rfl hr dkd) (Aa (qil K (qv 2) (qv 6)) (Aa (Ag A7 (Ag Ap (qil K (qv 2) (qv 6)) (qv 7)) (qv 6)) Ad))) (Aa (qil K (Ag r9 (qv 8) (Lb (Aa Gq Ad))) Ab) Ad))))) (Af Jc) Ao)))))))
  (Af (Aj Sv))), ?_⟩
 refine ⟨5, rfl, dkd, dkd, ?_⟩
 refine Oz (Lf 0 5 H) (λ i σ H' => Same H H' /\ ∃ y1 y2 y3 y4 y5, σ = [some (.ref sa), some (.ref x), some (.ref D), some (.ref F), y1, y2, y3, y4, y5]) ⟨Ase _, _, _, _, _, _, rfl⟩ (λ _ _ _ _ h => h.1) ?_ ?_
 ·
  rintro i v σ H1 hv ⟨s1, y1, y2, y3, y4, y5, rfl⟩
  obtain ⟨j, hj, rfl⟩ := Anx.mp (Aoa hv)
  refine ⟨sa, ns, _, rfl, s1.seq hS, dkl, λ c1 => ⟨_, rfl, λ c c0 => ?_⟩⟩
  have hD1 := s1 _ _ hD
  have hF1 := s1 _ _ hF
  refine ⟨D, _, rfl, .inl (Asf hD1), _, _, rfl, rfl, (by rw [Am9, c8]; lia), ?_⟩
  conv => whnf
  rw [Am9, c8]
  have w0 : 0 <= c % (m : Int) := Anz _ dkl
  have w1 : c % (m : Int) < m := Anw _ dkl
  obtain ⟨lw, hlw⟩ := Ap8 w0
  conv => whnf
  try dsimp only
  rw [hlw] at w0 w1 ⊢
  refine ⟨D, _, rfl, .inl (Asf hD1), _, _, rfl, rfl, (by rw [Am9, c8]; show (0 : Int) < _; lia), ?_⟩
  conv => whnf
  rw [Am9, c8]
  have g0 : 0 <= c / 50 % ((m : Int) + 1 - (lw : Int)) := Anz _ dkl
  have g1 : c / 50 % ((m : Int) + 1 - (lw : Int)) < (m : Int) + 1 - (lw : Int) := Anw _ dkl
  obtain ⟨n, hn1⟩ := Ap8 g0
  conv => whnf
  try dsimp only
  rw [hn1] at g0 g1 ⊢
  refine ⟨_, _, rfl, ⟨dkl, dkl, dkl, dkl⟩, ?_⟩
  show Rb _ _ _ _ _ _ _ _
  rw [show ((lw : Int) + (n : Int) - (lw : Int)).toNat = n by lia]
  refine La (Lf (lw : Int) n _) (Afu λ z => ft r (lo + z)) (shV lo) (by rw [Am9, An5]; lia) ?_ ?_ (λ U H2 s2 _ hU => ?_)
  ·
   intro z hz H' sm R hR
   obtain ⟨q, hq, rfl⟩ := Anx.mp hz
   have hq := Ao9.mp hq
   rw [show (lw : Int) + (q : Int) = ((lw + q : Nat) : Int) by lia] at hR ⊢
   exact ⟨Asf (sm _ _ hF1), Aek dkl, hR H' (Ase _)⟩
  ·
   intro z hz _ H' sm R hR
   obtain ⟨q, hq, rfl⟩ := Anx.mp hz
   have hq := Ao9.mp hq
   rw [show (lw : Int) + (q : Int) = ((lw + q : Nat) : Int) by lia] at hR ⊢
   exact ⟨Asf (sm _ _ hD1), Ac3 dkl, hR H' (Ase _)⟩
  rw [Ai9] at hU
  have hD2 := s2 _ _ hD1
  have hw : Wn 4 (lo + (lw : Int)) (lo + (lw : Int) + ((lw : Int) + (n : Int)) - (lw : Int)) := ⟨dkd, dkl, dkl, dkl, dkl⟩
  have hs : Sz r (lo + (lw : Int)) (lo + (lw : Int) + ((lw : Int) + (n : Int)) - (lw : Int)) := .inl (by unfold DJ.Nar; split <;> split <;> lia)
  obtain ⟨C1, dx1, fs1, R1, ea1, eb1, ec1, ed1⟩ := Agm (a := a) (n := 4) (hr0.up (s1.trans s2)) hn ok hw hs
  refine ⟨ea1, eb1, ec1, Asf (hD2), Ac3 dkl, Asf (hD2), Ac3 dkl, ed1 _ λ o H3 s3 ho => ?_⟩
  refine λ L hL => ?_
  have u3 := Ai (o := .lst [.non]) hL
  refine ⟨U, L, _, _, rfl, rfl, u3 _ _ (s3 _ _ hU), Ae, ?_, λ L2 hL2 => ⟨Asf Ae, Ad8 _, ?_⟩⟩
  ·
   rw [Am9]
   have := DR.wo (ft r) (lo + (lw : Int)) (lo + (lw : Int) + (n : Int))
   exact Anb (by show _ + 1 <= 2000; lia) dkd
  have e9 : (days (ft r) (lo + (lw : Int)) (lo + (lw : Int) + (n : Int))).head? = o := by
   rw [show lo + (lw : Int) + ((lw : Int) + (n : Int)) - (lw : Int) = lo + (lw : Int) + (n : Int) by lia] at ho
   exact Adp.uniq ho
  rw [e9]
  exact ⟨o, rfl, Ct ⟨((s1.trans s2).trans s3).trans (u3.trans (Ai hL2)), _, _, _, _, _, rfl⟩⟩
 rintro σ H1 ⟨s1, y1, y2, y3, y4, y5, rfl⟩
 exact k H1 s1
def A0 : Aw ["_law_cell", "_law_spots_here", "_law_day_here", "_law_other", "_law_goal", "_law_end", "_law_tree_here", "_law_many", "_law_made_here", "_law_one", "_law_due_here"] ["_law_cell"] (Ah G8) := qsc
theorem Yj : Fk P w T 46 a.G9 a.G0 ["_law_cell"] (Yu a.A5) := by
 refine T.Rp.go A0 λ cdv A outer s H vs Q E hr h => ?_
 obtain ⟨c, rfl, c0, tab, k⟩ := h
 refine ⟨_, (Ac (Cr 1 A0.nd (Lb (Aa (Ag Ap Ab (Ag As (qv 0) Ab)) (Aa (Ag Ap Ab (Ag As (Ag Au (qv 0) Ab) Ab)) (Aa (Ag Ap Ab (Ag As (Ag Au (qv 0) Ab) Ab)) (Aa (Ag Ap Ab (Ag As (Ag Au (qv 0) Ab) Ab)) Ad))))))
  (Ac (Aay (qv 1) (Ago rfl (F9 (qnm 2 A0.nd) (F9 (qnm 3 A0.nd) (F9 (qnm 4 A0.nd) (F9 (qnm 5 A0.nd) fk))))))
  (Ac (Cr 6 A0.nd (Bo (Aa Bh (Aa (Bo (Aa Bh (Aa (Bo (Aa (qv 2) (Aa (qv 3) Ad))) Ad))) (Aa (Bo (Aa (qv 2) Ad)) (Aa (Bo Ad) (Aa (Bo (Aa (Bo (Aa (qv 2) (Aa (qv 4) Ad))) (Aa (Bo (Aa (qv 3) (Aa (qv 5) Ad))) Ad))) Ad)))))))
  (J3 (A4 (Al Be (Ag As (qv 0) Ab) Ab (Am _)) (Af (Cr 6 A0.nd (Bo (Aa Bh (Aa (Bo (Aa Bh (Aa (Bo (Aa (qv 2) (Aa (qv 3) (Aa (qv 5) Ad)))) Ad))) (Aa (Bo (Aa (qv 2) (Aa (qv 5) Ad))) (Aa (Bo (Aa (qv 4) Ad)) (Aa (Bo (Aa (Bo (Aa (qv 2) (Aa (qv 5) Ad))) (Aa (Bo (Aa (qv 3) (Aa (qv 5) Ad))) Ad))) Ad)))))))) Ao)
  (Ac (Cr 7 A0.nd (Ag Ap Ab (Ag As (qv 0) Ab)))
  (Ac (A4 (Asg (o8 (Dz (Ax (n := 1) (D := dF a 4) (qm T.Kb (Ju T) hr T.ik T.Lq (Aa (Gm T.Nk ((Ik T).mono dkd) hr rfl T.ml T.Dh.choose_spec.1 T.Dh.choose_spec.2 Js (Aa Ab Ad)) (Aa (qv 7) Ad))) (ox T (Ij T 4) rfl rfl rfl rfl rfl hr dkd) (Aa (Ag Ap Ab (qv 7)) Ad))) (Zk (Dz (Ax (n := 1) (D := dF a 4) (qm T.Kb (Ju T) hr T.ik T.Lq (Aa (Gm T.Nk ((Ik T).mono dkd) hr rfl T.ml T.Dh.choose_spec.1 T.Dh.choose_spec.2 Js (Aa Ab Ad)) (Aa (Ag A7 Ab (qv 7)) Ad))) (ox T (Ij T 4) rfl rfl rfl rfl rfl hr dkd) (Aa (Ag A7 Ab (qv 7)) Ad)))))) (Af Jc) Ao)
  (Ac (Cr 8 A0.nd (qc (fu T) hr T.D9 T.Di T.Ec (Aa (qv 6) (Aa Sv Ad))))
  (Ac (To Aof rfl (Rf (K := K) rfl (Ag r9 (qv 1) (Lb (Aa (Ag Ap (qil K (qv 1) Ab) Ab) (Aa Ab Ad))))) (qnm 9 A0.nd) (Af (A4 (Al yg (Ax (n := 1) (D := dF a 4) (qv 8) (ox T (Ij T 4) rfl rfl rfl rfl rfl hr dkd) (Aa (qv 9) Ad)) (qc (Tu T) hr T.Et T.Dv T.Es (Aa (qv 6) (Aa (qv 9) (Aa (qc (Eu T) hr T.F8 T.Fl T.Gg (Aa (qv 9) Ad)) Ad)))) (Am _)) (Af Jc) Ao)))
  (Ac (Ph (i0 := 10) A0.nd rfl rfl (N := ["_law_one", "_law_tree_here"]) (cap := [none, some 6]) (by show Cs (Ah G8) _ ["_law_cell", "_law_spots_here", "_law_day_here", "_law_other", "_law_goal", "_law_end", "_law_tree_here", "_law_many", "_law_made_here", "_law_one", "_law_due_here"] _ _; exact ⟨rfl, dkk, dkk, dkk, dkk, rfl, dkk⟩) rfl (Rf (K := K) rfl (qv 1)) (λ C s H fp => ⟨(Hi (i := 0) (by show (["_law_one", "_law_tree_here"] : List Str).Nodup; decide +kernel) rfl (Or.inl rfl) (.inr rfl)), (ku (Dz (qc (Tu T) hr T.Et T.Dv T.Es (Aa (qv 1) (Aa (qv 0) (Aa (qc (Eu T) hr T.F8 T.Fl T.Gg (Aa (qv 0) Ad)) Ad)))))), (qv 0)⟩))
  (Af (Aj (A8 Be (eo (D := λ C R => (C = a.Ak /\ R = λ x vs H Q => spJ (jd a) 4 (x :: (vs ++ ([.int 0, .int 146097] : List V))) H Q E0)) (qv 8) (by rintro C R ⟨rfl, rfl⟩; exact ⟨T.Ar, _, _, _, _, _, _, _, _, _, _, T.Oh, (B5 T 4).mono dkd, hr, T.Ny.choose_spec.1, T.Ny.choose_spec.2, Js, λ _ _ _ _ _ h => h⟩)) (qil K (qv 10) Ab) (Am _))))))))))))), ?_⟩
 refine λ L hL => ?_
 conv => whnf
 have b1 : 7 <= 7 + c % 900 /\ 7 + c % 900 < 907 := by lia
 have b2 : 950 <= 950 + c / 7 % 900 /\ 950 + c / 7 % 900 < 1850 := by lia
 have b3 : 1900 <= 1900 + c / 11 % 900 /\ 1900 + c / 11 % 900 < 2800 := by lia
 have b4 : 2900 <= 2900 + c / 13 % 900 /\ 2900 + c / 13 % 900 < 3800 := by lia
 conv => whnf
 try dsimp only
 generalize 7 + c % 900 = dd at *
 generalize 950 + c / 7 % 900 = ot at *
 generalize 1900 + c / 11 % 900 = go at *
 generalize 2900 + c / 13 % 900 = en at *
 have u0 := Ai (o := .lst [.int dd, .int ot, .int go, .int en]) hL
 have hL0 : (upd H L (.lst [.int dd, .int ot, .int go, .int en])) L = some (.lst ([dd, ot, go, en].map V.int)) := Ae
 generalize upd H L (.lst [.int dd, .int ot, .int go, .int en]) = H0 at *
 refine ⟨L, _, rfl, Asf hL0, rfl, _, _, rfl, _, _, rfl, _, _, rfl, _, _, rfl, rfl, ?_⟩
 refine λ p1 h1 => λ p2 h2 => λ p3 h3 => λ p4 h4 => λ p5 h5 => λ p6 h6 => λ p7 h7 => λ t ht => ?_
 obtain ⟨s1, t1⟩ := tj (ds := [dd, ot]) (ls := [dd]) (ms := []) (a := dd) (b := go) (c := ot) (d := en) h1 rfl h2 rfl h3 rfl h4 rfl h5 rfl h6 rfl h7 rfl ht rfl
 have m1 := Amq b1 b2 b3 b4
 refine ⟨λ σ H' => ∃ (t : Addr) (r : Rt), Same H0 H' /\ TrAt H' r t /\ Mg r [dd, ot, go, en] en /\ σ = [some (.int c), some (.ref L), some (.int dd), some (.int ot), some (.int go), some (.int en), some (.ref t), none, none, none, none], ?_, ?_⟩
 ·
  refine ⟨λ _ => ?_, λ _ => ?_⟩
  ·
   clear h1 h2 h3 h4 h5 h6 h7 ht
   refine λ p1 h1 => λ p2 h2 => λ p3 h3 => λ p4 h4 => λ p5 h5 => λ p6 h6 => λ p7 h7 => λ t ht => ?_
   obtain ⟨s2, t2⟩ := tj (ds := [dd, ot, en]) (ls := [dd, en]) (ms := [go]) (a := dd) (b := en) (c := ot) (d := en) h1 rfl h2 rfl h3 rfl h4 rfl h5 rfl h6 rfl h7 rfl ht rfl
   exact ⟨t, _, s1.trans s2, t2, Al8 b1 b2 b3 b4, rfl⟩
  · exact ⟨t, _, s1, t1, m1, rfl⟩
 clear h1 h2 h3 h4 h5 h6 h7 ht s1 t1 m1
 rintro σ H1 ⟨t, r, s1, t1, ⟨⟨ds, ls, ms, mv, er, h40⟩, ok, hdep, hsub, hend⟩, rfl⟩
 conv => whnf
 conv => whnf
 try dsimp only
 have w0 : 1 <= 1 + c % 1000 /\ 1 + c % 1000 <= 1000 := by lia
 generalize 1 + c % 1000 = my at *
 refine λ x1 dx1 nx ndx nex => ⟨x1, dx1, 1, 0, rfl, Ae, ⟨dkd, dkd, dkd, dkd⟩, λ HA1 sx hr1 => ⟨rfl, λ y1 dy1 ny ndy ney => ⟨y1, dy1, x1, my, rfl, dkl, dkl, Ae, λ HB1 sy hy1 => ⟨rfl, ?_⟩⟩⟩⟩
 have SA1 := Hn nx ndx (Ase _) sx
 have SB1 := Hn ny ndy (Ase _) sy
 have hR1 : RtAt (jd a) HB1 (.sh (my) (.s (.ev 1 0))) y1 := RtAt.isSh.mpr ⟨dy1, x1, hy1, RuleAt.up hr1 SB1⟩
 have okS1 : Okt (.sh (my) (.s (.ev 1 0))) := ⟨⟨dkl, dkl⟩, dkd, dkd, dkd, dkd⟩
 have bd1 : Bd (146096 + my) := ⟨dkl, dkl⟩
 obtain ⟨C1, dx1, fs1, R1, ea1, eb1, ec1, ed1⟩ := De (a := a) hR1 (n := 4) (by show 0 + 1 <= 4; decide) okS1 bd1
 rw [DJ.Nh okS1 (.inr dkl)] at ed1
 refine ⟨ea1, eb1, ec1, ed1 _ (Ct ?_)⟩
 refine λ x2 dx2 nx ndx nex => ⟨x2, dx2, 1, 0, rfl, Ae, ⟨dkd, dkd, dkd, dkd⟩, λ HA2 sx hr2 => ⟨rfl, λ y2 dy2 ny ndy ney => ⟨y2, dy2, x2, 0 - my, rfl, dkl, dkl, Ae, λ HB2 sy hy2 => ⟨rfl, ?_⟩⟩⟩⟩
 have SA2 := Hn nx ndx (Ase _) sx
 have SB2 := Hn ny ndy (Ase _) sy
 have hR2 : RtAt (jd a) HB2 (.sh (0 - my) (.s (.ev 1 0))) y2 := RtAt.isSh.mpr ⟨dy2, x2, hy2, RuleAt.up hr2 SB2⟩
 have okS2 : Okt (.sh (0 - my) (.s (.ev 1 0))) := ⟨⟨dkl, dkl⟩, dkd, dkd, dkd, dkd⟩
 have bd2 : Bd (0 - my) := ⟨dkl, dkl⟩
 obtain ⟨C2, dx2, fs2, R2, ea2, eb2, ec2, ed2⟩ := De (a := a) hR2 (n := 4) (by show 0 + 1 <= 4; decide) okS2 bd2
 rw [DJ.Nh okS2 (.inl dkl)] at ed2
 refine ⟨ea2, eb2, ec2, ed2 _ (Ct ?_)⟩
 have S4 := ((SA1.trans SB1).trans SA2).trans SB2
 have S04 := s1.trans S4
 have tab4 := (tab.same u0).same S04
 obtain ⟨tb, htb⟩ := tab4.tbl
 refine ⟨t, false, r, rfl, t1.up S4, ok, dkl, tab4, λ x H5 s5 tab5 hr5 => ?_⟩
 have t5 : TrAt H5 r t := (t1.up S4).upX htb s5
 have hL5 : H5 L = some (.lst ([dd, ot, go, en].map V.int)) := s5 _ _ (λ z => by have e := S04 _ _ hL0; rw [z, htb] at e; cases e) (S04 _ _ hL0)
 clear htb s5 tab4 S04 S4 hR1 hR2 ed1 ed2 ea1 ea2 eb1 eb2 ec1 ec2 sx sy hy1 hy2 hr1 hr2
 refine ⟨Asf hL5, at0 _ _, λ L2 hL2 => ?_⟩
 have u6 := Ai (o := .lst [.int (dd + 1), .int 5]) hL2
 refine ⟨L, L2, _, _, rfl, rfl, u6 _ _ hL5, Ae, (by show 6 <= sizeLine; decide), λ L3 hL3 => ?_⟩
 have u7 := u6.trans (Ai (o := .lst ([dd, ot, go, en].map V.int ++ [.int (dd + 1), .int 5])) hL3)
 have hL7 : (upd (upd H5 L2 (.lst [.int (dd + 1), .int 5])) L3 (.lst ([dd, ot, go, en].map V.int ++ [.int (dd + 1), .int 5]))) L3 = some (.lst ([dd, ot, go, en, dd + 1, 5].map V.int)) := Ae
 refine ⟨L3, rfl, ⟨_, Asf hL7⟩, ?_⟩
 conv => whnf
 show ∃ W : Nat -> Nat -> St -> Hp -> Prop, _
 generalize upd (upd H5 L2 (.lst [.int (dd + 1), .int 5])) L3 (.lst ([dd, ot, go, en].map V.int ++ [.int (dd + 1), .int 5])) = H7 at *
 refine Oz (Qf (Asf hL7)) (λ i σ H' => Same H7 H' /\ ∃ y1, σ = [some (.int c), some (.ref L), some (.int dd), some (.int ot), some (.int go), some (.int en), some (.ref t), some (.int my), some (.ref x), y1, none]) ⟨Ase _, _, rfl⟩ (λ _ _ _ _ h => h.1) ?_ ?_
 ·
  rintro i v σ H8 hv ⟨s8, y1, rfl⟩
  obtain ⟨d, hd, rfl⟩ := Anx.mp (Aoa hv)
  have hdy : 0 <= d /\ d < 146097 := by
   simp only [Anf, Ap1, Aqd] at hd
   lia
  have bd : Bd d := ⟨dkl, dkl⟩
  have S8 := u7.trans s8
  obtain ⟨C1, dx1, fs1, R1, ea1, eb1, ec1, ed1⟩ := De (a := a) (hr5.up S8) (n := 4) dkl ok bd
  refine ⟨ea1, eb1, ec1, ed1 _ ⟨d, rfl, hdy.1, hdy.2, λ q H9 s9 _ hq => ⟨t, q, d, r, rfl, (t5.up S8).up s9, ok, dkl, hdy.1, hdy.2, hq, λ H10 s10 => ?_⟩⟩⟩
  conv => whnf
  rw [Am6 rfl]
  exact Ct ⟨(s8.trans s9).trans s10, _, rfl⟩
 rintro σ H8 ⟨s8, y1, rfl⟩
 have S8 := u7.trans s8
 have hL8 := S8 _ _ hL5
 refine ⟨L, rfl, ⟨_, Asf hL8⟩, ?_⟩
 refine La (Qf (K := K) (Asf hL8)) (Afu (ft r)) id (by show 4 <= 100000; decide) ?_ (λ v hv _ H' _ R hR => hR H' (Ase _)) (λ U H9 s9 _ hU => ?_)
 ·
  intro v hv H' sm R hR
  obtain ⟨d, hd, rfl⟩ := Anx.mp hv
  have hdy : 0 <= d /\ d < 146097 := by
   simp only [Anf, Ap1, Aqd] at hd
   lia
  exact ⟨d, rfl, hdy.1, hdy.2, λ q H9 s9 _ hq => ⟨t, q, d, r, rfl, ((t5.up S8).up sm).up s9, ok, dkl, hdy.1, hdy.2, hq, λ H10 s10 => hR H10 (s9.trans s10)⟩⟩
 rw [List.map_id, Ahg] at hU
 have hfil : en ∈ [dd, ot, go, en].filter (ft r) := Aoj.mpr ⟨dks, hend⟩
 cases hf : [dd, ot, go, en].filter (ft r) with
 | nil => rw [hf] at hfil; cases hfil
 |
  cons d0 dr =>
  have hpw : [dd, ot, go, en].Pairwise (· < ·) := by
   simp only [List.pairwise_cons, Anf, Ap1, Aqd, List.Pairwise.nil, and_true, Asa, forall_eq, false_imp_iff, implies_true]
   lia
  obtain ⟨g1, g2, g3⟩ := Ae9 hpw hsub hf
  have hdy : 0 <= d0 /\ d0 < 146097 := by
   simp only [Anf, Ap1, Aqd] at g1
   lia
  have hnx : Nxt r 0 146097 (some d0) := ⟨hdy.1, hdy.2, g2, λ q _ hq => g3 q hq⟩
  rw [hf] at hU
  have hr9 := (hr5.up S8).up s9
  subst er
  obtain ⟨dx, y, p', q', o', g', l', gs, kvs, hx9, _⟩ := RtAt.isCh.mp hr9
  refine ⟨hx9, rfl, ⟨rfl, rfl⟩, 13, x, 0, 146097, _, rfl, rfl, dkl, hr9, ok, ⟨dkd, dkd, dkd, dkd, dkd⟩, .inr (.inr ⟨_, _, _, _, rfl, h40⟩), λ o H10 s10 ho => ?_⟩
  obtain rfl := hnx.uniq ho
  refine ⟨Asf (s10 _ _ hU), at0 _ _, ?_⟩
  conv => whnf
  rw [Am6 (show oV (some d0) = V.int d0 from rfl)]
  exact k _
def Y8 : Aw ["_law_script", "_law_base", "_law_rule_here", "_law_made_here", "_law_begin", "_law_days", "_law_falling", "_law_turn"] ["_law_script"] (Ah vj) := qsc
def Ahb : Fk P w T 50 a.y9 a.vf ["_law_script"] (xu K a.A5) := by
 refine T.Ake.go Y8 λ cdv A outer s H vs Q E hr h => ?_
 obtain ⟨sa, ns, rfl, hS, hlen, hpt, k⟩ := h
 refine ⟨_, (Ac (Cr 1 Y8.nd (qc (iy T) hr T.jh T.Uy T.i7 (Aa (qc (B2 T) hr T.C7 T.Cm T.C6 (Aa (qc (Bs T) hr T.B9 T.Bu T.B7 (Aa (qv 0) (Aa Ab Ad))) Ad)) Ad)))
  (Ac (Cr 2 Y8.nd (qc (vp T) hr T.Yb T.T7 T.X9 (Aa (qc (B2 T) hr T.C7 T.Cm T.C6 (Aa (qc (Bs T) hr T.B9 T.Bu T.B7 (Aa (qv 0) (Aa Ab Ad))) Ad)) (Aa (qv 1) (Aa (Ag Ap Ab (Ag As (qc (Bs T) hr T.B9 T.Bu T.B7 (Aa (qv 0) (Aa Ab Ad))) Ab)) Ad)))))
  (Ac (Cr 3 Y8.nd (qc (fu T) hr T.D9 T.Di T.Ec (Aa (qv 2) (Aa (A8 Be (Ag As (qc (Bs T) hr T.B9 T.Bu T.B7 (Aa (qv 0) (Aa Ab Ad))) Ab) Ab (Am _)) Ad))))
  (Ac (Cr 4 Y8.nd (qb (O4 rfl) T.V3 (Aa Ab (Aa (Ag A7 (qv 1) (Ag As (Ag Au (qc (Bs T) hr T.B9 T.Bu T.B7 (Aa (qv 0) (Aa Ab Ad))) Ab) Ab)) Ad))))
  (Ac (Cr 5 Y8.nd (qty (U6 rfl) T.V4 (Aa (qty rf T.Hm (Aa (qv 4) (Aa (qb (J1 rfl) T.Su (Aa Ab (Aa (Ag Ap (Ag Ap (qv 4) Ab) (Ag As (qc (Bs T) hr T.B9 T.Bu T.B7 (Aa (qv 0) (Aa Ab Ad))) Ab)) Ad))) Ad))) Ad)))
  (Ac (Ph (i0 := 6) Y8.nd rfl rfl (N := ["_law_day_here", "_law_rule_here"]) (cap := [none, some 2]) (by show Cs (Ah vj) _ ["_law_script", "_law_base", "_law_rule_here", "_law_made_here", "_law_begin", "_law_days", "_law_falling", "_law_turn"] _ _; exact ⟨rfl, dkk, dkk, dkk, dkk, rfl, dkk⟩) rfl (Rf (K := K) rfl (qv 5)) (λ C s H fp => ⟨(Hi (i := 0) (by show (["_law_day_here", "_law_rule_here"] : List Str).Nodup; decide +kernel) rfl (Or.inl rfl) (.inr rfl)), Vi, (qc (Tu T) hr T.Et T.Dv T.Es (Aa (qv 1) (Aa (qv 0) (Aa (qc (Eu T) hr T.F8 T.Fl T.Gg (Aa (qv 0) Ad)) Ad))))⟩))
  (Ac (To Aof rfl (Pt rfl T.Hm (Aa Ab Ad)) (qnm 7 Y8.nd) (J3 (A4 (Asg (M9 (Al Be (Ag As (Ag Ap (qv 7) (Ag Au (qc (Bs T) hr T.B9 T.Bu T.B7 (Aa (qv 0) (Aa Ab Ad))) Ab)) Ab) Ab (Am _)) (Hx (Uz (Dz (qc (Z0 T) hr T.gh T.Si T.fh (Aa (qv 3) (Aa (qv 4) (Aa (qv 5) (Aa (qv 6) Ad)))))))))) (Af Jc) Ao)
  (Af (A4 (Asg (M9 (Al Be (Ag As (Ag Ap (qv 7) (Ag Au (qc (Bs T) hr T.B9 T.Bu T.B7 (Aa (qv 0) (Aa Ab Ad))) Ab)) Ab) Ab (Am _)) (Hx (Uz (Dz (qc (cu T) hr T.j7 T.U0 T.ju (Aa (qv 0) (Aa (qv 3) (Aa (qv 5) (Aa (qv 6) Ad)))))))))) (Af Jc) Ao))))
  (Af (Aj (qc (Yj T) hr T.ah T.Rp T.aq (Aa (qc (B2 T) hr T.C7 T.Cm T.C6 (Aa (qc (Bs T) hr T.B9 T.Bu T.B7 (Aa (qv 0) (Aa Ab Ad))) Ad)) Ad))))))))))), ?_⟩
 refine ⟨sa, ns, _, rfl, hS, dkd, λ c0 => ⟨_, rfl, λ n _ => ⟨_, rfl, λ b H1 b0 b1 s1 => ?_⟩⟩⟩
 refine ⟨sa, ns, _, rfl, s1.seq hS, dkd, λ c1 => ⟨_, rfl, λ n2 _ => ⟨sa, ns, _, rfl, s1.seq hS, dkd, λ c2 => ⟨_, b, _, rfl, b0, b1, dkl, (by show _ < ((4 : Nat) : Int); lia), λ t r H2 s2 ht ok hd => ?_⟩⟩⟩⟩
 have hd4 : dep r <= 3 := by lia
 have hS2 := (s1.trans s2).seq hS
 have hpt2 := (s1.trans s2) _ _ hpt
 refine ⟨sa, ns, _, rfl, hS2, dkd, λ c3 => ⟨t, _, r, rfl, ht, ok, dkl, .inl hpt2, λ x H3 sx tab3 hr3 => ?_⟩⟩
 have hS3 := Al9 hS2 hpt2 sx
 have t3 := ht.upX hpt2 sx
 refine ⟨sa, ns, _, rfl, hS3, dkd, λ c4 => ?_⟩
 conv => whnf
 conv => whnf
 try dsimp only
 generalize hlo : (if b - c4 / 2 % 25 > 0 then b - c4 / 2 % 25 else 0) = lo
 have l0 : 0 <= lo /\ lo <= b := by rw [← hlo]; split <;> lia
 clear hlo
 refine ⟨sa, ns, _, rfl, hS3, dkd, λ c5 => ?_⟩
 conv => whnf
 conv => whnf
 try dsimp only
 generalize hhi : (if lo + 20 + c5 % 31 < 146097 then lo + 20 + c5 % 31 else 146097) = hi
 have h0 : lo < hi /\ hi <= 146097 /\ hi <= lo + 60 := by rw [← hhi]; split <;> lia
 clear hhi
 obtain ⟨m, hm⟩ := Ap8 (show 0 <= hi - lo by lia)
 refine ⟨_, _, rfl, λ R hR => ⟨R, lo, hi, 1, m, rfl, Ae, dkd, dkd, ⟨dkl, dkl, dkl, dkl⟩, ?_, dkl, λ D hD => ?_⟩⟩
 ·
  unfold Builtin.Range.rangeSize
  rw [if_pos dkd, if_pos h0.1, Int.ediv_one]
  lia
 rw [Ae0]
 have u4 := (Ai (o := Ad2 R lo hi 1) hR).trans (Ai (o := .lst ((dl lo m).map V.int)) hD)
 have hD4 : (upd (upd H3 R (Ad2 R lo hi 1)) D (.lst ((dl lo m).map V.int))) D = some (.lst ((dl lo m).map V.int)) := Ae
 generalize upd (upd H3 R (Ad2 R lo hi 1)) D (.lst ((dl lo m).map V.int)) = H4 at *
 refine ⟨D, rfl, ⟨_, Asf hD4⟩, ?_⟩
 refine La (Qf (K := K) (Asf hD4)) (λ _ => true) (blV (ft r)) (by rw [Am9, c8]; lia) (λ _ _ H' _ R hR => hR H' (Ase _)) ?_ (λ F H5 s5 _ hF => ?_)
 ·
  intro v hv _ H' sm R hR
  obtain ⟨d, hd, rfl⟩ := Anx.mp hv
  have hdy := Ag5 hd
  exact ⟨d, rfl, dkl, dkl, λ q H9 s9 _ hq => ⟨t, q, d, r, rfl, ((t3.up u4).up sm).up s9, ok, dkl, dkl, dkl, hq, λ H10 s10 => hR H10 (s9.trans s10)⟩⟩
 rw [Aqq.mpr (λ _ _ => rfl), Ahv] at hF
 have S5 := u4.trans s5
 have hD5 := s5 _ _ hD4
 refine ⟨2, rfl, dkd, dkd, ?_⟩
 refine Oz (Lf 0 2 H5) (λ i σ H' => Same H5 H' /\ ∃ y, σ = [some (.ref sa), some (.int b), some (.ref t), some (.ref x), some (.int lo), some (.ref D), some (.ref F), y]) ⟨Ase _, _, rfl⟩ (λ _ _ _ _ h => h.1) ?_ ?_
 ·
  rintro i v σ H6 hv ⟨s6, y, rfl⟩
  obtain ⟨j, hj, rfl⟩ := Anx.mp (Aoa hv)
  have S6 := S5.trans s6
  have r6 := hr3.up S6
  have hS6 := S6.seq hS3
  have hD6 := s6 _ _ hD5
  have hF6 := s6 _ _ hF
  have m1 : 1 <= m /\ m <= 60 := by lia
  have m2 : lo + (m : Int) <= 146097 := by lia
  refine ⟨λ σ H' => H6 = H' /\ σ = [some (.ref sa), some (.int b), some (.ref t), some (.ref x), some (.int lo), some (.ref D), some (.ref F), some (.int (0 + (j : Int)))], ?_, ?_⟩
  ·
   refine ⟨sa, ns, _, rfl, hS6, dkd, λ c6 => ⟨λ _ => ?_, λ _ => Ct ⟨rfl, rfl⟩⟩⟩
   exact ⟨x, D, F, lo, lo, m, r, rfl, r6, dkl, ok, hD6, hF6, dkl, l0.1, m2, Ct ⟨rfl, rfl⟩⟩
  rintro σ _ ⟨rfl, rfl⟩
  refine ⟨sa, ns, _, rfl, hS6, dkd, λ c7 => ⟨λ _ => ?_, λ _ => Ct ⟨s6, _, rfl⟩⟩⟩
  exact ⟨sa, x, D, F, ns, lo, m, r, rfl, hS6, r6, dkl, ok, hD6, hF6, m1.1, m1.2, l0.1, m2, λ H' s' => Ct ⟨s6.trans s', _, rfl⟩⟩
 rintro σ H6 ⟨s6, y, rfl⟩
 exact ⟨sa, ns, _, rfl, (S5.trans s6).seq hS3, dkd, λ c9 => ⟨_, rfl, λ n9 n90 => ⟨n9, rfl, n90, tab3.same (S5.trans s6), k⟩⟩⟩
end
def txt_mk (X : K.In h) (G : h.Ns mainGlobals mg)
  {En : Addr}
  {Lc : Addr}
  {Ba : Addr}
  {Ak : Addr}
  {Fo : Addr}
  {Bi : Addr}
  {Cd : Addr}
  {x_Joined : Addr}
  {Av : Addr}
  {Fm : Addr}
  {Gh : Addr}
  {Bb : Addr}
  {A3 : Addr}
  {B3 : Addr}
  {Bf : Addr}
  {Az : Addr}
  {fq2h fq2e fq1q fq2d fq17 fq1k fqy fqi fq1b fq2g fq8 fq12 fq1g fq11 fq1d fq1m fq1h fq13 fqf fq10 fqc fqd fq0 fq3 fq1i fq25 fq22 fq29 fq21 fq2a fq20 fq1u fq1l fq1y fq2c fq1o fqw fqq fq1 fqn fqo fql fq6 fq9 fq2 fq1p fq1v fq1w fq28 fq1j fq1e fq1t fq4 fqs fq1f fq7 fq27 fq2f fq2b fqa fqj fq1s fqu fq1a fq1r fqp fq5 fq1z fq18 fq19 fq26 fq1x fq24 fqz fq1c fqg : Addr}
  {dq2h dq2e dq1q dq2d dq17 dq1k dqy dqi dq1b dq2g dq8 dq12 dq1g dq11 dq1d dq1m dq1h dq13 dqf dq10 dqc dqd dq0 dq3 dq1i dq25 dq22 dq29 dq21 dq2a dq20 dq1u dq1l dq1y dq2c dq1o dqw dqq dq1 dqn dqo dql dq6 dq9 dq2 dq1p dq1v dq1w dq28 dq1j dq1e dq1t dq4 dqs dq1f dq7 dq27 dq2f dq2b dqa dqj dq1s dqu dq1a dq1r dqp dq5 dq1z dq18 dq19 dq26 dq1x dq24 dqz dq1c dqg : FuncData}
  {fq15 : Addr} {ocq15 dVq15 kVq15 dcq15 pmq15 cdq15 ctq15 : Value} {odq15 anq15 : Option Addr} {slq15 : Array (Option Value)}
  {tq15 : Addr} {otq15 : Obj} {uq15_0 uq15_1 : Tok} {ntq15 : Nat}
  {fqr : Addr} {ocqr dVqr kVqr dcqr pmqr cdqr ctqr : Value} {odqr anqr : Option Addr} {slqr : Array (Option Value)}
  {tqr : Addr} {otqr : Obj} {uqr_0 uqr_1 : Tok} {ntqr : Nat}
  {fqh : Addr} {ocqh dVqh kVqh dcqh pmqh cdqh ctqh : Value} {odqh anqh : Option Addr} {slqh : Array (Option Value)}
  {tqh : Addr} {otqh : Obj} {uqh_0 uqh_1 : Tok} {ntqh : Nat}
  {fqe : Addr} {ocqe dVqe kVqe dcqe pmqe cdqe ctqe : Value} {odqe anqe : Option Addr} {slqe : Array (Option Value)}
  {tqe : Addr} {otqe : Obj}  {ntqe : Nat}
  {fq16 : Addr} {ocq16 dVq16 kVq16 dcq16 pmq16 cdq16 ctq16 : Value} {odq16 anq16 : Option Addr} {slq16 : Array (Option Value)}
  {tq16 : Addr} {otq16 : Obj} {uq16_0 uq16_1 : Tok} {ntq16 : Nat}
  {fq14 : Addr} {ocq14 dVq14 kVq14 dcq14 pmq14 cdq14 ctq14 : Value} {odq14 anq14 : Option Addr} {slq14 : Array (Option Value)}
  {tq14 : Addr} {otq14 : Obj} {uq14_0 : Tok} {ntq14 : Nat}
  {fqx : Addr} {ocqx dVqx kVqx dcqx pmqx cdqx ctqx : Value} {odqx anqx : Option Addr} {slqx : Array (Option Value)}
  {tqx : Addr} {otqx : Obj} {uqx_0 uqx_1 : Tok} {ntqx : Nat}
  {fqt : Addr} {ocqt dVqt kVqt dcqt pmqt cdqt ctqt : Value} {odqt anqt : Option Addr} {slqt : Array (Option Value)}
  {tqt : Addr} {otqt : Obj} {uqt_0 uqt_1 : Tok} {ntqt : Nat}
  {fqm : Addr} {ocqm dVqm kVqm dcqm pmqm cdqm ctqm : Value} {odqm anqm : Option Addr} {slqm : Array (Option Value)}
  {tqm : Addr} {otqm : Obj} {uqm_0 uqm_1 : Tok} {ntqm : Nat}
  {fqk : Addr} {ocqk dVqk kVqk dcqk pmqk cdqk ctqk : Value} {odqk anqk : Option Addr} {slqk : Array (Option Value)}
  {tqk : Addr} {otqk : Obj} {uqk_0 uqk_1 : Tok} {ntqk : Nat}
  {fq1n : Addr} {ocq1n dVq1n kVq1n dcq1n pmq1n cdq1n ctq1n : Value} {odq1n anq1n : Option Addr} {slq1n : Array (Option Value)}
  {tq1n : Addr} {otq1n : Obj} {uq1n_0 uq1n_1 : Tok} {ntq1n : Nat}
  {fqb : Addr} {ocqb dVqb kVqb dcqb pmqb cdqb ctqb : Value} {odqb anqb : Option Addr} {slqb : Array (Option Value)}
  {tqb : Addr} {otqb : Obj} {uqb_0 uqb_1 : Tok} {ntqb : Nat}
  {fqv : Addr} {ocqv dVqv kVqv dcqv pmqv cdqv ctqv : Value} {odqv anqv : Option Addr} {slqv : Array (Option Value)}
  {tqv : Addr} {otqv : Obj} {uqv_0 uqv_1 : Tok} {ntqv : Nat}
  {fq23 : Addr} {ocq23 kVq23 dcq23 pmq23 cdq23 ctq23 : Value} {odq23 anq23 : Option Addr} {slq23 : Array (Option Value)}
  {fq2i : Addr} {ocq2i kVq2i dcq2i pmq2i cdq2i ctq2i : Value} {odq2i anq2i : Option Addr} {slq2i : Array (Option Value)}
  {t_DAYS : Tok}
  {Fy : Addr} {o_DAYS_AHEAD : Obj} {n_DAYS_AHEAD : Nat} {t_DAYS_AHEAD_0 t_DAYS_AHEAD_1 t_DAYS_AHEAD_2 t_DAYS_AHEAD_3 t_DAYS_AHEAD_4 t_DAYS_AHEAD_5 t_DAYS_AHEAD_6 t_DAYS_AHEAD_7 t_DAYS_AHEAD_8 t_DAYS_AHEAD_9 t_DAYS_AHEAD_10 t_DAYS_AHEAD_11 : Tok}
  {t_FIRST_WEEKDAY : Tok}
  {t_FIRST_WIDTH : Tok}
  {t_FIRST_YEAR : Tok}
  {t_LONG_YEAR : Tok}
  {t_MONTHS : Tok}
  {Dc : Addr} {o_MONTH_LENGTHS : Obj} {n_MONTH_LENGTHS : Nat} {t_MONTH_LENGTHS_0 t_MONTH_LENGTHS_1 t_MONTH_LENGTHS_2 t_MONTH_LENGTHS_3 t_MONTH_LENGTHS_4 t_MONTH_LENGTHS_5 t_MONTH_LENGTHS_6 t_MONTH_LENGTHS_7 t_MONTH_LENGTHS_8 t_MONTH_LENGTHS_9 t_MONTH_LENGTHS_10 t_MONTH_LENGTHS_11 : Tok}
  {t_MOST_EVERY : Tok}
  {t_MOST_MANY : Tok}
  {ccq23 ptq23 : Addr} {u1q23 : Value} {u2q23 : Option Addr} {u3q23 : Array Value} {u4q23 : Array (Option Value)}
  (aC_Both : W.nsIn K mainGlobals "Both" = some (some (.ref En)))
  (pg_Both : W.plainGet K En Str.empty = true)
  (hd_Both : W.hasDictIn K En = true)
  (po_Both : W.plainOver K En = true)
  (sa_Both : W.findIn K (.ref En) "__setattr__" = some (some (.builtin "object.__setattr__")))
  (gd : W.makesIn K En = true)
  (kc_Both : W.keepIn K (.ref En) = true)
  (nf_one_Both : NoA K En "one")
  (nf_other_Both : NoA K En "other")
  (aC_But : W.nsIn K mainGlobals "But" = some (some (.ref Lc)))
  (pg_But : W.plainGet K Lc Str.empty = true)
  (hd_But : W.hasDictIn K Lc = true)
  (po_But : W.plainOver K Lc = true)
  (sa_But : W.findIn K (.ref Lc) "__setattr__" = some (some (.builtin "object.__setattr__")))
  (sg : W.makesIn K Lc = true)
  (kc_But : W.keepIn K (.ref Lc) = true)
  (nf_one_But : NoA K Lc "one")
  (nf_other_But : NoA K Lc "other")
  (aC_ByMonth : W.nsIn K mainGlobals "ByMonth" = some (some (.ref Ba)))
  (pg_ByMonth : W.plainGet K Ba Str.empty = true)
  (hd_ByMonth : W.hasDictIn K Ba = true)
  (po_ByMonth : W.plainOver K Ba = true)
  (sa_ByMonth : W.findIn K (.ref Ba) "__setattr__" = some (some (.builtin "object.__setattr__")))
  (Ud : W.makesIn K Ba = true)
  (kc_ByMonth : W.keepIn K (.ref Ba) = true)
  (nf_origin_ByMonth : NoA K Ba "origin")
  (nf_stride_ByMonth : NoA K Ba "stride")
  (nf_first_ByMonth : NoA K Ba "first")
  (aC_Changed : W.nsIn K mainGlobals "Changed" = some (some (.ref Ak)))
  (pg_Changed : W.plainGet K Ak Str.empty = true)
  (hd_Changed : W.hasDictIn K Ak = true)
  (po_Changed : W.plainOver K Ak = true)
  (sa_Changed : W.findIn K (.ref Ak) "__setattr__" = some (some (.builtin "object.__setattr__")))
  (Hr : W.makesIn K Ak = true)
  (kc_Changed : W.keepIn K (.ref Ak) = true)
  (nf_rule_Changed : NoA K Ak "rule")
  (nf_left_Changed : NoA K Ak "left")
  (nf_more_Changed : NoA K Ak "more")
  (nf_moved_Changed : NoA K Ak "moved")
  (nf_gained_Changed : NoA K Ak "gained")
  (nf_lost_Changed : NoA K Ak "lost")
  (aC_Days : W.nsIn K mainGlobals "Days" = some (some (.ref Fo)))
  (pg_Days : W.plainGet K Fo Str.empty = true)
  (hd_Days : W.hasDictIn K Fo = true)
  (po_Days : W.plainOver K Fo = true)
  (sa_Days : W.findIn K (.ref Fo) "__setattr__" = some (some (.builtin "object.__setattr__")))
  (iu : W.makesIn K Fo = true)
  (kc_Days : W.keepIn K (.ref Fo) = true)
  (nf_days_Days : NoA K Fo "days")
  (aC_Either : W.nsIn K mainGlobals "Either" = some (some (.ref Bi)))
  (pg_Either : W.plainGet K Bi Str.empty = true)
  (hd_Either : W.hasDictIn K Bi = true)
  (po_Either : W.plainOver K Bi = true)
  (sa_Either : W.findIn K (.ref Bi) "__setattr__" = some (some (.builtin "object.__setattr__")))
  (T1 : W.makesIn K Bi = true)
  (kc_Either : W.keepIn K (.ref Bi) = true)
  (nf_one_Either : NoA K Bi "one")
  (nf_other_Either : NoA K Bi "other")
  (aC_Every : W.nsIn K mainGlobals "Every" = some (some (.ref Cd)))
  (pg_Every : W.plainGet K Cd Str.empty = true)
  (hd_Every : W.hasDictIn K Cd = true)
  (po_Every : W.plainOver K Cd = true)
  (sa_Every : W.findIn K (.ref Cd) "__setattr__" = some (some (.builtin "object.__setattr__")))
  (Nk : W.makesIn K Cd = true)
  (kc_Every : W.keepIn K (.ref Cd) = true)
  (nf_step_Every : NoA K Cd "step")
  (nf_first_Every : NoA K Cd "first")
  (aC_Monthly : W.nsIn K mainGlobals "Monthly" = some (some (.ref Av)))
  (pg_Monthly : W.plainGet K Av Str.empty = true)
  (hd_Monthly : W.hasDictIn K Av = true)
  (po_Monthly : W.plainOver K Av = true)
  (sa_Monthly : W.findIn K (.ref Av) "__setattr__" = some (some (.builtin "object.__setattr__")))
  (Kc : W.makesIn K Av = true)
  (kc_Monthly : W.keepIn K (.ref Av) = true)
  (nf_date_Monthly : NoA K Av "date")
  (nf_every_Monthly : NoA K Av "every")
  (nf_origin_Monthly : NoA K Av "origin")
  (nf_stride_Monthly : NoA K Av "stride")
  (nf_first_Monthly : NoA K Av "first")
  (aC_Nth : W.nsIn K mainGlobals "Nth" = some (some (.ref Fm)))
  (pg_Nth : W.plainGet K Fm Str.empty = true)
  (hd_Nth : W.hasDictIn K Fm = true)
  (po_Nth : W.plainOver K Fm = true)
  (sa_Nth : W.findIn K (.ref Fm) "__setattr__" = some (some (.builtin "object.__setattr__")))
  (cj : W.makesIn K Fm = true)
  (kc_Nth : W.keepIn K (.ref Fm) = true)
  (nf_which_Nth : NoA K Fm "which")
  (nf_weekday_of_Nth : NoA K Fm "weekday_of")
  (nf_every_Nth : NoA K Fm "every")
  (nf_origin_Nth : NoA K Fm "origin")
  (nf_stride_Nth : NoA K Fm "stride")
  (nf_first_Nth : NoA K Fm "first")
  (aC_Rule : W.nsIn K mainGlobals "Rule" = some (some (.ref Gh)))
  (pg_Rule : W.plainGet K Gh Str.empty = true)
  (hd_Rule : W.hasDictIn K Gh = true)
  (po_Rule : W.plainOver K Gh = true)
  (sa_Rule : W.findIn K (.ref Gh) "__setattr__" = some (some (.builtin "object.__setattr__")))
  (mk_Rule : W.makesIn K Gh = true)
  (kc_Rule : W.keepIn K (.ref Gh) = true)
  (oi_Rule : W.findIn K (.ref Gh) "__init__" = some (some (.builtin "object.__init__")))
  (aC_Shifted : W.nsIn K mainGlobals "Shifted" = some (some (.ref Bb)))
  (pg_Shifted : W.plainGet K Bb Str.empty = true)
  (hd_Shifted : W.hasDictIn K Bb = true)
  (po_Shifted : W.plainOver K Bb = true)
  (sa_Shifted : W.findIn K (.ref Bb) "__setattr__" = some (some (.builtin "object.__setattr__")))
  (Kb : W.makesIn K Bb = true)
  (kc_Shifted : W.keepIn K (.ref Bb) = true)
  (nf_rule_Shifted : NoA K Bb "rule")
  (nf_many_Shifted : NoA K Bb "many")
  (aC_Weekly : W.nsIn K mainGlobals "Weekly" = some (some (.ref A3)))
  (pg_Weekly : W.plainGet K A3 Str.empty = true)
  (hd_Weekly : W.hasDictIn K A3 = true)
  (po_Weekly : W.plainOver K A3 = true)
  (sa_Weekly : W.findIn K (.ref A3) "__setattr__" = some (some (.builtin "object.__setattr__")))
  (Mz : W.makesIn K A3 = true)
  (kc_Weekly : W.keepIn K (.ref A3) = true)
  (nf_mask_Weekly : NoA K A3 "mask")
  (nf_first_Weekly : NoA K A3 "first")
  (nf_every_Weekly : NoA K A3 "every")
  (aC_Where : W.nsIn K mainGlobals "Where" = some (some (.ref B3)))
  (pg_Where : W.plainGet K B3 Str.empty = true)
  (hd_Where : W.hasDictIn K B3 = true)
  (po_Where : W.plainOver K B3 = true)
  (sa_Where : W.findIn K (.ref B3) "__setattr__" = some (some (.builtin "object.__setattr__")))
  (Xh : W.makesIn K B3 = true)
  (kc_Where : W.keepIn K (.ref B3) = true)
  (nf_test_Where : NoA K B3 "test")
  (aC_Within : W.nsIn K mainGlobals "Within" = some (some (.ref Bf)))
  (pg_Within : W.plainGet K Bf Str.empty = true)
  (hd_Within : W.hasDictIn K Bf = true)
  (po_Within : W.plainOver K Bf = true)
  (sa_Within : W.findIn K (.ref Bf) "__setattr__" = some (some (.builtin "object.__setattr__")))
  (Sj : W.makesIn K Bf = true)
  (kc_Within : W.keepIn K (.ref Bf) = true)
  (nf_rule_Within : NoA K Bf "rule")
  (nf_begin_Within : NoA K Bf "begin")
  (nf_end_Within : NoA K Bf "end")
  (aC_Yearly : W.nsIn K mainGlobals "Yearly" = some (some (.ref Az)))
  (pg_Yearly : W.plainGet K Az Str.empty = true)
  (hd_Yearly : W.hasDictIn K Az = true)
  (po_Yearly : W.plainOver K Az = true)
  (sa_Yearly : W.findIn K (.ref Az) "__setattr__" = some (some (.builtin "object.__setattr__")))
  (Nb : W.makesIn K Az = true)
  (kc_Yearly : W.keepIn K (.ref Az) = true)
  (nf_month_Yearly : NoA K Az "month")
  (nf_date_Yearly : NoA K Az "date")
  (nf_every_Yearly : NoA K Az "every")
  (nf_origin_Yearly : NoA K Az "origin")
  (nf_stride_Yearly : NoA K Az "stride")
  (nf_first_Yearly : NoA K Az "first")
  (aC_Joined : W.nsIn K mainGlobals "Joined" = some (some (.ref x_Joined)))
  (aq2h : AtM K "is_day" fq2h) (Fq2h : Fun K "is_day" "is_day" xi fq2h dq2h)
  (aq2e : AtM K "is_leap" fq2e) (Fq2e : Fun K "is_leap" "is_leap" pd fq2e dq2e)
  (aq1q : AtM K "year_begin" fq1q) (Fq1q : Fun K "year_begin" "year_begin" Ss fq1q dq1q)
  (aq2d : AtM K "weekday" fq2d) (Fq2d : Fun K "weekday" "weekday" qj fq2d dq2d)
  (aq17 : AtM K "check_bounds" fq17) (Fq17 : Fun K "check_bounds" "check_bounds" Va fq17 dq17)
  (aq1k : AtM K "count_below" fq1k) (Fq1k : Fun K "count_below" "count_below" Qm fq1k dq1k)
  (aqy : AtC K Gh "falls_on" fqy) (iqy : IsF K fqy) (Fqy : Fun K "falls_on" "Rule.falls_on" Tc fqy dqy)
  (aq15 : W.findIn K (.ref Gh) "next_in" = some (some (.ref fq15))) (lq15 : K.lookup fq15 = some ⟨ocq15, odq15, .func (W.fnOf "next_in" "Rule.next_in" (Bc Cw) (Ay Cw) (Ah Cw) dVq15 kVq15 dcq15 pmq15 anq15 cdq15 ctq15), slq15⟩) (eq15 : W.codeIn K cdq15 "Rule.next_in" = true) (kq15 : W.keepIn K (.ref fq15) = true)
  (iq15 : W.isFn K (.ref fq15) = true)
  (vq15 : dVq15 = .ref tq15) (wq15 : K.lookup tq15 = some otq15) (xq15 : otq15.data = .seq #[.int 0 uq15_0, .int 146097 uq15_1] ntq15)
  (aqr : W.findIn K (.ref Cd) "next_in" = some (some (.ref fqr))) (lqr : K.lookup fqr = some ⟨ocqr, odqr, .func (W.fnOf "next_in" "Every.next_in" (Bc Bx) (Ay Bx) (Ah Bx) dVqr kVqr dcqr pmqr anqr cdqr ctqr), slqr⟩) (eqr : W.codeIn K cdqr "Every.next_in" = true) (kqr : W.keepIn K (.ref fqr) = true)
  (iqr : W.isFn K (.ref fqr) = true)
  (vqr : dVqr = .ref tqr) (wqr : K.lookup tqr = some otqr) (xqr : otqr.data = .seq #[.int 0 uqr_0, .int 146097 uqr_1] ntqr)
  (aqi : AtC K Ba "__init__" fqi) (iqi : IsF K fqi) (Fqi : Fun K "__init__" "ByMonth.__init__" R8 fqi dqi)
  (aq1b : AtC K B3 "__init__" fq1b) (iq1b : IsF K fq1b) (Fq1b : Fun K "__init__" "Where.__init__" U8 fq1b dq1b)
  (aq2g : AtM K "merged" fq2g) (Fq2g : Fun K "merged" "merged" xl fq2g dq2g)
  (aqh : W.findIn K (.ref x_Joined) "next_in" = some (some (.ref fqh))) (lqh : K.lookup fqh = some ⟨ocqh, odqh, .func (W.fnOf "next_in" "Joined.next_in" (Bc Bj) (Ay Bj) (Ah Bj) dVqh kVqh dcqh pmqh anqh cdqh ctqh), slqh⟩) (eqh : W.codeIn K cdqh "Joined.next_in" = true) (kqh : W.keepIn K (.ref fqh) = true)
  (iqh : W.isFn K (.ref fqh) = true)
  (vqh : dVqh = .ref tqh) (wqh : K.lookup tqh = some otqh) (xqh : otqh.data = .seq #[.int 0 uqh_0, .int 146097 uqh_1] ntqh)
  (aq8 : AtC K Bi "falls_on" fq8) (iq8 : IsF K fq8) (Fq8 : Fun K "falls_on" "Either.falls_on" Px fq8 dq8)
  (aq12 : AtC K Bi "__init__" fq12) (iq12 : IsF K fq12) (Fq12 : Fun K "__init__" "Either.__init__" Sm fq12 dq12)
  (aq1g : AtC K En "__init__" fq1g) (iq1g : IsF K fq1g) (Fq1g : Fun K "__init__" "Both.__init__" Xn fq1g dq1g)
  (aq11 : AtC K En "falls_on" fq11) (iq11 : IsF K fq11) (Fq11 : Fun K "falls_on" "Both.falls_on" Sl fq11 dq11)
  (aq1d : AtC K En "days_in" fq1d) (iq1d : IsF K fq1d) (Fq1d : Fun K "days_in" "Both.days_in" Ow fq1d dq1d)
  (aq1m : AtC K Lc "__init__" fq1m) (iq1m : IsF K fq1m) (Fq1m : Fun K "__init__" "But.__init__" Zd fq1m dq1m)
  (aq1h : AtC K Lc "days_in" fq1h) (iq1h : IsF K fq1h) (Fq1h : Fun K "days_in" "But.days_in" Ql fq1h dq1h)
  (aq13 : AtC K Lc "falls_on" fq13) (iq13 : IsF K fq13) (Fq13 : Fun K "falls_on" "But.falls_on" U1 fq13 dq13)
  (aqf : AtC K Bf "days_in" fqf) (iqf : IsF K fqf) (Fqf : Fun K "days_in" "Within.days_in" Ry fqf dqf)
  (aq10 : AtC K Bf "__init__" fq10) (iq10 : IsF K fq10) (Fq10 : Fun K "__init__" "Within.__init__" Tj fq10 dq10)
  (aqc : AtC K Bf "falls_on" fqc) (iqc : IsF K fqc) (Fqc : Fun K "falls_on" "Within.falls_on" Pk fqc dqc)
  (aqd : AtC K Bb "days_in" fqd) (iqd : IsF K fqd) (Fqd : Fun K "days_in" "Shifted.days_in" Gb fqd dqd)
  (aq0 : AtC K Ak "days_gained" fq0) (iq0 : IsF K fq0) (Fq0 : Fun K "days_gained" "Changed.days_gained" Dt fq0 dq0)
  (aq3 : AtC K Ak "days_lost" fq3) (iq3 : IsF K fq3) (Fq3 : Fun K "days_lost" "Changed.days_lost" Hl fq3 dq3)
  (aqe : W.findIn K (.ref Ak) "__init__" = some (some (.ref fqe))) (lqe : K.lookup fqe = some ⟨ocqe, odqe, .func (W.fnOf "__init__" "Changed.__init__" (Bc Bm) (Ay Bm) (Ah Bm) dVqe kVqe dcqe pmqe anqe cdqe ctqe), slqe⟩) (eqe : W.codeIn K cdqe "Changed.__init__" = true) (kqe : W.keepIn K (.ref fqe) = true)
  (iqe : W.isFn K (.ref fqe) = true)
  (vqe : dVqe = .ref tqe) (wqe : K.lookup tqe = some otqe) (xqe : otqe.data = .seq #[.none, .none, .none] ntqe)
  (aq1i : AtM K "_law_cell_at" fq1i) (Fq1i : Fun K "_law_cell_at" "_law_cell_at" Xi fq1i dq1i)
  (aq25 : AtM K "_law_next" fq25) (Fq25 : Fun K "_law_next" "_law_next" X5 fq25 dq25)
  (aq22 : AtM K "_law_leap" fq22) (Fq22 : Fun K "_law_leap" "_law_leap" la fq22 dq22)
  (aq29 : AtM K "_law_year" fq29) (Fq29 : Fun K "_law_year" "_law_year" Yo fq29 dq29)
  (aq21 : AtM K "_law_same" fq21) (Fq21 : Fun K "_law_same" "_law_same" lg fq21 dq21)
  (aq2a : AtM K "_law_near" fq2a) (Fq2a : Fun K "_law_near" "_law_near" k9 fq2a dq2a)
  (aq20 : AtM K "_law_often" fq20) (Fq20 : Fun K "_law_often" "_law_often" dn fq20 dq20)
  (aq1u : AtM K "month_days" fq1u) (Fq1u : Fun K "month_days" "month_days" Zc fq1u dq1u)
  (aq1l : AtM K "month_begin" fq1l) (Fq1l : Fun K "month_begin" "month_begin" Qd fq1l dq1l)
  (aq1y : AtM K "check_day" fq1y) (Fq1y : Fun K "check_day" "check_day" fe fq1y dq1y)
  (aq2c : AtM K "week_of" fq2c) (Fq2c : Fun K "week_of" "week_of" rq fq2c dq2c)
  (aq1o : AtM K "week_begin" fq1o) (Fq1o : Fun K "week_begin" "week_begin" Zj fq1o dq1o)
  (aqw : AtC K Cd "days_in" fqw) (iqw : IsF K fqw) (Fqw : Fun K "days_in" "Every.days_in" M8 fqw dqw)
  (aqq : AtC K Cd "falls_on" fqq) (iqq : IsF K fqq) (Fqq : Fun K "falls_on" "Every.falls_on" Rv fqq dqq)
  (aq1 : AtC K A3 "has_weekday" fq1) (iq1 : IsF K fq1) (Fq1 : Fun K "has_weekday" "Weekly.has_weekday" Ly fq1 dq1)
  (aq16 : W.findIn K (.ref Fo) "next_in" = some (some (.ref fq16))) (lq16 : K.lookup fq16 = some ⟨ocq16, odq16, .func (W.fnOf "next_in" "Days.next_in" (Bc Ca) (Ay Ca) (Ah Ca) dVq16 kVq16 dcq16 pmq16 anq16 cdq16 ctq16), slq16⟩) (eq16 : W.codeIn K cdq16 "Days.next_in" = true) (kq16 : W.keepIn K (.ref fq16) = true)
  (iq16 : W.isFn K (.ref fq16) = true)
  (vq16 : dVq16 = .ref tq16) (wq16 : K.lookup tq16 = some otq16) (xq16 : otq16.data = .seq #[.int 0 uq16_0, .int 146097 uq16_1] ntq16)
  (aqn : AtC K B3 "falls_on" fqn) (iqn : IsF K fqn) (Fqn : Fun K "falls_on" "Where.falls_on" Lk fqn dqn)
  (aqo : AtC K Bi "days_in" fqo) (iqo : IsF K fqo) (Fqo : Fun K "days_in" "Either.days_in" R5 fqo dqo)
  (aql : AtC K Bb "__init__" fql) (iql : IsF K fql) (Fql : Fun K "__init__" "Shifted.__init__" R3 fql dql)
  (aq6 : AtC K Bb "falls_on" fq6) (iq6 : IsF K fq6) (Fq6 : Fun K "falls_on" "Shifted.falls_on" N8 fq6 dq6)
  (aq9 : AtC K Ak "days_in" fq9) (iq9 : IsF K fq9) (Fq9 : Fun K "days_in" "Changed.days_in" Ge fq9 dq9)
  (aq2 : AtC K Ak "has_gained" fq2) (iq2 : IsF K fq2) (Fq2 : Fun K "has_gained" "Changed.has_gained" Gk fq2 dq2)
  (aq1p : AtM K "_law_length" fq1p) (Fq1p : Fun K "_law_length" "_law_length" Y9 fq1p dq1p)
  (aq1v : AtM K "_law_first" fq1v) (Fq1v : Fun K "_law_first" "_law_first" gj fq1v dq1v)
  (aq1w : AtM K "_law_spots" fq1w) (Fq1w : Fun K "_law_spots" "_law_spots" Rg fq1w dq1w)
  (aq28 : AtM K "month_of" fq28) (Fq28 : Fun K "month_of" "month_of" Ya fq28 dq28)
  (aq1j : AtM K "check_every" fq1j) (Fq1j : Fun K "check_every" "check_every" Xl fq1j dq1j)
  (aq1e : AtM K "day_of_date" fq1e) (Fq1e : Fun K "day_of_date" "day_of_date" Q0 fq1e dq1e)
  (aq1t : AtM K "day_of_nth" fq1t) (Fq1t : Fun K "day_of_nth" "day_of_nth" Tf fq1t dq1t)
  (aq14 : W.findIn K (.ref Cd) "__init__" = some (some (.ref fq14))) (lq14 : K.lookup fq14 = some ⟨ocq14, odq14, .func (W.fnOf "__init__" "Every.__init__" (Bc Cz) (Ay Cz) (Ah Cz) dVq14 kVq14 dcq14 pmq14 anq14 cdq14 ctq14), slq14⟩) (eq14 : W.codeIn K cdq14 "Every.__init__" = true) (kq14 : W.keepIn K (.ref fq14) = true)
  (iq14 : W.isFn K (.ref fq14) = true)
  (vq14 : dVq14 = .ref tq14) (wq14 : K.lookup tq14 = some otq14) (xq14 : otq14.data = .seq #[.int 0 uq14_0] ntq14)
  (aq4 : AtC K A3 "weeks_over" fq4) (iq4 : IsF K fq4) (Fq4 : Fun K "weeks_over" "Weekly.weeks_over" M7 fq4 dq4)
  (aqs : AtC K Fo "falls_on" fqs) (iqs : IsF K fqs) (Fqs : Fun K "falls_on" "Days.falls_on" Sf fqs dqs)
  (aq1f : AtC K Fo "__init__" fq1f) (iq1f : IsF K fq1f) (Fq1f : Fun K "__init__" "Days.__init__" Q4 fq1f dq1f)
  (aqx : W.findIn K (.ref B3) "next_in" = some (some (.ref fqx))) (lqx : K.lookup fqx = some ⟨ocqx, odqx, .func (W.fnOf "next_in" "Where.next_in" (Bc Bw) (Ay Bw) (Ah Bw) dVqx kVqx dcqx pmqx anqx cdqx ctqx), slqx⟩) (eqx : W.codeIn K cdqx "Where.next_in" = true) (kqx : W.keepIn K (.ref fqx) = true)
  (iqx : W.isFn K (.ref fqx) = true)
  (vqx : dVqx = .ref tqx) (wqx : K.lookup tqx = some otqx) (xqx : otqx.data = .seq #[.int 0 uqx_0, .int 146097 uqx_1] ntqx)
  (aq7 : AtC K Ak "falls_on" fq7) (iq7 : IsF K fq7) (Fq7 : Fun K "falls_on" "Changed.falls_on" N3 fq7 dq7)
  (aq27 : AtM K "_law_date" fq27) (Fq27 : Fun K "_law_date" "_law_date" Xy fq27 dq27)
  (aq2f : AtM K "_law_day" fq2f) (Fq2f : Fun K "_law_day" "_law_day" ed fq2f dq2f)
  (aq2b : AtM K "date_of" fq2b) (Fq2b : Fun K "date_of" "date_of" d4 fq2b dq2b)
  (aqt : W.findIn K (.ref A3) "__init__" = some (some (.ref fqt))) (lqt : K.lookup fqt = some ⟨ocqt, odqt, .func (W.fnOf "__init__" "Weekly.__init__" (Bc Cj) (Ay Cj) (Ah Cj) dVqt kVqt dcqt pmqt anqt cdqt ctqt), slqt⟩) (eqt : W.codeIn K cdqt "Weekly.__init__" = true) (kqt : W.keepIn K (.ref fqt) = true)
  (iqt : W.isFn K (.ref fqt) = true)
  (vqt : dVqt = .ref tqt) (wqt : K.lookup tqt = some otqt) (xqt : otqt.data = .seq #[.int 0 uqt_0, .int 1 uqt_1] ntqt)
  (aqa : AtC K A3 "falls_on" fqa) (iqa : IsF K fqa) (Fqa : Fun K "falls_on" "Weekly.falls_on" Pg fqa dqa)
  (aqm : W.findIn K (.ref A3) "next_in" = some (some (.ref fqm))) (lqm : K.lookup fqm = some ⟨ocqm, odqm, .func (W.fnOf "next_in" "Weekly.next_in" (Bc Bl) (Ay Bl) (Ah Bl) dVqm kVqm dcqm pmqm anqm cdqm ctqm), slqm⟩) (eqm : W.codeIn K cdqm "Weekly.next_in" = true) (kqm : W.keepIn K (.ref fqm) = true)
  (iqm : W.isFn K (.ref fqm) = true)
  (vqm : dVqm = .ref tqm) (wqm : K.lookup tqm = some otqm) (xqm : otqm.data = .seq #[.int 0 uqm_0, .int 146097 uqm_1] ntqm)
  (aqj : AtC K Av "day_in" fqj) (iqj : IsF K fqj) (Fqj : Fun K "day_in" "Monthly.day_in" Ro fqj dqj)
  (aqk : W.findIn K (.ref Av) "__init__" = some (some (.ref fqk))) (lqk : K.lookup fqk = some ⟨ocqk, odqk, .func (W.fnOf "__init__" "Monthly.__init__" (Bc Bz) (Ay Bz) (Ah Bz) dVqk kVqk dcqk pmqk anqk cdqk ctqk), slqk⟩) (eqk : W.codeIn K cdqk "Monthly.__init__" = true) (kqk : W.keepIn K (.ref fqk) = true)
  (iqk : W.isFn K (.ref fqk) = true)
  (vqk : dVqk = .ref tqk) (wqk : K.lookup tqk = some otqk) (xqk : otqk.data = .seq #[.int 0 uqk_0, .int 1 uqk_1] ntqk)
  (aq1n : W.findIn K (.ref Fm) "__init__" = some (some (.ref fq1n))) (lq1n : K.lookup fq1n = some ⟨ocq1n, odq1n, .func (W.fnOf "__init__" "Nth.__init__" (Bc Ep) (Ay Ep) (Ah Ep) dVq1n kVq1n dcq1n pmq1n anq1n cdq1n ctq1n), slq1n⟩) (eq1n : W.codeIn K cdq1n "Nth.__init__" = true) (kq1n : W.keepIn K (.ref fq1n) = true)
  (iq1n : W.isFn K (.ref fq1n) = true)
  (vq1n : dVq1n = .ref tq1n) (wq1n : K.lookup tq1n = some otq1n) (xq1n : otq1n.data = .seq #[.int 0 uq1n_0, .int 1 uq1n_1] ntq1n)
  (aq1s : AtC K Fm "day_in" fq1s) (iq1s : IsF K fq1s) (Fq1s : Fun K "day_in" "Nth.day_in" Za fq1s dq1s)
  (aqu : AtC K Az "day_in" fqu) (iqu : IsF K fqu) (Fqu : Fun K "day_in" "Yearly.day_in" Sx fqu dqu)
  (aq1a : AtM K "_law_some_day" fq1a) (Fq1a : Fun K "_law_some_day" "_law_some_day" O6 fq1a dq1a)
  (aq1r : AtM K "_law_simple" fq1r) (Fq1r : Fun K "_law_simple" "_law_simple" Np fq1r dq1r)
  (aqp : AtM K "_law_months_off" fqp) (Fqp : Fun K "_law_months_off" "_law_months_off" Lo fqp dqp)
  (aqb : W.findIn K (.ref Ba) "next_in" = some (some (.ref fqb))) (lqb : K.lookup fqb = some ⟨ocqb, odqb, .func (W.fnOf "next_in" "ByMonth.next_in" (Bc Bg) (Ay Bg) (Ah Bg) dVqb kVqb dcqb pmqb anqb cdqb ctqb), slqb⟩) (eqb : W.codeIn K cdqb "ByMonth.next_in" = true) (kqb : W.keepIn K (.ref fqb) = true)
  (iqb : W.isFn K (.ref fqb) = true)
  (vqb : dVqb = .ref tqb) (wqb : K.lookup tqb = some otqb) (xqb : otqb.data = .seq #[.int 0 uqb_0, .int 146097 uqb_1] ntqb)
  (aq5 : AtC K Ba "falls_on" fq5) (iq5 : IsF K fq5) (Fq5 : Fun K "falls_on" "ByMonth.falls_on" Iv fq5 dq5)
  (aqv : W.findIn K (.ref Az) "__init__" = some (some (.ref fqv))) (lqv : K.lookup fqv = some ⟨ocqv, odqv, .func (W.fnOf "__init__" "Yearly.__init__" (Bc Bv) (Ay Bv) (Ah Bv) dVqv kVqv dcqv pmqv anqv cdqv ctqv), slqv⟩) (eqv : W.codeIn K cdqv "Yearly.__init__" = true) (kqv : W.keepIn K (.ref fqv) = true)
  (iqv : W.isFn K (.ref fqv) = true)
  (vqv : dVqv = .ref tqv) (wqv : K.lookup tqv = some otqv) (xqv : otqv.data = .seq #[.int 0 uqv_0, .int 1 uqv_1] ntqv)
  (aq1z : AtM K "_law_plain" fq1z) (Fq1z : Fun K "_law_plain" "_law_plain" Vn fq1z dq1z)
  (aq18 : AtM K "_law_by_month" fq18) (Fq18 : Fun K "_law_by_month" "_law_by_month" O8 fq18 dq18)
  (aq23 : W.nsIn K mainGlobals "_law_rule" = some (some (.ref fq23))) (lq23 : K.lookup fq23 = some ⟨ocq23, odq23, .func (W.fnOf "_law_rule" "_law_rule" (Bc Hs) (Ay Hs) (Ah Hs) .none kVq23 dcq23 pmq23 anq23 cdq23 ctq23), slq23⟩) (eq23 : W.codeIn K cdq23 "_law_rule" = true) (kq23 : W.keepIn K (.ref fq23) = true)
  (aq19 : AtC K Gh "days_in" fq19) (iq19 : IsF K fq19) (Fq19 : Fun K "days_in" "Rule.days_in" Pb fq19 dq19)
  (aq26 : AtM K "_law_tree" fq26) (Fq26 : Fun K "_law_tree" "_law_tree" X2 fq26 dq26)
  (aq1x : AtM K "_law_falls" fq1x) (Fq1x : Fun K "_law_falls" "_law_falls" Qp fq1x dq1x)
  (aq24 : AtM K "_law_made" fq24) (Fq24 : Fun K "_law_made" "_law_made" Yg fq24 dq24)
  (aqz : AtM K "_law_all_falls" fqz) (Fqz : Fun K "_law_all_falls" "_law_all_falls" M3 fqz dqz)
  (aq1c : AtM K "_law_all_next" fq1c) (Fq1c : Fun K "_law_all_next" "_law_all_next" Kp fq1c dq1c)
  (aqg : AtM K "_law_moved_good" fqg) (Fqg : Fun K "_law_moved_good" "_law_moved_good" G8 fqg dqg)
  (aq2i : W.nsIn K mainGlobals "law" = some (some (.ref fq2i))) (lq2i : K.lookup fq2i = some ⟨ocq2i, odq2i, .func (W.fnOf "law" "law" (Bc vj) (Ay vj) (Ah vj) .none kVq2i dcq2i pmq2i anq2i cdq2i ctq2i), slq2i⟩) (eq2i : W.codeIn K cdq2i "law" = true) (kq2i : W.keepIn K (.ref fq2i) = true)
  (j_Both_next_in : AtC K En "next_in" fqh)
  (j_But_next_in : AtC K Lc "next_in" fqh)
  (j_Changed_next_in : AtC K Ak "next_in" fqh)
  (j_Days_days_in : AtC K Fo "days_in" fq19)
  (j_Either_next_in : AtC K Bi "next_in" fqh)
  (j_Monthly_days_in : AtC K Av "days_in" fq19)
  (j_Monthly_falls_on : AtC K Av "falls_on" fq5)
  (j_Monthly_next_in : AtC K Av "next_in" fqb)
  (j_Nth_days_in : AtC K Fm "days_in" fq19)
  (j_Nth_falls_on : AtC K Fm "falls_on" fq5)
  (j_Nth_next_in : AtC K Fm "next_in" fqb)
  (j_Shifted_next_in : AtC K Bb "next_in" fqh)
  (j_Weekly_days_in : AtC K A3 "days_in" fq19)
  (j_Where_days_in : AtC K B3 "days_in" fq19)
  (j_Within_next_in : AtC K Bf "next_in" fqh)
  (j_Yearly_days_in : AtC K Az "days_in" fq19)
  (j_Yearly_falls_on : AtC K Az "falls_on" fq5)
  (j_Yearly_next_in : AtC K Az "next_in" fqb)
  (N6 : W.nsIn K mainGlobals "DAYS" = some (some (.int 146097 t_DAYS)))
  (Lg : W.nsIn K mainGlobals "DAYS_AHEAD" = some (some (.ref Fy))) (o_DAYS_AHEAD' : K.lookup Fy = some o_DAYS_AHEAD) (p_DAYS_AHEAD : o_DAYS_AHEAD.cls = .type "tuple") (q_DAYS_AHEAD : o_DAYS_AHEAD.data = .seq #[.int 0 t_DAYS_AHEAD_0, .int 31 t_DAYS_AHEAD_1, .int 59 t_DAYS_AHEAD_2, .int 90 t_DAYS_AHEAD_3, .int 120 t_DAYS_AHEAD_4, .int 151 t_DAYS_AHEAD_5, .int 181 t_DAYS_AHEAD_6, .int 212 t_DAYS_AHEAD_7, .int 243 t_DAYS_AHEAD_8, .int 273 t_DAYS_AHEAD_9, .int 304 t_DAYS_AHEAD_10, .int 334 t_DAYS_AHEAD_11] n_DAYS_AHEAD)
  (Fx : W.nsIn K mainGlobals "FIRST_WEEKDAY" = some (some (.int 5 t_FIRST_WEEKDAY)))
  (Jg : W.nsIn K mainGlobals "FIRST_WIDTH" = some (some (.int 4 t_FIRST_WIDTH)))
  (Eo : W.nsIn K mainGlobals "FIRST_YEAR" = some (some (.int 2000 t_FIRST_YEAR)))
  (M0 : W.nsIn K mainGlobals "LONG_YEAR" = some (some (.int 2000 t_LONG_YEAR)))
  (V5 : W.nsIn K mainGlobals "MONTHS" = some (some (.int 4800 t_MONTHS)))
  (Fv : W.nsIn K mainGlobals "MONTH_LENGTHS" = some (some (.ref Dc))) (o_MONTH_LENGTHS' : K.lookup Dc = some o_MONTH_LENGTHS) (p_MONTH_LENGTHS : o_MONTH_LENGTHS.cls = .type "tuple") (q_MONTH_LENGTHS : o_MONTH_LENGTHS.data = .seq #[.int 31 t_MONTH_LENGTHS_0, .int 28 t_MONTH_LENGTHS_1, .int 31 t_MONTH_LENGTHS_2, .int 30 t_MONTH_LENGTHS_3, .int 31 t_MONTH_LENGTHS_4, .int 30 t_MONTH_LENGTHS_5, .int 31 t_MONTH_LENGTHS_6, .int 31 t_MONTH_LENGTHS_7, .int 30 t_MONTH_LENGTHS_8, .int 31 t_MONTH_LENGTHS_9, .int 30 t_MONTH_LENGTHS_10, .int 31 t_MONTH_LENGTHS_11] n_MONTH_LENGTHS)
  (Le : W.nsIn K mainGlobals "MOST_EVERY" = some (some (.int 1000 t_MOST_EVERY)))
  (J2 : W.nsIn K mainGlobals "MOST_MANY" = some (some (.int 1000 t_MOST_MANY)))
  (cg_ByMonth : W.specialIn K (.ref Ba) "__getattribute__" = some (some (.builtin "type.__getattribute__"))) (cr_ByMonth : W.readsIn K Ba (.type "type") = true) (ca_ByMonth___init : W.findCls K (.ref Ba) (.type "type") "__init__" = some (.val (.ref fqi))) (ch_ByMonth___init : W.handedIn (.ref fqi) = true)
  (yk : NoM K "abs")
  (Wf : NoM K "bool")
  (oh : NoM K "int")
  (B1 : NoM K "isinstance")
  (Zs : NoM K "len")
  (V4 : NoM K "list")
  (V3 : NoM K "max")
  (Su : NoM K "min")
  (Hm : NoM K "range")
  (vc : NoM K "set")
  (Qj : NoM K "sorted")
  (x8 : NoM K "str")
  (Aax : NoM K "sum")
  (Jf : NoM K "tuple")
  (Aa5 : NoM K "zip")
  (cvq23 : cdq23 = .ref ccq23) (lkq23 : K.lookup ccq23 = some ⟨u1q23, u2q23, .fields u3q23, u4q23⟩) (pvq23 : u3q23[11]? = some (.ref ptq23)) (npq23 : K.lookup ptq23 = none) :
  ∃ a : Adr, Txt K mg a /\ a.y9 = fq2i /\ W.tabIn K "_law_rule" = some (a.Jv, a.A5) /\ K.lookup a.A5 = none /\ ∀ (s : Shared) (v : Value), BindsTo s a.vf ⟨[v], []⟩ [("_law_script", v)] := by
 subst vq15
 have Fq15 := Ka (st := Cw) lq15 eq15 kq15
 have bq15 : Binds K (W.fnOf "next_in" "Rule.next_in" (Bc Cw) (Ay Cw) (Ah Cw) (.ref tq15) kVq15 dcq15 pmq15 anq15 cdq15 ctq15) ["self", "day", "end"] [] := λ s us KX hl => by obtain ⟨_, _, _, rfl⟩ := L2.ex3 (us := us) (by rw [Aoc] at hl; exact hl); exact Ank rfl (KX _ _ wq15) xq15 rfl rfl
 subst vqr
 have Fqr := Ka (st := Bx) lqr eqr kqr
 have bqr : Binds K (W.fnOf "next_in" "Every.next_in" (Bc Bx) (Ay Bx) (Ah Bx) (.ref tqr) kVqr dcqr pmqr anqr cdqr ctqr) ["self", "day", "end"] [] := λ s us KX hl => by obtain ⟨_, _, _, rfl⟩ := L2.ex3 (us := us) (by rw [Aoc] at hl; exact hl); exact Ank rfl (KX _ _ wqr) xqr rfl rfl
 subst vqh
 have Fqh := Ka (st := Bj) lqh eqh kqh
 have bqh : Binds K (W.fnOf "next_in" "Joined.next_in" (Bc Bj) (Ay Bj) (Ah Bj) (.ref tqh) kVqh dcqh pmqh anqh cdqh ctqh) ["self", "day", "end"] [] := λ s us KX hl => by obtain ⟨_, _, _, rfl⟩ := L2.ex3 (us := us) (by rw [Aoc] at hl; exact hl); exact Ank rfl (KX _ _ wqh) xqh rfl rfl
 subst vqe
 have Fqe := Ka (st := Bm) lqe eqe kqe
 have bqe : Binds K (W.fnOf "__init__" "Changed.__init__" (Bc Bm) (Ay Bm) (Ah Bm) (.ref tqe) kVqe dcqe pmqe anqe cdqe ctqe) ["self", "rule", "left", "more", "moved"] [] := λ s us KX hl => by obtain ⟨_, _, _, _, _, rfl⟩ := L2.ex5 (us := us) (by rw [Aoc] at hl; exact hl); exact Ank rfl (KX _ _ wqe) xqe rfl rfl
 subst vq16
 have Fq16 := Ka (st := Ca) lq16 eq16 kq16
 have bq16 : Binds K (W.fnOf "next_in" "Days.next_in" (Bc Ca) (Ay Ca) (Ah Ca) (.ref tq16) kVq16 dcq16 pmq16 anq16 cdq16 ctq16) ["self", "day", "end"] [] := λ s us KX hl => by obtain ⟨_, _, _, rfl⟩ := L2.ex3 (us := us) (by rw [Aoc] at hl; exact hl); exact Ank rfl (KX _ _ wq16) xq16 rfl rfl
 subst vq14
 have Fq14 := Ka (st := Cz) lq14 eq14 kq14
 have bq14 : Binds K (W.fnOf "__init__" "Every.__init__" (Bc Cz) (Ay Cz) (Ah Cz) (.ref tq14) kVq14 dcq14 pmq14 anq14 cdq14 ctq14) ["self", "step", "first"] [] := λ s us KX hl => by obtain ⟨_, _, _, rfl⟩ := L2.ex3 (us := us) (by rw [Aoc] at hl; exact hl); exact Ank rfl (KX _ _ wq14) xq14 rfl rfl
 subst vqx
 have Fqx := Ka (st := Bw) lqx eqx kqx
 have bqx : Binds K (W.fnOf "next_in" "Where.next_in" (Bc Bw) (Ay Bw) (Ah Bw) (.ref tqx) kVqx dcqx pmqx anqx cdqx ctqx) ["self", "day", "end"] [] := λ s us KX hl => by obtain ⟨_, _, _, rfl⟩ := L2.ex3 (us := us) (by rw [Aoc] at hl; exact hl); exact Ank rfl (KX _ _ wqx) xqx rfl rfl
 subst vqt
 have Fqt := Ka (st := Cj) lqt eqt kqt
 have bqt : Binds K (W.fnOf "__init__" "Weekly.__init__" (Bc Cj) (Ay Cj) (Ah Cj) (.ref tqt) kVqt dcqt pmqt anqt cdqt ctqt) ["self", "mask", "first", "every"] [] := λ s us KX hl => by obtain ⟨_, _, _, _, rfl⟩ := L2.ex4 (us := us) (by rw [Aoc] at hl; exact hl); exact Ank rfl (KX _ _ wqt) xqt rfl rfl
 subst vqm
 have Fqm := Ka (st := Bl) lqm eqm kqm
 have bqm : Binds K (W.fnOf "next_in" "Weekly.next_in" (Bc Bl) (Ay Bl) (Ah Bl) (.ref tqm) kVqm dcqm pmqm anqm cdqm ctqm) ["self", "day", "end"] [] := λ s us KX hl => by obtain ⟨_, _, _, rfl⟩ := L2.ex3 (us := us) (by rw [Aoc] at hl; exact hl); exact Ank rfl (KX _ _ wqm) xqm rfl rfl
 subst vqk
 have Fqk := Ka (st := Bz) lqk eqk kqk
 have bqk : Binds K (W.fnOf "__init__" "Monthly.__init__" (Bc Bz) (Ay Bz) (Ah Bz) (.ref tqk) kVqk dcqk pmqk anqk cdqk ctqk) ["self", "date", "first", "every"] [] := λ s us KX hl => by obtain ⟨_, _, _, _, rfl⟩ := L2.ex4 (us := us) (by rw [Aoc] at hl; exact hl); exact Ank rfl (KX _ _ wqk) xqk rfl rfl
 subst vq1n
 have Fq1n := Ka (st := Ep) lq1n eq1n kq1n
 have bq1n : Binds K (W.fnOf "__init__" "Nth.__init__" (Bc Ep) (Ay Ep) (Ah Ep) (.ref tq1n) kVq1n dcq1n pmq1n anq1n cdq1n ctq1n) ["self", "which", "weekday_of", "first", "every"] [] := λ s us KX hl => by obtain ⟨_, _, _, _, _, rfl⟩ := L2.ex5 (us := us) (by rw [Aoc] at hl; exact hl); exact Ank rfl (KX _ _ wq1n) xq1n rfl rfl
 subst vqb
 have Fqb := Ka (st := Bg) lqb eqb kqb
 have bqb : Binds K (W.fnOf "next_in" "ByMonth.next_in" (Bc Bg) (Ay Bg) (Ah Bg) (.ref tqb) kVqb dcqb pmqb anqb cdqb ctqb) ["self", "day", "end"] [] := λ s us KX hl => by obtain ⟨_, _, _, rfl⟩ := L2.ex3 (us := us) (by rw [Aoc] at hl; exact hl); exact Ank rfl (KX _ _ wqb) xqb rfl rfl
 subst vqv
 have Fqv := Ka (st := Bv) lqv eqv kqv
 have bqv : Binds K (W.fnOf "__init__" "Yearly.__init__" (Bc Bv) (Ay Bv) (Ah Bv) (.ref tqv) kVqv dcqv pmqv anqv cdqv ctqv) ["self", "month", "date", "first", "every"] [] := λ s us KX hl => by obtain ⟨_, _, _, _, _, rfl⟩ := L2.ex5 (us := us) (by rw [Aoc] at hl; exact hl); exact Ank rfl (KX _ _ wqv) xqv rfl rfl
 have Fq23 := Aah (st := Hs) lq23 eq23 kq23
 have bq23 := Fq23.binds (ps := ["_law_tree_here", "_law_short"]) λ _ _ _ _ _ _ us hl => by obtain ⟨_, _, rfl⟩ := L2.ex2 hl; exact rfl
 have Fq2i := Aah (st := vj) lq2i eq2i kq2i
 have bq2i := Fq2i.binds (ps := ["_law_script"]) λ _ _ _ _ _ _ us hl => by obtain ⟨_, rfl⟩ := L2.ex1 hl; exact rfl
 exact ⟨{ aw := fq2h, bj := _, Wa := fq2e, Ws := _, N7 := fq1q, Nv := _, Xr := fq2d, Wk := _, Kt := fq17, Kz := _, L5 := fq1k, Mc := _, Jj := fqy, Ig := _, Ko := fq15, Kk := _, Iw := fqr, Ji := _, Fe := fqi, Gy := _, Kh := fq1b, Kj := _, bq := fq2g, a9 := _, Bk := fqh, Fd := _, Em := fq8, Ee := _, Jp := fq12, Hy := _, Mn := fq1g, Ml := _, F1 := fq11, Fu := _, Gv := fq1d, Gn := _, Om := fq1m, Nr := _, Jd := fq1h, Jn := _, Gw := fq13, Gp := _, E8 := fqf, Fb := _, Iu := fq10, Im := _, Ed := fqc, Eb := _, Ea := fqd, Eh := _, Dj := fq0, Du := _, E7 := fq3, E5 := _, G5 := fqe, Cp := _, Mb := fq1i, L8 := _, Ui := fq25, T4 := _, Ue := fq22, Uk := _, Ul := fq29, Uo := _, Uh := fq21, Ug := _, Um := fq2a, T6 := _, Qy := fq20, Qt := _, Of := fq1u, Od := _, Mh := fq1l, Md := _, Qe := fq1y, Rc := _, Xo := fq2c, Wo := _, Oi := fq1o, Nq := _, Jq := fqw, Ip := _, Ha := fqq, Hd := _, D4 := fq1, D7 := _, Km := fq16, Kl := _, G7 := fqn, G4 := _, Fh := fqo, Fc := _, G1 := fql, G6 := _, Dr := fq6, Dl := _, Ei := fq9, Ek := _, D6 := fq2, D3 := _, Oc := fq1p, Nu := _, Rh := fq1v, Q8 := _, Ra := fq1w, Qs := _, T5 := fq28, Up := _, L7 := fq1j, Ma := _, Mm := fq1e, Mj := _, N4 := fq1t, N2 := _, K0 := fq14, Gr := _, Ez := fq4, E6 := _, Iz := fqs, Jh := _, Mo := fq1f, L6 := _, Ib := fqx, Jb := _, Dn := fq7, Dq := _, Ua := fq27, T8 := _, Wd := fq2f, Wm := _, W2 := fq2b, Wb := _, Iy := fqt, Eg := _, Gf := fqa, Ga := _, Hb := fqm, Gz := _, Hg := fqj, G3 := _, He := fqk, Dg := _, Ot := fq1n, Ht := _, Oq := fq1s, Oe := _, Ii := fqu, Jo := _, K1 := fq1a, Ku := _, Nl := fq1r, Oj := _, G2 := fqp, Hf := _, C4 := fqb, F7 := _, Co := fq5, Fp := _, Jk := fqv, Ej := _, Q7 := fq1z, Q6 := _, Kn := fq18, Kr := _, Pn := fq23, Uj := _, Bq := fq19, K2 := _, J5 := fq26, J9 := _, Hk := fq1x, Hj := _, Jx := fq24, J8 := _, Ja := fqz, Ic := _, K3 := fq1c, Ki := _, G9 := fqg, G0 := _, y9 := fq2i, vf := _, Fy := Fy, Dc := Dc, En := En, Lc := Lc, Ba := Ba, Ak := Ak, Fo := Fo, Bi := Bi, Cd := Cd, Av := Av, Fm := Fm, Gh := Gh, Bb := Bb, A3 := A3, B3 := B3, Bf := Bf, Az := Az, Jv := ccq23, A5 := ptq23 }, ⟨Fq2h, An2 X G aq2h, Fq2h.b1 (by intros; rfl), Fq2e, An2 X G aq2e, Fq2e.b1 (by intros; rfl), Fq1q, An2 X G aq1q, Fq1q.b1 (by intros; rfl), Fq2d, An2 X G aq2d, Fq2d.b1 (by intros; rfl), Fq17, An2 X G aq17, Fq17.b3 (by intros; rfl), Fq1k, An2 X G aq1k, Fq1k.b2 (by intros; rfl), Fqy, Fqy.b2 (by intros; rfl), Fq15, bq15, Fqr, bqr, Fqi, Fqi.b4 (by intros; rfl), Fq1b, Fq1b.b2 (by intros; rfl), Fq2g, An2 X G aq2g, Fq2g.b2 (by intros; rfl), Fqh, bqh, ⟨[.int 0 uqh_0, .int 146097 uqh_1], (λ s us KX hl => match us, (show us.length = 1 by rw [Anj] at hl; simpa using hl) with | [_], _ => Ank rfl (KX _ _ wqh) xqh rfl rfl), (.cons (⟨_, rfl⟩) (.cons (⟨_, rfl⟩) .nil))⟩, Fq8, Fq8.b2 (by intros; rfl), Fq12, Fq12.b3 (by intros; rfl), Fq1g, Fq1g.b3 (by intros; rfl), Fq11, Fq11.b2 (by intros; rfl), Fq1d, Fq1d.b3 (by intros; rfl), Fq1m, Fq1m.b3 (by intros; rfl), Fq1h, Fq1h.b3 (by intros; rfl), Fq13, Fq13.b2 (by intros; rfl), Fqf, Fqf.b3 (by intros; rfl), Fq10, Fq10.b4 (by intros; rfl), Fqc, Fqc.b2 (by intros; rfl), Fqd, Fqd.b3 (by intros; rfl), Fq0, Fq0.b1 (by intros; rfl), Fq3, Fq3.b1 (by intros; rfl), Fqe, bqe, ⟨[.none], (λ s us KX hl => match us, (show us.length = 4 by rw [Anj] at hl; simpa using hl) with | [_, _, _, _], _ => Ank rfl (KX _ _ wqe) xqe rfl rfl), (.cons (rfl) .nil)⟩, ⟨[.none, .none], (λ s us KX hl => match us, (show us.length = 3 by rw [Anj] at hl; simpa using hl) with | [_, _, _], _ => Ank rfl (KX _ _ wqe) xqe rfl rfl), (.cons (rfl) (.cons (rfl) .nil))⟩, ⟨[.none, .none, .none], (λ s us KX hl => match us, (show us.length = 2 by rw [Anj] at hl; simpa using hl) with | [_, _], _ => Ank rfl (KX _ _ wqe) xqe rfl rfl), (.cons (rfl) (.cons (rfl) (.cons (rfl) .nil)))⟩, Fq1i, An2 X G aq1i, Fq1i.b2 (by intros; rfl), Fq25, An2 X G aq25, Fq25.b1 (by intros; rfl), Fq22, An2 X G aq22, Fq22.b1 (by intros; rfl), Fq29, An2 X G aq29, Fq29.b1 (by intros; rfl), Fq21, An2 X G aq21, Fq21.b2 (by intros; rfl), Fq2a, An2 X G aq2a, Fq2a.b2 (by intros; rfl), Fq20, An2 X G aq20, Fq20.b1 (by intros; rfl), Fq1u, An2 X G aq1u, Fq1u.b2 (by intros; rfl), Fq1l, An2 X G aq1l, Fq1l.b1 (by intros; rfl), Fq1y, An2 X G aq1y, Fq1y.b1 (by intros; rfl), Fq2c, An2 X G aq2c, Fq2c.b1 (by intros; rfl), Fq1o, An2 X G aq1o, Fq1o.b1 (by intros; rfl), Fqw, Fqw.b3 (by intros; rfl), Fqq, Fqq.b2 (by intros; rfl), Fq1, Fq1.b2 (by intros; rfl), Fq16, bq16, Fqn, Fqn.b2 (by intros; rfl), Fqo, Fqo.b3 (by intros; rfl), Fql, Fql.b3 (by intros; rfl), Fq6, Fq6.b2 (by intros; rfl), Fq9, Fq9.b3 (by intros; rfl), Fq2, Fq2.b2 (by intros; rfl), Fq1p, An2 X G aq1p, Fq1p.b2 (by intros; rfl), Fq1v, An2 X G aq1v, Fq1v.b2 (by intros; rfl), Fq1w, An2 X G aq1w, Fq1w.b3 (by intros; rfl), Fq28, An2 X G aq28, Fq28.b1 (by intros; rfl), Fq1j, An2 X G aq1j, Fq1j.b2 (by intros; rfl), Fq1e, An2 X G aq1e, Fq1e.b2 (by intros; rfl), Fq1t, An2 X G aq1t, Fq1t.b3 (by intros; rfl), Fq14, bq14, ⟨[.int 0 uq14_0], (λ s us KX hl => match us, (show us.length = 2 by rw [Anj] at hl; simpa using hl) with | [_, _], _ => Ank rfl (KX _ _ wq14) xq14 rfl rfl), (.cons (⟨_, rfl⟩) .nil)⟩, Fq4, Fq4.b2 (by intros; rfl), Fqs, Fqs.b2 (by intros; rfl), Fq1f, Fq1f.b2 (by intros; rfl), Fqx, bqx, Fq7, Fq7.b2 (by intros; rfl), Fq27, An2 X G aq27, Fq27.b1 (by intros; rfl), Fq2f, An2 X G aq2f, Fq2f.b3 (by intros; rfl), Fq2b, An2 X G aq2b, Fq2b.b1 (by intros; rfl), Fqt, bqt, ⟨[.int 1 uqt_1], (λ s us KX hl => match us, (show us.length = 3 by rw [Anj] at hl; simpa using hl) with | [_, _, _], _ => Ank rfl (KX _ _ wqt) xqt rfl rfl), (.cons (⟨_, rfl⟩) .nil)⟩, ⟨[.int 0 uqt_0, .int 1 uqt_1], (λ s us KX hl => match us, (show us.length = 2 by rw [Anj] at hl; simpa using hl) with | [_, _], _ => Ank rfl (KX _ _ wqt) xqt rfl rfl), (.cons (⟨_, rfl⟩) (.cons (⟨_, rfl⟩) .nil))⟩, Fqa, Fqa.b2 (by intros; rfl), Fqm, bqm, Fqj, Fqj.b2 (by intros; rfl), Fqk, bqk, ⟨[.int 1 uqk_1], (λ s us KX hl => match us, (show us.length = 3 by rw [Anj] at hl; simpa using hl) with | [_, _, _], _ => Ank rfl (KX _ _ wqk) xqk rfl rfl), (.cons (⟨_, rfl⟩) .nil)⟩, ⟨[.int 0 uqk_0, .int 1 uqk_1], (λ s us KX hl => match us, (show us.length = 2 by rw [Anj] at hl; simpa using hl) with | [_, _], _ => Ank rfl (KX _ _ wqk) xqk rfl rfl), (.cons (⟨_, rfl⟩) (.cons (⟨_, rfl⟩) .nil))⟩, Fq1n, bq1n, ⟨[.int 1 uq1n_1], (λ s us KX hl => match us, (show us.length = 4 by rw [Anj] at hl; simpa using hl) with | [_, _, _, _], _ => Ank rfl (KX _ _ wq1n) xq1n rfl rfl), (.cons (⟨_, rfl⟩) .nil)⟩, ⟨[.int 0 uq1n_0, .int 1 uq1n_1], (λ s us KX hl => match us, (show us.length = 3 by rw [Anj] at hl; simpa using hl) with | [_, _, _], _ => Ank rfl (KX _ _ wq1n) xq1n rfl rfl), (.cons (⟨_, rfl⟩) (.cons (⟨_, rfl⟩) .nil))⟩, Fq1s, Fq1s.b2 (by intros; rfl), Fqu, Fqu.b2 (by intros; rfl), Fq1a, An2 X G aq1a, Fq1a.b1 (by intros; rfl), Fq1r, An2 X G aq1r, Fq1r.b2 (by intros; rfl), Fqp, An2 X G aqp, Fqp.b4 (by intros; rfl), Fqb, bqb, Fq5, Fq5.b2 (by intros; rfl), Fqv, bqv, ⟨[.int 1 uqv_1], (λ s us KX hl => match us, (show us.length = 4 by rw [Anj] at hl; simpa using hl) with | [_, _, _, _], _ => Ank rfl (KX _ _ wqv) xqv rfl rfl), (.cons (⟨_, rfl⟩) .nil)⟩, ⟨[.int 0 uqv_0, .int 1 uqv_1], (λ s us KX hl => match us, (show us.length = 3 by rw [Anj] at hl; simpa using hl) with | [_, _, _], _ => Ank rfl (KX _ _ wqv) xqv rfl rfl), (.cons (⟨_, rfl⟩) (.cons (⟨_, rfl⟩) .nil))⟩, Fq1z, An2 X G aq1z, Fq1z.b3 (by intros; rfl), Fq18, An2 X G aq18, Fq18.b2 (by intros; rfl), Fq23, An2 X G aq23, bq23, Fq19, Fq19.b3 (by intros; rfl), Fq26, An2 X G aq26, Fq26.b3 (by intros; rfl), Fq1x, An2 X G aq1x, Fq1x.b3 (by intros; rfl), Fq24, An2 X G aq24, Fq24.b2 (by intros; rfl), Fqz, An2 X G aqz, Fqz.b4 (by intros; rfl), Fq1c, An2 X G aq1c, Fq1c.b4 (by intros; rfl), Fqg, An2 X G aqg, Fqg.b1 (by intros; rfl), Fq2i, An2 X G aq2i, bq2i, ⟨_, An2 X G N6⟩, An2 X G Lg, λ H => .inr ⟨_, _, _, o_DAYS_AHEAD', p_DAYS_AHEAD, q_DAYS_AHEAD, (by show 12 <= sizeLine; decide), (.cons ⟨_, rfl⟩ (.cons ⟨_, rfl⟩ (.cons ⟨_, rfl⟩ (.cons ⟨_, rfl⟩ (.cons ⟨_, rfl⟩ (.cons ⟨_, rfl⟩ (.cons ⟨_, rfl⟩ (.cons ⟨_, rfl⟩ (.cons ⟨_, rfl⟩ (.cons ⟨_, rfl⟩ (.cons ⟨_, rfl⟩ (.cons ⟨_, rfl⟩ .nil))))))))))))⟩, ⟨_, An2 X G Fx⟩, ⟨_, An2 X G Jg⟩, ⟨_, An2 X G Eo⟩, ⟨_, An2 X G M0⟩, ⟨_, An2 X G V5⟩, An2 X G Fv, λ H => .inr ⟨_, _, _, o_MONTH_LENGTHS', p_MONTH_LENGTHS, q_MONTH_LENGTHS, (by show 12 <= sizeLine; decide), (.cons ⟨_, rfl⟩ (.cons ⟨_, rfl⟩ (.cons ⟨_, rfl⟩ (.cons ⟨_, rfl⟩ (.cons ⟨_, rfl⟩ (.cons ⟨_, rfl⟩ (.cons ⟨_, rfl⟩ (.cons ⟨_, rfl⟩ (.cons ⟨_, rfl⟩ (.cons ⟨_, rfl⟩ (.cons ⟨_, rfl⟩ (.cons ⟨_, rfl⟩ .nil))))))))))))⟩, ⟨_, An2 X G Le⟩, ⟨_, An2 X G J2⟩, ⟨cg_ByMonth, cr_ByMonth, ca_ByMonth___init, ch_ByMonth___init, Fqi.kp⟩, An2 X G aC_Both, ⟨pg_Both, hd_Both, po_Both, sa_Both⟩, ⟨gd, aq1g, iq1g, kc_Both⟩, nf_one_Both, nf_other_Both, ⟨aq1d, iq1d, Fq1d.kp⟩, ⟨aq11, iq11, Fq11.kp⟩, ⟨j_Both_next_in, iqh, kqh⟩, An2 X G aC_But, ⟨pg_But, hd_But, po_But, sa_But⟩, ⟨sg, aq1m, iq1m, kc_But⟩, nf_one_But, nf_other_But, ⟨aq1h, iq1h, Fq1h.kp⟩, ⟨aq13, iq13, Fq13.kp⟩, ⟨j_But_next_in, iqh, kqh⟩, An2 X G aC_ByMonth, ⟨pg_ByMonth, hd_ByMonth, po_ByMonth, sa_ByMonth⟩, ⟨Ud, aqi, iqi, kc_ByMonth⟩, nf_origin_ByMonth, nf_stride_ByMonth, nf_first_ByMonth, An2 X G aC_Changed, ⟨pg_Changed, hd_Changed, po_Changed, sa_Changed⟩, ⟨Hr, aqe, iqe, kc_Changed⟩, nf_rule_Changed, nf_left_Changed, nf_more_Changed, nf_moved_Changed, nf_gained_Changed, nf_lost_Changed, ⟨aq0, iq0, Fq0.kp⟩, ⟨aq9, iq9, Fq9.kp⟩, ⟨aq3, iq3, Fq3.kp⟩, ⟨aq7, iq7, Fq7.kp⟩, ⟨aq2, iq2, Fq2.kp⟩, ⟨j_Changed_next_in, iqh, kqh⟩, An2 X G aC_Days, ⟨pg_Days, hd_Days, po_Days, sa_Days⟩, ⟨iu, aq1f, iq1f, kc_Days⟩, nf_days_Days, ⟨j_Days_days_in, iq19, Fq19.kp⟩, ⟨aqs, iqs, Fqs.kp⟩, ⟨aq16, iq16, kq16⟩, An2 X G aC_Either, ⟨pg_Either, hd_Either, po_Either, sa_Either⟩, ⟨T1, aq12, iq12, kc_Either⟩, nf_one_Either, nf_other_Either, ⟨aqo, iqo, Fqo.kp⟩, ⟨aq8, iq8, Fq8.kp⟩, ⟨j_Either_next_in, iqh, kqh⟩, An2 X G aC_Every, ⟨pg_Every, hd_Every, po_Every, sa_Every⟩, ⟨Nk, aq14, iq14, kc_Every⟩, nf_step_Every, nf_first_Every, ⟨aqw, iqw, Fqw.kp⟩, ⟨aqq, iqq, Fqq.kp⟩, ⟨aqr, iqr, kqr⟩, An2 X G aC_Monthly, ⟨pg_Monthly, hd_Monthly, po_Monthly, sa_Monthly⟩, ⟨Kc, aqk, iqk, kc_Monthly⟩, nf_date_Monthly, nf_every_Monthly, nf_origin_Monthly, nf_stride_Monthly, nf_first_Monthly, ⟨aqj, iqj, Fqj.kp⟩, ⟨j_Monthly_days_in, iq19, Fq19.kp⟩, ⟨j_Monthly_falls_on, iq5, Fq5.kp⟩, ⟨j_Monthly_next_in, iqb, kqb⟩, An2 X G aC_Nth, ⟨pg_Nth, hd_Nth, po_Nth, sa_Nth⟩, ⟨cj, aq1n, iq1n, kc_Nth⟩, nf_which_Nth, nf_weekday_of_Nth, nf_every_Nth, nf_origin_Nth, nf_stride_Nth, nf_first_Nth, ⟨aq1s, iq1s, Fq1s.kp⟩, ⟨j_Nth_days_in, iq19, Fq19.kp⟩, ⟨j_Nth_falls_on, iq5, Fq5.kp⟩, ⟨j_Nth_next_in, iqb, kqb⟩, An2 X G aC_Rule, ⟨pg_Rule, hd_Rule, po_Rule, sa_Rule⟩, ⟨mk_Rule, oi_Rule, kc_Rule⟩, ⟨aq19, iq19, Fq19.kp⟩, ⟨aqy, iqy, Fqy.kp⟩, ⟨aq15, iq15, kq15⟩, An2 X G aC_Shifted, ⟨pg_Shifted, hd_Shifted, po_Shifted, sa_Shifted⟩, ⟨Kb, aql, iql, kc_Shifted⟩, nf_rule_Shifted, nf_many_Shifted, ⟨aqd, iqd, Fqd.kp⟩, ⟨aq6, iq6, Fq6.kp⟩, ⟨j_Shifted_next_in, iqh, kqh⟩, An2 X G aC_Weekly, ⟨pg_Weekly, hd_Weekly, po_Weekly, sa_Weekly⟩, ⟨Mz, aqt, iqt, kc_Weekly⟩, nf_mask_Weekly, nf_first_Weekly, nf_every_Weekly, ⟨j_Weekly_days_in, iq19, Fq19.kp⟩, ⟨aqa, iqa, Fqa.kp⟩, ⟨aq1, iq1, Fq1.kp⟩, ⟨aqm, iqm, kqm⟩, ⟨aq4, iq4, Fq4.kp⟩, An2 X G aC_Where, ⟨pg_Where, hd_Where, po_Where, sa_Where⟩, ⟨Xh, aq1b, iq1b, kc_Where⟩, nf_test_Where, ⟨j_Where_days_in, iq19, Fq19.kp⟩, ⟨aqn, iqn, Fqn.kp⟩, ⟨aqx, iqx, kqx⟩, An2 X G aC_Within, ⟨pg_Within, hd_Within, po_Within, sa_Within⟩, ⟨Sj, aq10, iq10, kc_Within⟩, nf_rule_Within, nf_begin_Within, nf_end_Within, ⟨aqf, iqf, Fqf.kp⟩, ⟨aqc, iqc, Fqc.kp⟩, ⟨j_Within_next_in, iqh, kqh⟩, An2 X G aC_Yearly, ⟨pg_Yearly, hd_Yearly, po_Yearly, sa_Yearly⟩, ⟨Nb, aqv, iqv, kc_Yearly⟩, nf_month_Yearly, nf_date_Yearly, nf_every_Yearly, nf_origin_Yearly, nf_stride_Yearly, nf_first_Yearly, ⟨aqu, iqu, Fqu.kp⟩, ⟨j_Yearly_days_in, iq19, Fq19.kp⟩, ⟨j_Yearly_falls_on, iq5, Fq5.kp⟩, ⟨j_Yearly_next_in, iqb, kqb⟩, Aow X G yk, Aow X G Wf, Aow X G oh, Aow X G B1, Aow X G Zs, Aow X G V4, Aow X G V3, Aow X G Su, Aow X G Hm, Aow X G vc, Aow X G Qj, Aow X G x8, Aow X G Aax, Aow X G Jf, Aow X G Aa5, zh lq23 cvq23⟩, rfl, Acz aq23 lq23 cvq23 lkq23 pvq23, npq23, λ s v => .of_eq rfl⟩
end K14
namespace K14
open PySem L2
def walk {l : W.OpenLaw} {q : Program} {loose : List Str} {XP : (Str -> Option Value) -> Heap -> Prop} {YP : World -> Heap -> Prop} {d : DefRec} {K : Params -> W.Frag} (hn : l.most = some 63) (hdf : d.params.defaults = [])
  (hY : ∀ (w : World) (h : Heap), YP w h -> (K w.params).In h) (hrec : ((PyProof.Rows.recsOf q).find? (λ e => e.name == ("_law_rule" : Str))).isSome = true)
  (F : ∀ (w : World) (mg : Str -> Option Value) (fa : Addr) (h : Heap), (K w.params).In h -> h.Ns mainGlobals mg -> mg d.name = some (.ref fa) ->
   ∃ (fd : FuncData) (cc pt : Addr), W.tabIn (K w.params) "_law_rule" = some (cc, pt) /\ (K w.params).lookup pt = none /\ (∀ (s : Shared) (u : Value), BindsTo s fd ⟨[u], []⟩ [("_law_script", u)]) /\ ∀ base : Heap, (K w.params).In base -> base.Ns mainGlobals mg -> MkL mg base cc pt -> FnOk l.prog w (K w.params) mg base CX0 true 50 fa fd ["_law_script"] (xu (K w.params) pt)) :
  W.WalkO q loose XP YP l.row.toRowW d [] (λ f vs => PySem.call f vs) :=
 L2.Adc (cm := true) (n := 63) (k := 50) (x := "_law_script") (y := "_law_rule") (CX := λ _ => CX0) (sp := λ w pt => xu (K w.params) pt) hn dkd hdf ⟨λ _ => rfl, dkd, dkd⟩ hY hrec F (λ _ _ a pt ns hl _ hT hS => ⟨a, ns, rfl, hS, hl, hT, λ _ => rfl⟩) λ _ _ _ _ _ z => z
def all_ok {l : W.OpenLaw} {w : World} {K : W.Frag} {mg : Str -> Option Value} {fa f : Addr} (hfa : mg "law" = some (.ref fa))
  (h : ∃ a : Adr, Txt K mg a /\ a.y9 = f /\ W.tabIn K "_law_rule" = some (a.Jv, a.A5) /\ K.lookup a.A5 = none /\ ∀ (s : Shared) (v : Value), BindsTo s a.vf ⟨[v], []⟩ [("_law_script", v)]) :
  ∃ (fd : FuncData) (cc pt : Addr), W.tabIn K "_law_rule" = some (cc, pt) /\ K.lookup pt = none /\ (∀ (s : Shared) (u : Value), BindsTo s fd ⟨[u], []⟩ [("_law_script", u)]) /\ ∀ base : Heap, K.In base -> base.Ns mainGlobals mg -> MkL mg base cc pt -> FnOk l.prog w K mg base CX0 true 50 fa fd ["_law_script"] (xu K pt) := by
 obtain ⟨a, T, _, h1, h2, hb⟩ := h
 have e := T.Ajz
 rw [hfa] at e
 cases e
 exact ⟨a.vf, a.Jv, a.A5, h1, h2, hb, λ base _ _ M => Ahb ⟨T, M⟩⟩
end K14
open PySem PySem.W PyProof.Rows
set_option maxRecDepth 100000 in
set_option maxHeartbeats 0 in
theorem PySem.Challenge.cw_hourhouse_k14_joined_falls_holds : PySem.Challenge.rw_hourhouse_k14_joined_falls.Holds := by
 w_on; o_law; k_head; (case hw => w_witness2)
 k_fill
 refine K14.walk (l := PySem.Challenge.rw_hourhouse_k14_joined_falls) rfl rfl (λ w h Y => W.km_in_of Y) dkk ?F
 case F =>
  intro w mg fa h KX G hmg
  refine' K14.all_ok hmg (K14.txt_mk KX G ?aC_Both ?pg_Both ?hd_Both ?po_Both ?sa_Both ?gd ?kc_Both ?nf_one_Both ?nf_other_Both ?aC_But ?pg_But ?hd_But ?po_But ?sa_But ?sg ?kc_But ?nf_one_But ?nf_other_But ?aC_ByMonth ?pg_ByMonth ?hd_ByMonth ?po_ByMonth ?sa_ByMonth ?Ud ?kc_ByMonth ?nf_origin_ByMonth ?nf_stride_ByMonth ?nf_first_ByMonth ?aC_Changed ?pg_Changed ?hd_Changed ?po_Changed ?sa_Changed ?Hr ?kc_Changed ?nf_rule_Changed ?nf_left_Changed ?nf_more_Changed ?nf_moved_Changed ?nf_gained_Changed ?nf_lost_Changed ?aC_Days ?pg_Days ?hd_Days ?po_Days ?sa_Days ?iu ?kc_Days ?nf_days_Days ?aC_Either ?pg_Either ?hd_Either ?po_Either ?sa_Either ?T1 ?kc_Either ?nf_one_Either ?nf_other_Either ?aC_Every ?pg_Every ?hd_Every ?po_Every ?sa_Every ?Nk ?kc_Every ?nf_step_Every ?nf_first_Every ?aC_Monthly ?pg_Monthly ?hd_Monthly ?po_Monthly ?sa_Monthly ?Kc ?kc_Monthly ?nf_date_Monthly ?nf_every_Monthly ?nf_origin_Monthly ?nf_stride_Monthly ?nf_first_Monthly ?aC_Nth ?pg_Nth ?hd_Nth ?po_Nth ?sa_Nth ?cj ?kc_Nth ?nf_which_Nth ?nf_weekday_of_Nth ?nf_every_Nth ?nf_origin_Nth ?nf_stride_Nth ?nf_first_Nth ?aC_Rule ?pg_Rule ?hd_Rule ?po_Rule ?sa_Rule ?mk_Rule ?kc_Rule ?oi_Rule ?aC_Shifted ?pg_Shifted ?hd_Shifted ?po_Shifted ?sa_Shifted ?Kb ?kc_Shifted ?nf_rule_Shifted ?nf_many_Shifted ?aC_Weekly ?pg_Weekly ?hd_Weekly ?po_Weekly ?sa_Weekly ?Mz ?kc_Weekly ?nf_mask_Weekly ?nf_first_Weekly ?nf_every_Weekly ?aC_Where ?pg_Where ?hd_Where ?po_Where ?sa_Where ?Xh ?kc_Where ?nf_test_Where ?aC_Within ?pg_Within ?hd_Within ?po_Within ?sa_Within ?Sj ?kc_Within ?nf_rule_Within ?nf_begin_Within ?nf_end_Within ?aC_Yearly ?pg_Yearly ?hd_Yearly ?po_Yearly ?sa_Yearly ?Nb ?kc_Yearly ?nf_month_Yearly ?nf_date_Yearly ?nf_every_Yearly ?nf_origin_Yearly ?nf_stride_Yearly ?nf_first_Yearly ?aC_Joined ?aq2h ?Fq2h ?aq2e ?Fq2e ?aq1q ?Fq1q ?aq2d ?Fq2d ?aq17 ?Fq17 ?aq1k ?Fq1k ?aqy ?iqy ?Fqy ?aq15 ?lq15 ?eq15 ?kq15 ?iq15 ?vq15 ?wq15 ?xq15 ?aqr ?lqr ?eqr ?kqr ?iqr ?vqr ?wqr ?xqr ?aqi ?iqi ?Fqi ?aq1b ?iq1b ?Fq1b ?aq2g ?Fq2g ?aqh ?lqh ?eqh ?kqh ?iqh ?vqh ?wqh ?xqh ?aq8 ?iq8 ?Fq8 ?aq12 ?iq12 ?Fq12 ?aq1g ?iq1g ?Fq1g ?aq11 ?iq11 ?Fq11 ?aq1d ?iq1d ?Fq1d ?aq1m ?iq1m ?Fq1m ?aq1h ?iq1h ?Fq1h ?aq13 ?iq13 ?Fq13 ?aqf ?iqf ?Fqf ?aq10 ?iq10 ?Fq10 ?aqc ?iqc ?Fqc ?aqd ?iqd ?Fqd ?aq0 ?iq0 ?Fq0 ?aq3 ?iq3 ?Fq3 ?aqe ?lqe ?eqe ?kqe ?iqe ?vqe ?wqe ?xqe ?aq1i ?Fq1i ?aq25 ?Fq25 ?aq22 ?Fq22 ?aq29 ?Fq29 ?aq21 ?Fq21 ?aq2a ?Fq2a ?aq20 ?Fq20 ?aq1u ?Fq1u ?aq1l ?Fq1l ?aq1y ?Fq1y ?aq2c ?Fq2c ?aq1o ?Fq1o ?aqw ?iqw ?Fqw ?aqq ?iqq ?Fqq ?aq1 ?iq1 ?Fq1 ?aq16 ?lq16 ?eq16 ?kq16 ?iq16 ?vq16 ?wq16 ?xq16 ?aqn ?iqn ?Fqn ?aqo ?iqo ?Fqo ?aql ?iql ?Fql ?aq6 ?iq6 ?Fq6 ?aq9 ?iq9 ?Fq9 ?aq2 ?iq2 ?Fq2 ?aq1p ?Fq1p ?aq1v ?Fq1v ?aq1w ?Fq1w ?aq28 ?Fq28 ?aq1j ?Fq1j ?aq1e ?Fq1e ?aq1t ?Fq1t ?aq14 ?lq14 ?eq14 ?kq14 ?iq14 ?vq14 ?wq14 ?xq14 ?aq4 ?iq4 ?Fq4 ?aqs ?iqs ?Fqs ?aq1f ?iq1f ?Fq1f ?aqx ?lqx ?eqx ?kqx ?iqx ?vqx ?wqx ?xqx ?aq7 ?iq7 ?Fq7 ?aq27 ?Fq27 ?aq2f ?Fq2f ?aq2b ?Fq2b ?aqt ?lqt ?eqt ?kqt ?iqt ?vqt ?wqt ?xqt ?aqa ?iqa ?Fqa ?aqm ?lqm ?eqm ?kqm ?iqm ?vqm ?wqm ?xqm ?aqj ?iqj ?Fqj ?aqk ?lqk ?eqk ?kqk ?iqk ?vqk ?wqk ?xqk ?aq1n ?lq1n ?eq1n ?kq1n ?iq1n ?vq1n ?wq1n ?xq1n ?aq1s ?iq1s ?Fq1s ?aqu ?iqu ?Fqu ?aq1a ?Fq1a ?aq1r ?Fq1r ?aqp ?Fqp ?aqb ?lqb ?eqb ?kqb ?iqb ?vqb ?wqb ?xqb ?aq5 ?iq5 ?Fq5 ?aqv ?lqv ?eqv ?kqv ?iqv ?vqv ?wqv ?xqv ?aq1z ?Fq1z ?aq18 ?Fq18 ?aq23 ?lq23 ?eq23 ?kq23 ?aq19 ?iq19 ?Fq19 ?aq26 ?Fq26 ?aq1x ?Fq1x ?aq24 ?Fq24 ?aqz ?Fqz ?aq1c ?Fq1c ?aqg ?Fqg ?aq2i ?lq2i ?eq2i ?kq2i ?j_Both_next_in ?j_But_next_in ?j_Changed_next_in ?j_Days_days_in ?j_Either_next_in ?j_Monthly_days_in ?j_Monthly_falls_on ?j_Monthly_next_in ?j_Nth_days_in ?j_Nth_falls_on ?j_Nth_next_in ?j_Shifted_next_in ?j_Weekly_days_in ?j_Where_days_in ?j_Within_next_in ?j_Yearly_days_in ?j_Yearly_falls_on ?j_Yearly_next_in ?N6 ?Lg ?o_DAYS_AHEAD' ?p_DAYS_AHEAD ?q_DAYS_AHEAD ?Fx ?Jg ?Eo ?M0 ?V5 ?Fv ?o_MONTH_LENGTHS' ?p_MONTH_LENGTHS ?q_MONTH_LENGTHS ?Le ?J2 ?cg_ByMonth ?cr_ByMonth ?ca_ByMonth___init ?ch_ByMonth___init ?yk ?Wf ?oh ?B1 ?Zs ?V4 ?V3 ?Su ?Hm ?vc ?Qj ?x8 ?Aax ?Jf ?Aa5 ?cvq23 ?lkq23 ?pvq23 ?npq23)
  case aC_Both | aC_But | aC_ByMonth | aC_Changed | aC_Days | aC_Either | aC_Every | aC_Monthly | aC_Nth | aC_Rule | aC_Shifted | aC_Weekly | aC_Where | aC_Within | aC_Yearly | aC_Joined | N6 | Lg | Fx | Jg | Eo | M0 | V5 | Fv | Le | J2 => k_is
  case aq2h | aq2e | aq1q | aq2d | aq17 | aq1k | aq2g | aq1i | aq25 | aq22 | aq29 | aq21 | aq2a | aq20 | aq1u | aq1l | aq1y | aq2c | aq1o | aq1p | aq1v | aq1w | aq28 | aq1j | aq1e | aq1t | aq27 | aq2f | aq2b | aq1a | aq1r | aqp | aq1z | aq18 | aq26 | aq1x | aq24 | aqz | aq1c | aqg => unfold L2.AtM; k_is
  case aqy | aqi | aq1b | aq8 | aq12 | aq1g | aq11 | aq1d | aq1m | aq1h | aq13 | aqf | aq10 | aqc | aqd | aq0 | aq3 | aqw | aqq | aq1 | aqn | aqo | aql | aq6 | aq9 | aq2 | aq4 | aqs | aq1f | aq7 | aqa | aqj | aq1s | aqu | aq5 | aq19 => unfold L2.AtC; k_is
  case aq15 | aqr | aqh | aqe | aq16 | aq14 | aqx | aqt | aqm | aqk | aq1n | aqb | aqv | aq23 | aq2i => k_is
  case lq15 | lqr | lqh | lqe | lq16 | lq14 | lqx | lqt | lqm | lqk | lq1n | lqb | lqv | lq23 | lq2i | o_DAYS_AHEAD' | o_MONTH_LENGTHS' => k_is
  case pg_Both | hd_Both | po_Both | sa_Both | gd | kc_Both | pg_But | hd_But | po_But | sa_But | sg | kc_But | pg_ByMonth | hd_ByMonth | po_ByMonth | sa_ByMonth | Ud | kc_ByMonth | pg_Changed | hd_Changed | po_Changed | sa_Changed | Hr | kc_Changed | pg_Days | hd_Days | po_Days | sa_Days | iu | kc_Days | pg_Either | hd_Either | po_Either | sa_Either | T1 | kc_Either | pg_Every | hd_Every | po_Every | sa_Every | Nk | kc_Every | pg_Monthly | hd_Monthly | po_Monthly | sa_Monthly | Kc | kc_Monthly | pg_Nth | hd_Nth | po_Nth | sa_Nth | cj | kc_Nth | pg_Rule | hd_Rule | po_Rule | sa_Rule | mk_Rule | kc_Rule | oi_Rule | pg_Shifted | hd_Shifted | po_Shifted | sa_Shifted | Kb | kc_Shifted | pg_Weekly | hd_Weekly | po_Weekly | sa_Weekly | Mz | kc_Weekly | pg_Where | hd_Where | po_Where | sa_Where | Xh | kc_Where | pg_Within | hd_Within | po_Within | sa_Within | Sj | kc_Within | pg_Yearly | hd_Yearly | po_Yearly | sa_Yearly | Nb | kc_Yearly | eq15 | kq15 | iq15 | eqr | kqr | iqr | eqh | kqh | iqh | eqe | kqe | iqe | eq16 | kq16 | iq16 | eq14 | kq14 | iq14 | eqx | kqx | iqx | eqt | kqt | iqt | eqm | kqm | iqm | eqk | kqk | iqk | eq1n | kq1n | iq1n | eqb | kqb | iqb | eqv | kqv | iqv | eq23 | kq23 | eq2i | kq2i | cg_ByMonth | cr_ByMonth | ca_ByMonth___init => k_is
  case nf_one_Both | nf_other_Both | nf_one_But | nf_other_But | nf_origin_ByMonth | nf_stride_ByMonth | nf_first_ByMonth | nf_rule_Changed | nf_left_Changed | nf_more_Changed | nf_moved_Changed | nf_gained_Changed | nf_lost_Changed | nf_days_Days | nf_one_Either | nf_other_Either | nf_step_Every | nf_first_Every | nf_date_Monthly | nf_every_Monthly | nf_origin_Monthly | nf_stride_Monthly | nf_first_Monthly | nf_which_Nth | nf_weekday_of_Nth | nf_every_Nth | nf_origin_Nth | nf_stride_Nth | nf_first_Nth | nf_rule_Shifted | nf_many_Shifted | nf_mask_Weekly | nf_first_Weekly | nf_every_Weekly | nf_test_Where | nf_rule_Within | nf_begin_Within | nf_end_Within | nf_month_Yearly | nf_date_Yearly | nf_every_Yearly | nf_origin_Yearly | nf_stride_Yearly | nf_first_Yearly => unfold L2.NoA; k_is
  case Fq2h | Fq2e | Fq1q | Fq2d | Fq17 | Fq1k | Fqy | Fqi | Fq1b | Fq2g | Fq8 | Fq12 | Fq1g | Fq11 | Fq1d | Fq1m | Fq1h | Fq13 | Fqf | Fq10 | Fqc | Fqd | Fq0 | Fq3 | Fq1i | Fq25 | Fq22 | Fq29 | Fq21 | Fq2a | Fq20 | Fq1u | Fq1l | Fq1y | Fq2c | Fq1o | Fqw | Fqq | Fq1 | Fqn | Fqo | Fql | Fq6 | Fq9 | Fq2 | Fq1p | Fq1v | Fq1w | Fq28 | Fq1j | Fq1e | Fq1t | Fq4 | Fqs | Fq1f | Fq7 | Fq27 | Fq2f | Fq2b | Fqa | Fqj | Fq1s | Fqu | Fq1a | Fq1r | Fqp | Fq5 | Fq1z | Fq18 | Fq19 | Fq26 | Fq1x | Fq24 | Fqz | Fq1c | Fqg => refine' L2.Aah ?l ?c ?k; (case l => k_is); (case c => k_is); (case k => k_is)
  case iqy | iqi | iq1b | iq8 | iq12 | iq1g | iq11 | iq1d | iq1m | iq1h | iq13 | iqf | iq10 | iqc | iqd | iq0 | iq3 | iqw | iqq | iq1 | iqn | iqo | iql | iq6 | iq9 | iq2 | iq4 | iqs | iq1f | iq7 | iqa | iqj | iq1s | iqu | iq5 | iq19 => unfold L2.IsF; k_is
  case j_Both_next_in | j_But_next_in | j_Changed_next_in | j_Days_days_in | j_Either_next_in | j_Monthly_days_in | j_Monthly_falls_on | j_Monthly_next_in | j_Nth_days_in | j_Nth_falls_on | j_Nth_next_in | j_Shifted_next_in | j_Weekly_days_in | j_Where_days_in | j_Within_next_in | j_Yearly_days_in | j_Yearly_falls_on | j_Yearly_next_in => unfold L2.AtC; k_is
  case ch_ByMonth___init => rfl
  case yk | Wf | oh | B1 | Zs | V4 | V3 | Su | Hm | vc | Qj | x8 | Aax | Jf | Aa5 => unfold L2.NoM; k_is
  case vq15 | vqr | vqh | vqe | vq16 | vq14 | vqx | vqt | vqm | vqk | vq1n | vqb | vqv | p_DAYS_AHEAD | q_DAYS_AHEAD | p_MONTH_LENGTHS | q_MONTH_LENGTHS | cvq23 => rfl
  case wq15 | wqr | wqh | wqe | wq16 | wq14 | wqx | wqt | wqm | wqk | wq1n | wqb | wqv | lkq23 => k_is
  case xq15 | xqr | xqh | xqe | xq16 | xq14 | xqx | xqt | xqm | xqk | xq1n | xqb | xqv | pvq23 => rfl
  case npq23 => kernel_rfl
