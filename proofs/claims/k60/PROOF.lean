import PyProof.Rows.All
import Wide.All
import OpenK.AllK
import Wide.FinOn
import Lean
import PyProof.EqAt
import PyProof.EqKinds
import PyProof.TupleCall
import PyProof.EqAt
import PyProof.EqKinds
import PyProof.TupleKey
import Wide.Seal
import PySem.Challenge.RW_barlabel_k60_apart
set_option Elab.async false
set_option compiler.extract_closed false
set_option linter.all false
set_option maxRecDepth 100000
set_option maxHeartbeats 4100000
abbrev Fg := PySem.W.Frag
namespace PySem.W.Fast
def tw10562675767486178954 := ()
def tw18104724647555193504 := ()
def tw14397810112450913854 := ()
def tw15661275456452122575 := ()
def tw1687369106143266720 := ()
def tw17862711228879587440 := ()
def tw3525758779505733632 := ()
def tw9385485192571459727 := ()
def tw7570534269370926344 := ()
def tw12647328744484322540 := ()
def tw8449823343531101830 := ()
def tw11491070849190877892 := ()
def tw866009437368268710 := ()
def tw3199403560241750498 := ()
def tw3969272390582737951 := ()
def tw16754046541764283549 := ()
def tw14234840930761515571 := ()
def tw18120065629050023540 := ()
def tw2637065205146743091 := ()
def tw4294423712353810476 := ()
def tw17516055831791903333 := ()
def tw16124270698158858163 := ()
def tw6573211975174117235 := ()
def tw16365427266092126214 := ()
def tw3805591343784799411 := ()
def tw2891882583030653989 := ()
def tw9104599440509378794 := ()
def tw18370071053417067191 := ()
def tw7129678301359912650 := ()
def tw14310691363958736884 := ()
def tw6882662293766678444 := ()
def tw15813012584255881323 := ()
def tw16520085500287957615 := ()
def tw9499239904824679967 := ()
def tw15646032432579645452 := ()
def tw1907958584093267745 := ()
def tw13648488628576556167 := ()
def tw3633172102362541642 := ()
def tw4174218238420362815 := ()
def tw6443080903770999446 := ()
def tw15279280870629527226 := ()
def tw14403211713490799133 := ()
def tw2899640428468524328 := ()
def tw5075523246995629881 := ()
def tw17595393424819174425 := ()
def tw10867732316934999361 := ()
def tw15968434849722018023 := ()
def tw16760203362351155545 := ()
def tw9625108422053421713 := ()
def tw7467499070515590910 := ()
def tw10997333468639419780 := ()
def tw18316662824006985503 := ()
def tw14922683203518008368 := ()
def tw1349134310242458258 := ()
def tw14881067957249211255 := ()
def tw10773606423976968878 := ()
def tw14236752742986699858 := ()
def tw2789669140550570091 := ()
def tw13694964814275863580 := ()
def tw17109758527034104361 := ()
def tw14122885622755345911 := ()
def tw2826947529257275069 := ()
def tw9895734965691433965 := ()
def tw3110067724834318872 := ()
def tw17163628266894335083 := ()
def tw13557264041855959992 := ()
def tw6833040355894913976 := ()
def tw6494533214909632271 := ()
def tw14146253531720751422 := ()
def tw9506041272450629059 := ()
def tw16584737704555999732 := ()
def tw13779439596856258486 := ()
def tw8756412367797048568 := ()
def tw4238508345722912307 := ()
def tw381074090898038029 := ()
def tw4219358489016283157 := ()
def tw13376155635924555818 := ()
def tw17087427380311948239 := ()
def tw17008806090879790292 := ()
def tw13466369453397428274 := ()
def tw4362451759448724326 := ()
def tw5115880738278896398 := ()
def tw13985091490931752062 := ()
def tw11070931206438328258 := ()
def tw4314698361670675827 := ()
def tw18110333062687713434 := ()
def tw11880931837863882433 := ()
def tw11334747321394083270 := ()
def tw18069120961451017726 := ()
def tw6093141033894314179 := ()
def tw500716410365551987 := ()
def tw13451332179134789999 := ()
def tw15607038498659416479 := ()
def tw15645339386388479753 := ()
def tw4105357025898177009 := ()
def tw16931756256574386012 := ()
def tw1149735337771069076 := ()
def tw10541352798828949017 := ()
def tw1070149272631496551 := ()
def tw4344662330354458817 := ()
def tw14002365629842331430 := ()
def tw1600982603570115074 := ()
def tw497546697099686078 := ()
def tw14321970282412371743 := ()
def tw2844612610289261492 := ()
def tw12575848305072004056 := ()
def tw6156215659143603964 := ()
def tw3353808041334066329 := ()
def tw9813966879357062471 := ()
def tw5023941315648052680 := ()
def tw3816925124030016950 := ()
def tw6059179135966285105 := ()
def tw565942059946689798 := ()
def tw12969139062015258199 := ()
def tw1242873641313472959 := ()
def tw8499482283707434366 := ()
def tw8602226727231789373 := ()
def tw16116511713621134110 := ()
def tw3957232255286320383 := ()
def tw14488986116985132483 := ()
def tw12990567131920389550 := ()
def tw10493333279758833029 := ()
def tw6349846548345669566 := ()
def tw15925752632601758134 := ()
def tw14437468550338204064 := ()
def tw10731385474226123440 := ()
def tw10467252094201492710 := ()
def tw11474141198035176122 := ()
def tw2420142791378026673 := ()
def tw12663207275426309493 := ()
def tw14717413787565397531 := ()
def tw7237772002090715146 := ()
def tw3473273766485477598 := ()
def tw16324180711969069326 := ()
def tw15541343563437323292 := ()
def tw2114763371446103013 := ()
def tw12362803169544232881 := ()
def tw7203128134878078362 := ()
def tw10975023720726341393 := ()
def tw9072575963111210559 := ()
def tw379416692480135455 := ()
def tw13384393190589645946 := ()
def tw5220078211284396813 := ()
def tw44649894833568813 := ()
def tw878325585146364250 := ()
def tw17950735866431808973 := ()
def tw9841564316335600745 := ()
def tw1061696313444360944 := ()
def tw5616052704580517785 := ()
def tw15221299850759416269 := ()
def tw17914406497568430425 := ()
def tw14921097873583102748 := ()
def tw7534715356232456723 := ()
def tw11561211460138168562 := ()
def tw18278090333128862664 := ()
def tw1420658753001692361 := ()
def tw11003102856827250559 := ()
def tw18313952476099954804 := ()
def tw3904018915943513456 := ()
def tw9886560157741240308 := ()
def tw9197913743966065986 := ()
def tw7402191272543634309 := ()
def tw4212685011949942684 := ()
def tw6675658511284936377 := ()
def tw9701559857027554406 := ()
def tw7229413235404414743 := ()
def tw288132446165860038 := ()
def tw14453584278408193045 := ()
def tw13643213373177552857 := ()
def tw10728959443345737785 := ()
def tw8408177534124185223 := ()
def tw16417341876210637593 := ()
def tw8016501003343227234 := ()
def tw14058200037720858971 := ()
def tw5559351205804574931 := ()
def tw5280132433221160924 := ()
def tw15477532637698692516 := ()
def tw7357900089005175946 := ()
def tw7840810432737004800 := ()
def tw17692184419360048152 := ()
def tw12911376472168218262 := ()
def tw10137588511197150426 := ()
def tw13022771054097874023 := ()
def tw855986614635533485 := ()
def tw6341451598343496246 := ()
def tw3036440462888313194 := ()
def tw2668143178959224829 := ()
def tw15469916280533290876 := ()
def tw17751064239324191265 := ()
def tw4166636800925929439 := ()
def tw4392550773188840286 := ()
def tw10274527497462614204 := ()
def tw4588676520597568833 := ()
def tw3854403976216931031 := ()
def tw2650338858679592455 := ()
def tw1472052784275765543 := ()
def tw13107838663027539545 := ()
def tw8673612208895391039 := ()
def tw6377766712823296854 := ()
def tw4286865443320541582 := ()
def tw215787842592148564 := ()
def tw10483443337324512424 := ()
def tw3421758869482911942 := ()
def tw11544165714867102474 := ()
def tw6567735806202191003 := ()
def tw3575609004086182199 := ()
def tw12181458931233395442 := ()
def tw5822888141305156127 := ()
def tw507892547116820538 := ()
def tw15894673539469064926 := ()
def tw14884646049728954732 := ()
def tw11503156279625690054 := ()
def tw9345190260709215275 := ()
def tw8969672396654471844 := ()
def tw8668237086431676841 := ()
def tw8652682469030537142 := ()
def tw8115294816825896938 := ()
def tw7085667506346502947 := ()
def tw6678470533846139051 := ()
def tw6665988710772548307 := ()
def tw657377163372099797 := ()
def tw6229707997297280895 := ()
def tw5505336665931206047 := ()
def tw5446377124797421880 := ()
def tw5298550310900530984 := ()
def tw5214036181798257909 := ()
def tw513600749686865110 := ()
def tw4546021589981868236 := ()
def tw3673827027740049825 := ()
def tw3635361172314082324 := ()
def tw3434112807678994589 := ()
def tw3236449144971100223 := ()
def tw2828749213814402364 := ()
def tw2611444195731564146 := ()
def tw2252824178978152784 := ()
def tw191211119371934288 := ()
def tw1888608695200606583 := ()
def tw18353062523359866669 := ()
def tw17750453452285648570 := ()
def tw17507697821898645792 := ()
def tw17400002974284812004 := ()
def tw17218721208311511698 := ()
def tw17123737177554333344 := ()
def tw16987673789208707382 := ()
def tw16987310599691519149 := ()
def tw16890315976983897925 := ()
def tw16552604095315451138 := ()
def tw16456417876248410360 := ()
def tw16238745519846510041 := ()
def tw15976449996963135897 := ()
def tw15901759189043439494 := ()
def tw15588753388764131472 := ()
def tw15445691050997180308 := ()
def tw1542863575817104474 := ()
def tw15375071556706306237 := ()
def tw15038566132579197492 := ()
end PySem.W.Fast
namespace L2
open PySem PySem.Spec PyProof.Rows
noncomputable abbrev Key := Sum Int Str
noncomputable def ZcY : Key -> Value -> Bool
 | .inl k, v => Value.isInt k v
 | .inr x, v => Value.isStrOf x v
noncomputable def keyH (w : World) : Key -> Int
 | .inl k => hashInt k
 | .inr x => hashStr w x
theorem ZK : ∀ {k : Key} {v : Value}, ZcY k v = true -> (∃ i t, k = Sum.inl i /\ v = Value.int i t) \/ (∃ x t, k = Sum.inr x /\ v = Value.str x t)
 | .inl i, v, h => by
  obtain ⟨t, e⟩ := Value.isInt_shape (k := i) (v := v) h
  exact .inl ⟨i, t, rfl, e⟩
 | .inr x, v, h => by
  obtain ⟨t, e⟩ := Value.isStrOf_shape (x := x) (v := v) h
  exact .inr ⟨x, t, rfl, e⟩
theorem Zh0 (i : Int) (t : Tok) : ZcY (.inl i) (.int i t) = true := by simp [ZcY, Value.isInt]
theorem Zh1 (x : Str) (t : Tok) : ZcY (.inr x) (.str x t) = true := by simp [ZcY, Value.isStrOf]
theorem Zl1 (a b : Int) : decide ((Sum.inl a : Key) = Sum.inl b) = (a == b) := by
 by_cases e : a = b
 . subst e; simp
 . have h : ¬ (Sum.inl a : Key) = Sum.inl b := fun q => e (Sum.inl.inj q)
   rw [decide_eq_false h]
   exact (beq_eq_false_iff_ne.mpr e).symm
theorem Zl2 (a b : Str) : decide ((Sum.inr a : Key) = Sum.inr b) = decide (a = b) := by
 by_cases e : a = b
 . subst e; simp
 . have h : ¬ (Sum.inr a : Key) = Sum.inr b := fun q => e (Sum.inr.inj q)
   rw [decide_eq_false h, decide_eq_false e]
theorem Zl3 (a : Int) (b : Str) : decide ((Sum.inl a : Key) = Sum.inr b) = false := decide_eq_false (fun q => nomatch q)
theorem Zl4 (a : Str) (b : Int) : decide ((Sum.inr a : Key) = Sum.inl b) = false := decide_eq_false (fun q => nomatch q)
noncomputable def Zaw (prog : Program) (w : World) : PySem.KeyKind prog w Key where
 is := ZcY
 hash := keyH w
 inj := fun v a b ha hb => by
  rcases ZK ha with ⟨i, t, rfl, rfl⟩ | ⟨x, t, rfl, rfl⟩
  . rcases ZK hb with ⟨j, u, rfl, e⟩ | ⟨y, u, rfl, e⟩
    . injection e with e1 _; rw [e1]
    . exact nomatch e
  . rcases ZK hb with ⟨j, u, rfl, e⟩ | ⟨y, u, rfl, e⟩
    . exact nomatch e
    . injection e with e1 _; rw [e1]
 byValue := fun k v h => by
  rcases ZK h with ⟨i, t, rfl, rfl⟩ | ⟨x, t, rfl, rfl⟩ <;> rfl
 pyHash := fun hv h => by
  rcases ZK hv with ⟨i, t, rfl, rfl⟩ | ⟨x, t, rfl, rfl⟩
  . exact wpAny_pyHash_int h
  . exact wpAny_pyHash_str h
 eqBool := fun hu hv h => by
  rcases ZK hu with ⟨i, t, rfl, rfl⟩ | ⟨x, t, rfl, rfl⟩
  . rcases ZK hv with ⟨j, u, rfl, rfl⟩ | ⟨y, u, rfl, rfl⟩
    . rw [Zl1] at h; exact wpAny_eqBool_int h
    . rw [Zl3] at h; exact SeqAt.EqAt.int_str i t y u _ _ _ _ h
  . rcases ZK hv with ⟨j, u, rfl, rfl⟩ | ⟨y, u, rfl, rfl⟩
    . rw [Zl4] at h; exact SeqAt.EqAt.str_int x t j u _ _ _ _ h
    . rw [Zl2] at h; exact wpAny_eqBool_str h
 «strs» := fun k x t v h => by
  rcases ZK h with ⟨i, u, rfl, e⟩ | ⟨y, u, rfl, e⟩
  . exact nomatch e
  . injection e with e1 _
    subst e1
    cases v <;> rfl
theorem Zgg (prog : Program) (w : World) (i : Int) (t : Tok) : (Zaw prog w).is (.inl i) (.int i t) = true := Zh0 i t
theorem Zgh (prog : Program) (w : World) (x : Str) (t : Tok) : (Zaw prog w).is (.inr x) (.str x t) = true := Zh1 x t
end L2
namespace L2
open PySem PySem.Spec PyProof.Rows
inductive V where
 | non | bl (b : Bool) | int (i : Int) | str (x : Str) | byt (b : Array UInt8) | flt (b : UInt64) | ref (a : Addr) | ty (n : String)
 deriving DecidableEq
def RelV : V -> Value -> Prop
 | .non, u => u = Value.none
 | .bl b, u => u = Value.bool b
 | .int i, u => ∃ t, u = Value.int i t
 | .str x, u => ∃ t, u = Value.str x t
 | .byt b, u => ∃ t, u = Value.bytes b t
 | .flt b, u => ∃ t, u = Value.float b t
 | .ref a, u => u = Value.ref a
 | .ty n, u => u = Value.type n
abbrev Vals : List V -> List Value -> Prop := Paired RelV
theorem Vals.length (r : Vals xs us) : xs.length = us.length := Paired.length r
theorem Vals.get : ∀ {xs : List V} {us : List Value} {i : Nat} {x : V}, Vals xs us -> xs[i]? = some x -> ∃ u, us[i]? = some u /\ RelV x u
 | _, _, _, _, .nil, e => by simp at e
 | _, _, 0, _, .cons r _, e => by simp at e; subst e; exact ⟨_, rfl, r⟩
 | _, _, i + 1, x, .cons _ t, e => by
  obtain ⟨u, h1, h2⟩ := Vals.get (i := i) (x := x) t (by simpa using e)
  exact ⟨u, by simpa using h1, h2⟩
theorem Vals.set (r : RelV x u) : ∀ {xs : List V} {us : List Value} (i : Nat), Vals xs us -> Vals (xs.set i x) (us.set i u)
 | _, _, _, .nil => .nil
 | _, _, 0, .cons _ t => .cons r t
 | _, _, i + 1, .cons q t => .cons q (Vals.set r i t)
theorem Vals.append : ∀ {xs ys : List V} {us ws : List Value}, Vals xs us -> Vals ys ws -> Vals (xs ++ ys) (us ++ ws)
 | _, _, _, _, .nil, s => s
 | _, _, _, _, .cons r t, s => .cons r (Vals.append t s)
theorem Vals.take : ∀ {xs : List V} {us : List Value} (n : Nat), Vals xs us -> Vals (xs.take n) (us.take n)
 | _, _, 0, _ => .nil
 | _, _, _ + 1, .nil => .nil
 | _, _, n + 1, .cons r t => .cons r (Vals.take n t)
theorem Vals.drop : ∀ {xs : List V} {us : List Value} (n : Nat), Vals xs us -> Vals (xs.drop n) (us.drop n)
 | _, _, 0, r => r
 | _, _, _ + 1, .nil => .nil
 | _, _, n + 1, .cons _ t => Vals.drop n t
def RelO : Option V -> Option Value -> Prop
 | some v, some u => RelV v u
 | none, none => True
 | _, _ => False
def KV {κ : Type} : List (κ × V) -> List (κ × Value) -> Prop := Paired fun (p : κ × V) (q : κ × Value) => p.1 = q.1 /\ RelV p.2 q.2
noncomputable def kV : Key -> V
 | .inl i => .int i
 | .inr x => .str x
section
open PySem.SeqAt
noncomputable abbrev Pl := Option (Int × Option Int)
def ZbC : Option Int -> Value -> Prop
 | none, v => v = .none
 | some j, v => ∃ u, v = .int j u
def InIs (h : Heap) (p : Int × Option Int) (b : Addr) : Prop := ∃ t v, h.IsTuple b #[.int p.1 t, v] /\ ZbC p.2 v
def PlIs (h : Heap) : Pl -> Value -> Prop
 | none, v => v = .none
 | some p, v => ∃ b, v = .ref b /\ InIs h p b
def PKIs (h : Heap) (k : Pl × Pl) (a : Addr) : Prop := ∃ v1 v2, h.IsTuple a #[v1, v2] /\ PlIs h k.1 v1 /\ PlIs h k.2 v2
noncomputable def Zj8 : Option Int -> Int
 | none => reduceHash 0xFCA86420
 | some j => hashInt j
noncomputable def ZcD : Pl -> Int
 | none => reduceHash 0xFCA86420
 | some p => reduceHash (Builtin.Tuple.tupleHashOf [hashInt p.1, Zj8 p.2])
noncomputable def ZbD : Pl -> Nat
 | none => 1
 | some _ => 3
section
variable {prog : Program} {w : World} {A : Around} {E : Value -> Shared -> Prop} {s : Shared}
theorem Zeq {Q : Int -> Shared -> Prop} (h : Q (reduceHash 0xFCA86420) { s with toks := s.toks + 1 }) : wpAny (model prog w) A (pyHash .none) Q E s :=
 PySem.W.pyHash_slot (T := "NoneType") rfl F.slot_NoneType_hash F.entry_NoneType_hash (F.args_NoneType_hash_1 _) (beq_builtin_none _) (.inl rfl) (wpAny_bind (wpAny_pure (wpAny_bind (wpAny_mkInt (wpAny_pure ⟨_, _, rfl, h⟩)))))
theorem Zh2 {o : Option Int} {v : Value} {Q : Int -> Shared -> Prop} (x : ZbC o v) (h : Q (Zj8 o) { s with toks := s.toks + 1 }) : wpAny (model prog w) A (pyHash v) Q E s := by
 cases o with
 | none => cases x; exact Zeq h
 | some j => obtain ⟨u, rfl⟩ := x; exact wpAny_pyHash_int h
theorem ZeY {a : Addr} {v1 v2 : Value} {h1 h2 : Int} {d1 d2 : Nat} {Q : Int -> Shared -> Prop} (hu : A.units < cLine) (ht : s.heap.IsTuple a #[v1, v2])
 (x1 : ∀ (Q : Int -> Shared -> Prop), Q h1 { s with toks := s.toks + d1 } -> wpAny (model prog w) A.in1 (pyHash v1) Q E s)
 (x2 : ∀ (Q : Int -> Shared -> Prop), Q h2 { s with toks := s.toks + d1 + d2 } -> wpAny (model prog w) A.in1 (pyHash v2) Q E { s with toks := s.toks + d1 })
 (h : Q (reduceHash (Builtin.Tuple.tupleHashOf [h1, h2])) { s with toks := s.toks + d1 + d2 + 1 }) : wpAny (model prog w) A (pyHash (.ref a)) Q E s := by
 obtain ⟨o, hg, hc, n, hd⟩ := id ht
 refine PySem.W.pyHash_slot (v := .ref a) (T := "tuple") ⟨_, hg, hc⟩ F.slot_tuple_hash F.entry_tuple_hash (F.args_tuple_hash_1 _) (beq_builtin_none _) (.inr hu) (wpAny_bind (m := Builtin.Tuple.tupleItemsOf (.ref a)) (wpAny_tupleItemsOf hg hd (wpAny_bind ?_)))
 rw [<- Array.forIn_toList]
 (simp only [List.forIn_cons, List.forIn_nil])
 refine wpAny_bind (wpAny_bind (x1 _ ?_))
 (refine wpAny_bind (wpAny_pure (wpAny_pure ?_)))
 refine wpAny_bind (wpAny_bind (x2 _ ?_))
 exact wpAny_pure (wpAny_pure (wpAny_bind (wpAny_mkInt (wpAny_pure ⟨_, _, rfl, h⟩))))
theorem Zgq {k : Pl} {v : Value} {Q : Int -> Shared -> Prop} (hu : A.units < cLine) (x : PlIs s.heap k v) (h : Q (ZcD k) { s with toks := s.toks + ZbD k }) : wpAny (model prog w) A (pyHash v) Q E s := by
 cases k with
 | none => cases x; exact Zeq h
 | some p =>
  obtain ⟨b, rfl, t, v2, ht, x2⟩ := x
  exact ZeY (d1 := 1) (d2 := 1) hu ht (fun Q h => wpAny_pyHash_int h) (fun Q h => Zh2 x2 h) h
theorem Zkb {o o' : Option Int} {v v' : Value} (x : ZbC o v) (x' : ZbC o' v') : EqAt A s v v' (decide (o = o')) := by
 cases o with
 | none =>
  cases x
  cases o' with
  | none => cases x'; exact EqAt.same _
  | some j => obtain ⟨u, rfl⟩ := x'; exact EqAt.none_int j u
 | some i =>
  obtain ⟨t, rfl⟩ := x
  cases o' with
  | none => cases x'; exact EqAt.int_none i t
  | some j =>
   obtain ⟨u, rfl⟩ := x'
   have e : decide (some i = some j) = (i == j) := by
    by_cases h : i = j
    . subst h; simp
    . simp [h]
   rw [e]
   exact EqAt.int_int i t j u
theorem Zh3 {a b : Addr} {u1 u2 v1 v2 : Value} {e1 e2 : Bool} (hu : A.units < cLine) (ha : s.heap.IsTuple a #[u1, u2]) (hb : s.heap.IsTuple b #[v1, v2]) (x1 : EqAt A.in1 s u1 v1 e1) (x2 : EqAt A.in1 s u2 v2 e2) (hab : a = b -> e1 = true /\ e2 = true) : EqAt A s (.ref a) (.ref b) (e1 && e2) := by
 by_cases h : a = b
 . subst h
   obtain ⟨rfl, rfl⟩ := hab rfl
   exact EqAt.same _
 . have := RcAt.tuples (A := A) (e := fun j => if j = 0 then e1 else e2) ha hb hu fun j h1 h2 => by
    match j, h1 with
    | 0, _ => exact x1
    | 1, _ => exact x2
   exact EqAt.of_refs h (by simpa [List.range_succ] using this)
theorem Zgr {h : Heap} {a : Addr} {xs ys : Array Value} (x : h.IsTuple a xs) (y : h.IsTuple a ys) : xs = ys := by
 obtain ⟨o, ho, _, n, hd⟩ := x
 obtain ⟨o', ho', _, n', hd'⟩ := y
 (obtain rfl : o = o' := Option.some.inj (ho.symm.trans ho'))
 rw [hd] at hd'
 injection hd'
theorem ZiC {o o' : Option Int} {v : Value} (x : ZbC o v) (x' : ZbC o' v) : o = o' := by
 cases o with
 | none =>
  cases x
  cases o' with
  | none => rfl
  | some j => obtain ⟨u, e⟩ := x'; cases e
 | some i =>
  obtain ⟨t, rfl⟩ := x
  cases o' with
  | none => cases x'
  | some j => obtain ⟨u, e⟩ := x'; cases e; rfl
theorem Zh4 {h : Heap} {p q : Int × Option Int} {b : Addr} (x : InIs h p b) (y : InIs h q b) : p = q := by
 obtain ⟨t, v, hx, x2⟩ := x
 obtain ⟨t', v', hy, y2⟩ := y
 have e := Zgr hx hy
 simp only [Array.mk.injEq, List.cons.injEq, Value.int.injEq, and_true] at e
 obtain ⟨⟨e1, _⟩, rfl⟩ := e
 exact Prod.ext e1 (ZiC x2 y2)
theorem Zh5 {h : Heap} {k k' : Pl} {v : Value} (x : PlIs h k v) (y : PlIs h k' v) : k = k' := by
 cases k with
 | none =>
  cases x
  cases k' with
  | none => rfl
  | some q => obtain ⟨b, e, _⟩ := y; cases e
 | some p =>
  obtain ⟨b, rfl, x⟩ := x
  cases k' with
  | none => cases y
  | some q => obtain ⟨b', e, y⟩ := y; cases e; rw [Zh4 x y]
theorem Znt {p q : Int × Option Int} {a b : Addr} (hu : A.units < cLine) (x : InIs s.heap p a) (y : InIs s.heap q b) : EqAt A s (.ref a) (.ref b) (decide (p = q)) := by
 obtain ⟨t, v, hx, x2⟩ := id x
 obtain ⟨t', v', hy, y2⟩ := id y
 have e : decide (p = q) = ((p.1 == q.1) && decide (p.2 = q.2)) := by
  obtain ⟨p1, p2⟩ := p
  obtain ⟨q1, q2⟩ := q
  by_cases h1 : p1 = q1 <;> by_cases h2 : p2 = q2 <;> simp [h1, h2]
 rw [e]
 exact Zh3 hu hx hy (EqAt.int_int p.1 t q.1 t') (Zkb x2 y2) fun hab => by
  subst hab
  obtain rfl := Zh4 x y
  simp
theorem ZeZ {h : Heap} {p : Int × Option Int} {a : Addr} (x : InIs h p a) : ∃ xs, h.IsTuple a xs := let ⟨_, _, hx, _⟩ := x; ⟨_, hx⟩
theorem Zj9 {k k' : Pl} {v v' : Value} (hu : A.units < cLine) (x : PlIs s.heap k v) (y : PlIs s.heap k' v') : EqAt A s v v' (decide (k = k')) := by
 cases k with
 | none =>
  cases x
  cases k' with
  | none => cases y; exact EqAt.same _
  | some q => obtain ⟨b, rfl, y⟩ := y; obtain ⟨xs, hx⟩ := ZeZ y; exact EqAt.none_tuple hx hu
 | some p =>
  obtain ⟨a, rfl, x⟩ := x
  cases k' with
  | none => cases y; obtain ⟨xs, hx⟩ := ZeZ x; exact EqAt.tuple_none hx hu
  | some q =>
   obtain ⟨b, rfl, y⟩ := y
   have e : decide (some p = some q) = decide (p = q) := by by_cases h : p = q <;> simp [h]
   rw [e]
   exact Znt hu x y
theorem Zca {h : Heap} {k k' : Pl × Pl} {a : Addr} (x : PKIs h k a) (y : PKIs h k' a) : k = k' := by
 obtain ⟨v1, v2, hx, x1, x2⟩ := x
 obtain ⟨u1, u2, hy, y1, y2⟩ := y
 have e := Zgr hx hy
 simp only [Array.mk.injEq, List.cons.injEq, and_true] at e
 obtain ⟨rfl, rfl⟩ := e
 exact Prod.ext (Zh5 x1 y1) (Zh5 x2 y2)
theorem Znu {k k' : Pl × Pl} {a b : Addr} (hu : A.units + 1 < cLine) (x : PKIs s.heap k a) (y : PKIs s.heap k' b) : EqAt A s (.ref a) (.ref b) (decide (k = k')) := by
 obtain ⟨v1, v2, hx, x1, x2⟩ := id x
 obtain ⟨u1, u2, hy, y1, y2⟩ := id y
 have e : decide (k = k') = (decide (k.1 = k'.1) && decide (k.2 = k'.2)) := by
  obtain ⟨p1, p2⟩ := k
  obtain ⟨q1, q2⟩ := k'
  by_cases h1 : p1 = q1 <;> by_cases h2 : p2 = q2 <;> simp [h1, h2]
 rw [e]
 exact Zh3 (by omega) hx hy (Zj9 hu x1 y1) (Zj9 hu x2 y2) fun hab => by
  subst hab
  obtain rfl := Zca x y
  simp
theorem Zkc {k : Pl × Pl} {a : Addr} {Q : Int -> Shared -> Prop} (hu : A.units + 1 < cLine) (x : PKIs s.heap k a) (h : Q (reduceHash (Builtin.Tuple.tupleHashOf [ZcD k.1, ZcD k.2])) { s with toks := s.toks + (ZbD k.1 + ZbD k.2 + 1) }) : wpAny (model prog w) A (pyHash (.ref a)) Q E s := by
 obtain ⟨v1, v2, hx, x1, x2⟩ := x
 exact ZeY (d1 := ZbD k.1) (d2 := ZbD k.2) (by omega) hx (fun Q h => Zgq hu x1 h) (fun Q h => Zgq hu x2 h) (by simpa [Nat.add_assoc] using h)
theorem Zer {n : Nat} {a : Addr} {v1 v2 : Value} {Q : Bool -> Shared -> Prop} (ht : s.heap.IsTuple a #[v1, v2]) (x1 : ∀ (Q : Bool -> Shared -> Prop), Q true s -> wpAny (model prog w) A (eqIsQuiet n v1) Q E s) (x2 : ∀ (Q : Bool -> Shared -> Prop), Q true s -> wpAny (model prog w) A (eqIsQuiet n v2) Q E s) (h : Q true s) :
 wpAny (model prog w) A (eqIsQuiet (n + 1) (.ref a)) Q E s := by
 obtain ⟨o, hg, hc, m, hd⟩ := id ht
 have hT : s.TypeIs (.ref a) "tuple" := ⟨_, hg, hc⟩
 unfold eqIsQuiet
 refine wpAny_bind (wpAny_specialOf hT F.slot_tuple_eq.lookup (wpAny_bind (m := isInstance (.ref a) (.type "tuple")) (wpAny_isInstance hT isSubtype_tuple_tuple ?_)))
 (simp only [Bool.not_true, Bool.false_eq_true, if_false])
 refine wpAny_bind (wpAny_seqItems hg hd (wpAny_bind ?_))
 show wpAny _ _ (forIn #[v1, v2] _ _) _ _ s
 rw [<- Array.forIn_toList]
 (simp only [List.forIn_cons, List.forIn_nil])
 refine wpAny_bind (wpAny_bind (x1 _ ?_))
 (simp only [Bool.not_true, Bool.false_eq_true, if_false])
 refine wpAny_pure (wpAny_bind (wpAny_bind (x2 _ ?_)))
 (simp only [Bool.not_true, Bool.false_eq_true, if_false])
 exact wpAny_pure (wpAny_pure (wpAny_pure h))
theorem ZcE {n : Nat} {v : Value} {Q : Bool -> Shared -> Prop} (hv : carriedByValue v = true) (h : Q true s) : wpAny (model prog w) A (eqIsQuiet n v) Q E s := by
 rw [eqIsQuiet_byValue n hv]
 exact wpAny_pure h
theorem ZiD {o : Option Int} {v : Value} (x : ZbC o v) : carriedByValue v = true := by
 cases o with
 | none => cases x; rfl
 | some j => obtain ⟨u, rfl⟩ := x; rfl
theorem Zfa {n : Nat} {k : Pl} {v : Value} {Q : Bool -> Shared -> Prop} (x : PlIs s.heap k v) (h : Q true s) : wpAny (model prog w) A (eqIsQuiet (n + 1) v) Q E s := by
 cases k with
 | none => cases x; exact ZcE rfl h
 | some p =>
  obtain ⟨b, rfl, t, v2, ht, x2⟩ := x
  exact Zer ht (fun Q h => ZcE rfl h) (fun Q h => ZcE (ZiD x2) h) h
theorem Zes {h h' : Heap} {a d : Addr} {xs : Array Value} {o : Obj} {es : Array DictEntry} {ep : Nat} (x : h.IsTuple a xs) (ho : h.get? d = some o) (hd : o.data = .dict es ep) (hs : Heap.SameBut d h h') : h'.IsTuple a xs := by
 obtain ⟨o', hg, hc, n, hd'⟩ := x
 have hne : a ≠ d := fun e => by
  subst e
  obtain rfl : o' = o := Option.some.inj (hg.symm.trans ho)
  rw [hd] at hd'
  cases hd'
 exact ⟨o', (hs.2 a hne).trans hg, hc, n, hd'⟩
theorem Zfb {h h' : Heap} {d : Addr} {k : Pl} {v : Value} {o : Obj} {es : Array DictEntry} {ep : Nat} (x : PlIs h k v) (ho : h.get? d = some o) (hd : o.data = .dict es ep) (hs : Heap.SameBut d h h') : PlIs h' k v := by
 cases k with
 | none => exact x
 | some p => obtain ⟨b, e, t, v2, ht, x2⟩ := x; exact ⟨b, e, t, v2, Zes ht ho hd hs, x2⟩
noncomputable def Zbi (prog : Program) (w : World) : HeapKind prog w (Pl × Pl) where
 is := PKIs
 hash := fun k => reduceHash (Builtin.Tuple.tupleHashOf [ZcD k.1, ZcD k.2])
 draws := fun k => ZbD k.1 + ZbD k.2 + 1
 room := fun A => A.units + 1 < cLine
 inj := Zca
 keeps := fun x ho hd hs => by obtain ⟨v1, v2, ht, x1, x2⟩ := x; exact ⟨v1, v2, Zes ht ho hd hs, Zfb x1 ho hd hs, Zfb x2 ho hd hs⟩
 pyHash := Zkc
 eqBool := fun hu hx hy h => Znu hu hx hy _ _ _ _ h
 quiet := fun x h => by obtain ⟨v1, v2, ht, x1, x2⟩ := x; exact Zer ht (fun Q h => Zfa x1 h) (fun Q h => Zfa x2 h) h
end
end
inductive HO where
 | lst (xs : List V)
 | tup (xs : List V)
 | dK (kvs : List (Key × V)) | dT (S : Addr -> Prop) (kvs : List ((Pl × Pl) × V))
 | set (S : Int -> Bool) (n : Nat)
 | ins (C dx : Addr) (fs : List (Str × V))
 | own (x : Addr)
 | xd (fs : List (Str × V))
 | met (f x : Addr)
 | rng (lo hi : Int)
 | frz (o : Obj) (u : HO)
 | tbl (ps : Array Value)
 | ext (φ : Heap -> Prop)
 | exc (C : Addr) (dx : Option Addr) (fr : Bool) (fs : List (Str × V))
noncomputable abbrev Hp := Addr -> Option HO
noncomputable def upd (H : Hp) (a : Addr) (o : HO) : Hp := fun b => if b = a then some o else H b
theorem Zl : upd H a o a = some o := by unfold upd; rw [if_pos rfl]
theorem Zm (h : b ≠ a) : upd H a o b = H b := by unfold upd; rw [if_neg h]
theorem ZjA {H : Hp} {a b : Addr} {o u : HO} (h : H a = some o) (h' : H b = some u) (d : o ≠ u) : a ≠ b := by
 intro e; subst e; rw [h] at h'; exact d (Option.some.inj h')
theorem Za9 {H : Hp} {a b : Addr} {o : HO} (h : H a = some o) (h' : H b = none) : a ≠ b := by
 intro e; subst e; rw [h] at h'; cases h'
noncomputable def pV : Option Int -> V
 | none => .non
 | some j => .int j
def PlH (S : Addr -> Prop) (H : Hp) : Pl -> V -> Prop
 | none, v => v = .non
 | some p, v => ∃ b, v = .ref b /\ (H b = some (.tup [.int p.1, pV p.2]) \/ (S b /\ p = (0, none)))
def PKH (S : Addr -> Prop) (H : Hp) (k : Pl × Pl) (a : Addr) : Prop := ∃ v1 v2, H a = some (.tup [v1, v2]) /\ PlH S H k.1 v1 /\ PlH S H k.2 v2
theorem PlH.keep {S : Addr -> Prop} {H H' : Hp} {k : Pl} {v : V} (ht : ∀ b xs, H b = some (.tup xs) -> H' b = some (.tup xs)) (x : PlH S H k v) : PlH S H' k v := by
 cases k with
 | none => exact x
 | some p => obtain ⟨b, e, x⟩ := x; exact ⟨b, e, x.imp (ht _ _) id⟩
theorem PKH.keep {S : Addr -> Prop} {H H' : Hp} {k : Pl × Pl} {a : Addr} (ht : ∀ b xs, H b = some (.tup xs) -> H' b = some (.tup xs)) (x : PKH S H k a) : PKH S H' k a := by
 obtain ⟨v1, v2, e, x1, x2⟩ := x
 exact ⟨v1, v2, ht _ _ e, x1.keep ht, x2.keep ht⟩
section
variable (P : Program) (w : World)
def Z6 (H : Hp) (h : Heap) (a : Addr) : HO -> Prop
 | .lst xs => xs.length <= sizeLine /\ ∃ (its : List Value) (n : Nat), Vals xs its /\ h.get? a = some { cls := .type "list", data := .seq its.toArray n }
 | .tup xs => xs.length <= sizeLine /\ ∃ its : List Value, Vals xs its /\ IsTup h a its.toArray
 | .dK kvs => kvs.length <= sizeLine /\ (a == sysModules) = false /\ ∃ vs, KV kvs vs /\ h.DictOf (Zaw P w) a vs
 | .dT S kvs => kvs.length <= sizeLine /\ (a == sysModules) = false /\ ∃ xs : List ((Pl × Pl) × Addr × Value),
  Paired (fun (p : (Pl × Pl) × V) (q : (Pl × Pl) × Addr × Value) => p.1 = q.1 /\ PKH S H p.1 q.2.1 /\ RelV p.2 q.2.2) kvs xs /\
  ∃ o es ep, h.get? a = some o /\ o.ExactDict /\ o.data = .dict es ep /\ es.toList = xs.map (entryOfKey (Zbi P w)) /\ (xs.map (·.1)).Nodup
 | .set S n => h.SetOf (intKind P w) a S n
 | .ins C dx fs => H dx = some (.own a) /\ fs.length <= 1000 /\ dx ≠ a /\ h.get? a = some (PySem.W.instObj C dx) /\
  ∃ mA, h.Ns1 dx mA /\ (∀ f, RelO (fs.lookup f) (mA f)) /\ PySem.Within mA (fs.map (·.1))
 | .own _ => ∃ o, h.get? a = some o
 | .xd fs => ∃ mA, h.Ns1 a mA /\ ∀ f, RelO (fs.lookup f) (mA f)
 | .rng lo hi => ∃ t u v, h.get? a = some { cls := .type "range", data := .fields #[.int lo t, .int hi u, .int 1 v] }
 | .frz o u => h.get? a = some o /\ Z6 H h a u
 | .tbl ps => h.get? a = some { cls := .none, data := .fields ps }
 | .met f x => h.get? a = some (PySem.W.methodObj (.ref f) (.ref x))
 | .exc C dx fr fs => fs.length <= 1000 /\ (∃ o vs, h.get? a = some o /\ o.cls = .ref C /\ o.dict = dx /\ o.data = .fields vs /\ vs.size = 6 /\ (fr = true -> vs[1]? = some .none)) /\
  match dx with
  | none => fs = []
  | some d => H d = some (.own a) /\ d ≠ a /\ ∃ mA, h.Ns1 d mA /\ (∀ f, RelO (fs.lookup f) (mA f)) /\ PySem.Within mA (fs.map (·.1))
 | .ext φ => φ h /\ (∃ o, h.get? a = some o) /\ ∀ h1 h2 : Heap, φ h1 -> (∀ o, h1.get? a = some o -> h2.get? a = some o) -> φ h2
def HOk (H : Hp) (h : Heap) : Prop := ∀ a o, H a = some o -> Z6 P w H h a o
end
section
variable {P : Program} {w : World} {H H' : Hp} {h h' : Heap} {a : Addr} {o : HO}
theorem Z6.lt (x : Z6 P w H h a o) : a < h.objs.size := by
 cases o with
 | lst xs => obtain ⟨_, _, _, _, e⟩ := x; exact Heap.lt_size e
 | tup xs => obtain ⟨_, _, _, p⟩ := x; exact p.lt
 | dK kvs => obtain ⟨_, _, _, _, o, _, _, e, _⟩ := x; exact Heap.lt_size e
 | dT S kvs => obtain ⟨_, _, _, _, o, _, _, e, _⟩ := x; exact Heap.lt_size e
 | set S n => obtain ⟨o, _, _, _, e, _⟩ := x; exact Heap.lt_size e
 | ins C dx fs => obtain ⟨_, _, _, e, _⟩ := x; exact Heap.lt_size e
 | own y => obtain ⟨_, e⟩ := x; exact Heap.lt_size e
 | xd fs => obtain ⟨_, ⟨_, _, _, e, _⟩, _⟩ := x; exact Heap.lt_size e
 | rng lo hi => obtain ⟨_, _, _, e⟩ := x; exact Heap.lt_size e
 | frz ob u => obtain ⟨e, _⟩ := x; exact Heap.lt_size e
 | tbl ps => exact Heap.lt_size (show h.get? a = some _ from x)
 | met f y => exact Heap.lt_size (show h.get? a = some _ from x)
 | ext φ => obtain ⟨_, ⟨_, e⟩, _⟩ := x; exact Heap.lt_size e
 | exc C dx fr fs => obtain ⟨_, ⟨_, _, e, _⟩, _⟩ := x; exact Heap.lt_size e
theorem Paired.mapP : ∀ {l₁ : List α} {l₂ : List β}, Paired F l₁ l₂ -> (∀ a b, F a b -> G a b) -> Paired G l₁ l₂
 | _, _, .nil, _ => .nil
 | _, _, .cons r t, f => .cons (f _ _ r) (Paired.mapP t f)
theorem Z6.stay (x : Z6 P w H h a o) (k : ∀ b u, (b = a \/ H b = some (.own a)) -> h.get? b = some u -> h'.get? b = some u)
 (ho : ∀ b, H b = some (.own a) -> H' b = some (.own a)) (ht : ∀ b xs, H b = some (.tup xs) -> H' b = some (.tup xs)) : Z6 P w H' h' a o := by
 induction o with
 | lst xs => obtain ⟨z, its, n, r, e⟩ := x; exact ⟨z, its, n, r, k _ _ (.inl rfl) e⟩
 | tup xs => obtain ⟨z, its, r, ob, e, c⟩ := x; exact ⟨z, its, r, ob, k _ _ (.inl rfl) e, c⟩
 | dK kvs => obtain ⟨z, y, vs, r, ob, es, ep, e, c⟩ := x; exact ⟨z, y, vs, r, ob, es, ep, k _ _ (.inl rfl) e, c⟩
 | dT S kvs =>
  obtain ⟨z, y, xs, r, ob, es, ep, e, c⟩ := x
  exact ⟨z, y, xs, Paired.mapP r fun p q z => ⟨z.1, z.2.1.keep ht, z.2.2⟩, ob, es, ep, k _ _ (.inl rfl) e, c⟩
 | set S n => obtain ⟨ob, es, ep, t, e, c⟩ := x; exact ⟨ob, es, ep, t, k _ _ (.inl rfl) e, c⟩
 | ins C dx fs =>
  obtain ⟨d, z, ne, e, mA, ⟨od, es, ep, e2, c⟩, r⟩ := x
  exact ⟨ho _ d, z, ne, k _ _ (.inl rfl) e, mA, ⟨od, es, ep, k _ _ (.inr d) e2, c⟩, r⟩
 | own y => obtain ⟨ob, e⟩ := x; exact ⟨ob, k _ _ (.inl rfl) e⟩
 | xd fs => obtain ⟨mA, ⟨od, es, ep, e, c⟩, r⟩ := x; exact ⟨mA, ⟨od, es, ep, k _ _ (.inl rfl) e, c⟩, r⟩
 | rng lo hi => obtain ⟨t, u, v, e⟩ := x; exact ⟨t, u, v, k _ _ (.inl rfl) e⟩
 | frz ob u ih => obtain ⟨e, q⟩ := x; exact ⟨k _ _ (.inl rfl) e, ih q⟩
 | tbl ps =>
  have e : h.get? a = some { cls := .none, data := .fields ps } := x
  show h'.get? a = some { cls := .none, data := .fields ps }
  exact k a _ (.inl rfl) e
 | met f y =>
  have e : h.get? a = some (PySem.W.methodObj (.ref f) (.ref y)) := x
  show h'.get? a = some (PySem.W.methodObj (.ref f) (.ref y))
  exact k a _ (.inl rfl) e
 | ext φ => obtain ⟨p, ⟨o, e⟩, st⟩ := x; exact ⟨st _ _ p fun o q => k _ _ (.inl rfl) q, ⟨o, k _ _ (.inl rfl) e⟩, st⟩
 | exc C dx fr fs =>
  obtain ⟨z, ⟨o, vs, e, q⟩, r⟩ := x
  refine ⟨z, ⟨o, vs, k _ _ (.inl rfl) e, q⟩, ?_⟩
  cases dx with
  | none => exact r
  | some d =>
   obtain ⟨r1, r2, mA, ⟨od, es, ep, e2, c⟩, r3⟩ := r
   exact ⟨ho _ r1, r2, mA, ⟨od, es, ep, k _ _ (.inr r1) e2, c⟩, r3⟩
theorem HOk.lt (x : HOk P w H h) (e : H a = some o) : a < h.objs.size := (x a o e).lt
theorem HOk.fresh (x : HOk P w H h) (e : h.objs.size <= a) : H a = none := by
 cases q : H a with
 | none => rfl
 | some u => exact absurd (Nat.lt_of_lt_of_le (x.lt q) e) (Nat.lt_irrefl _)
theorem HOk.kept (x : HOk P w H h) (k : ∀ b u, h.get? b = some u -> h'.get? b = some u) : HOk P w H h' := fun a o e =>
 (x a o e).stay (fun b u _ q => k b u q) (fun _ q => q) fun _ _ q => q
theorem HOk.laid (x : HOk P w H h) (k : ∀ b u, h.get? b = some u -> h'.get? b = some u) (hp : h.objs.size <= a) (new : Z6 P w (upd H a o) h' a o) : HOk P w (upd H a o) h' := fun b u e => by
 have hn := x.fresh hp
 by_cases hb : b = a
 . subst hb; rw [Zl] at e; cases e; exact new
 . rw [Zm hb] at e
   exact (x b u e).stay (fun c v _ q => k c v q) (fun c q => by rw [Zm (Za9 q hn)]; exact q) fun c xs q => by rw [Zm (Za9 q hn)]; exact q
end
def Rd (H : Hp) (a : Addr) (u : HO) : Prop := H a = some u \/ ∃ o, H a = some (.frz o u)
theorem Rd.ok (r : Rd H a u) (x : HOk P w H h) : Z6 P w H h a u := by
 rcases r with r | ⟨o, r⟩
 . exact x a u r
 . obtain ⟨_, q⟩ := x a _ r
   exact q
def Mut : Option HO -> Prop
 | some (.lst _) => True
 | some (.dK _) => True
 | some (.dT _ _) => True
 | some (.set _ _) => True
 | some (.ins _ _ _) => True
 | some (.ext _) => True
 | some (.exc _ _ _ _) => True
 | _ => False
section
theorem HOk.write (ok : HOk P w H h) (mu : Mut (H x)) (he : e = x \/ H e = some (.own x)) (k : ∀ b u, b ≠ e -> h.get? b = some u -> h'.get? b = some u) (heo : ∃ u, h'.get? e = some u)
 (new : Z6 P w (upd H x o') h' x o') : HOk P w (upd H x o') h' := fun b u q => by
 have nown : ∀ c y, H c = some (.own y) -> c ≠ x := fun c y r z => by subst z; rw [r] at mu; exact mu
 have ntup : ∀ c xs, H c = some (.tup xs) -> c ≠ x := fun c xs r z => by subst z; rw [r] at mu; exact mu
 by_cases hb : b = x
 . subst hb; rw [Zl] at q; cases q; exact new
 . rw [Zm hb] at q
   by_cases hbe : b = e
   . have q' : H b = some (.own x) := by
      rcases he with z | z
      . exact absurd (hbe.trans z) hb
      . rw [hbe]; exact z
     rw [q] at q'; cases q'
     obtain ⟨v, hv⟩ := heo
     exact ⟨v, by rw [hbe]; exact hv⟩
   . refine (ok b u q).stay (fun c v hc r => k c v ?_ r) (fun c r => by rw [Zm (nown c b r)]; exact r) fun c xs r => by rw [Zm (ntup c xs r)]; exact r
     rcases hc with rfl | hc
     . exact hbe
     . rintro rfl
       rcases he with z | z
       . exact nown c b hc z
       . rw [hc] at z; cases z; exact hb rfl
end
structure Un (fs ex : List Addr) (H H' : Hp) (h h' : Heap) : Prop where
 keep : ∀ b o, h.get? b = some o -> H b = none -> b ∉ fs -> b ∉ ex -> h'.get? b = some o
 slot : ∀ b o, h.get? b = some o -> H b = none -> b ∈ fs -> b ∉ ex -> ∃ sl, h'.get? b = some { o with slots := sl }
 free : ∀ b o, h.get? b = some o -> H b = none -> b ∉ ex -> H' b = none
 there : ∀ b o, h.get? b = some o -> b ∉ ex -> ∃ o', h'.get? b = some o'
 tups : ∀ b xs, H b = some (.tup xs) -> H' b = some (.tup xs)
 frzs : ∀ b o u, H b = some (.frz o u) -> H' b = some (.frz o u)
 tbls : ∀ b ps, H b = some (.tbl ps) -> ∃ more, H' b = some (.tbl (ps ++ more))
section
variable {fs fs' ex ex' : List Addr} {H H1 H2 : Hp} {h h1 h2 h' : Heap} {a x e : Addr} {o : HO}
theorem Un.any (u : Un fs ex H H1 h h1) (q : h.get? b = some ob) (n : H b = none) (hx : b ∉ ex) : ∃ sl, h1.get? b = some { ob with slots := sl } := by
 by_cases hb : b ∈ fs
 . exact u.slot b ob q n hb hx
 . exact ⟨ob.slots, u.keep b ob q n hb hx⟩
theorem Un.kept (k : ∀ b u, h.get? b = some u -> h'.get? b = some u) : Un fs ex H H h h' :=
 ⟨fun b ob q _ _ _ => k b ob q, fun b ob q _ _ _ => ⟨ob.slots, k b ob q⟩, fun _ _ _ n _ => n, fun b ob q _ => ⟨ob, k b ob q⟩, fun _ _ q => q, fun _ _ _ q => q, fun _ ps q => ⟨#[], by rw [q]; simp⟩⟩
theorem Un.refl : Un fs ex H H h h := Un.kept fun _ _ q => q
theorem Un.laid (k : ∀ b u, h.get? b = some u -> h'.get? b = some u) (hp : h.objs.size <= a) (hn : H a = none) : Un fs ex H (upd H a o) h h' where
 keep := fun b u q _ _ _ => k b u q
 slot := fun b u q _ _ _ => ⟨u.slots, k b u q⟩
 free := fun b u q n _ => by rw [Zm (Nat.ne_of_lt (Nat.lt_of_lt_of_le (Heap.lt_size q) hp))]; exact n
 there := fun b u q _ => ⟨u, k b u q⟩
 tups := fun b xs q => by rw [Zm (Za9 q hn)]; exact q
 frzs := fun b u xs q => by rw [Zm (Za9 q hn)]; exact q
 tbls := fun b ps q => ⟨#[], by rw [Zm (Za9 q hn), q]; simp⟩
theorem Un.write (mu : Mut (H x)) (he : e = x \/ H e = some (.own x)) (k : ∀ b u, b ≠ e -> h.get? b = some u -> h'.get? b = some u) (heo : ∃ u, h'.get? e = some u) : Un fs ex H (upd H x o) h h' := by
 have hx : ∀ b, H b = none -> b ≠ x := fun b n z => by subst z; rw [n] at mu; exact mu
 have hb : ∀ b, H b = none -> b ≠ e := fun b n z => by
  subst z
  rcases he with r | r
  . exact hx b n r
  . rw [n] at r; cases r
 have hm : ∀ b u, H b = some u -> ¬ Mut (some u) -> b ≠ x := fun b u q nm z => by subst z; rw [q] at mu; exact nm mu
 refine ⟨fun b u q n _ _ => k b u (hb b n) q, fun b u q n _ _ => ⟨u.slots, k b u (hb b n) q⟩, fun b u q n _ => by rw [Zm (hx b n)]; exact n, fun b u q _ => ?_,
  fun b xs q => by rw [Zm (hm b _ q fun z => z)]; exact q, fun b u xs q => by rw [Zm (hm b _ q fun z => z)]; exact q, fun b ps q => ⟨#[], by rw [Zm (hm b _ q fun z => z), q]; simp⟩⟩
 by_cases hbe : b = e
 . subst hbe; exact heo
 . exact ⟨u, k b u hbe q⟩
end
noncomputable def trk (h : Heap) (H : Hp) : List Addr := (List.range h.objs.size).filter fun a => (H a).isSome
noncomputable def hidT (h : Heap) (H : Hp) : Heap := PySem.W.hideAll h (trk h H)
theorem Zh6 (h : Heap) (H : Hp) : (hidT h H).objs.size = h.objs.size := PySem.W.hideAll_size _ _
theorem ZiE (e : h.get? b = some o) (n : H b = none) : (hidT h H).get? b = some o :=
 PySem.W.hideAll_get _ e fun hm => by
  have q : (H b).isSome = true := (List.mem_filter.mp hm).2
  rw [n] at q; simp at q
theorem Zkd (e : (hidT h H).get? b = some o) : h.get? b = some o /\ H b = none := by
 have e' : h.get? b = some o := PySem.W.of_hideAll (trk h H) e
 refine ⟨e', ?_⟩
 cases q : H b with
 | none => rfl
 | some x =>
  have hm : b ∈ trk h H := List.mem_filter.mpr ⟨List.mem_range.mpr (Heap.lt_size e'), by simp [q]⟩
  have z : (hidT h H).get? b = none := PySem.W.hideAll_none (trk h H) hm
  rw [z] at e; cases e
noncomputable def Zke (g h : Heap) (L : Addr) : List (Addr × Obj) := (List.range h.objs.size).filterMap fun a => if a = L \/ (g.get? a).isSome = true then none else (h.get? a).map fun o => (a, o)
noncomputable def rest (g h : Heap) (L d : Addr) : List (Addr × Obj) := (Zke g h L).filter fun p => decide (p.1 ≠ d)
end L2
namespace L2
open PySem PySem.Spec PyProof.Rows
structure Mod (K : Fg) (mg : Str -> Option Value) (base : Heap) : Prop where
 kin : K.In base
 glob : base.Ns mainGlobals mg
 blt : ∃ mb, base.Ns builtinsNs mb /\ ∀ x : Str, x ≠ "__name__" -> mb x = bootBuiltins x
 nolimit : base.NoLimit
structure Cx where
 prog : Program
 w : World
 K : Fg
 mg : Str -> Option Value
 base : Heap
 A : Around
 N : List Str
 s₀ : Shared
 H₀ : Hp
 env : Env
 outer : List Env
 stack : List Env
 ex : List Addr
 fn : Str -> Bool
 calm : Bool
 pn : List (Addr × Obj)
 xe : Value -> Shared -> Prop
noncomputable def frs (l : List Env) : List Addr := l.filterMap (·.frame)
noncomputable abbrev Cx.fs (X : Cx) : List Addr := frs X.outer
def Vis (sc : Scope) (x : Str) : Prop := sc.names.lookup x = some .local \/ sc.names.lookup x = some .cell \/ sc.names.lookup x = some .free
def Loc (sc : Scope) (x : Str) : Prop := sc.names.lookup x = some .local \/ sc.names.lookup x = some .cell
def Look (env : Env) (h : Heap) (m : Str -> Option Value) (x : Str) (u : Value) : Prop :=
 (env.kindOf x = some .local /\ m x = some u) \/ ((env.kindOf x = some .cell \/ env.kindOf x = some .free) /\ ∃ c, env.cells.lookup x = some c /\ h.IsCell c (some u))
structure Cx.Ok (X : Cx) : Prop where
 mod : Mod X.K X.mg X.base
 kind : X.env.scope.kind = .function
 glob : X.env.globals = mainGlobals
 blt : X.env.builtins = builtinsNs
 above : X.s₀.heap.objs.size <= X.env.locals
 inj : ∀ x y c, X.env.cells.lookup x = some c -> X.env.cells.lookup y = some c -> x = y
 has : ∀ x, (X.env.kindOf x = some .cell \/ X.env.kindOf x = some .free) -> ∃ c, X.env.cells.lookup x = some c
 cab : ∀ x c, X.fn x = true -> X.env.cells.lookup x = some c -> X.s₀.heap.objs.size <= c
 hd : X.calm = true -> X.A.handled = none
 frames : X.A.frames = some X.stack
 stk : X.stack = X.outer \/ (X.stack = X.env :: X.outer /\ X.env.frame = some X.env.locals)
 exf : ∀ b ∈ X.ex, b ≠ X.env.locals /\ ∀ x c, X.env.cells.lookup x = some c -> c ≠ b
 bs : ∀ b o, X.base.get? b = some o -> X.s₀.heap.get? b = some o /\ X.H₀ b = none
 bsz : X.base.objs.size <= X.s₀.heap.objs.size
 noex : ∀ b o, X.base.get? b = some o -> b ∉ X.ex
 exfs : ∀ b ∈ X.ex, b ∉ X.fs
 funs : X.s₀.heap.FunFrames X.base X.outer
 frf : ∀ b ∈ X.fs, X.H₀ b = none
structure Inv (X : Cx) (pins : List (Addr × Obj)) (σ : List (Option V)) (H : Hp) (s : Shared) : Prop where
 ok : X.Ok
 os : s.os = X.s₀.os
 bare : AllBare s.gens
 base : Un X.fs X.ex X.H₀ H X.s₀.heap s.heap
 loc : ∃ m, s.heap.Ns X.env.locals m /\ ∀ (i : Nat) (x : Str) (v : V), X.N[i]? = some x -> σ[i]? = some (some v) -> Vis X.env.scope x -> ∃ u, RelV v u /\ Look X.env s.heap m x u
 cell : ∀ x c, X.env.cells.lookup x = some c -> ∃ v, s.heap.IsCell c v
 free : H X.env.locals = none
 freeC : ∀ x c, X.env.cells.lookup x = some c -> H c = none
 pin : ∀ p ∈ X.pn ++ pins, s.heap.get? p.1 = some p.2 /\ H p.1 = none /\ p.1 ≠ X.env.locals /\ p.1 ∉ X.fs /\ ∀ v, p.2.data ≠ .cell v
 hok : HOk X.prog X.w H s.heap
 len : σ.length = X.N.length
section
variable {X : Cx} {pins : List (Addr × Obj)} {σ : List (Option V)} {H H' : Hp} {s : Shared} {h' : Heap}
theorem Cx.Ok.nofr (ok : X.Ok) (e : X.base.get? b = some o) : b ∉ X.fs := fun hb => by
 have := (ok.funs.mem hb).1
 rw [e] at this; cases this
theorem Inv.bs (I : Inv X pins σ H s) : ∀ b o, X.base.get? b = some o -> s.heap.get? b = some o /\ H b = none := fun b o e =>
 ⟨I.base.keep b o (I.ok.bs b o e).1 (I.ok.bs b o e).2 (I.ok.nofr e) (I.ok.noex b o e), I.base.free b o (I.ok.bs b o e).1 (I.ok.bs b o e).2 (I.ok.noex b o e)⟩
theorem Inv.bk (I : Inv X pins σ H s) : ∀ b o, X.base.get? b = some o -> s.heap.get? b = some o := fun b o e => (I.bs b o e).1
theorem Inv.mod (I : Inv X pins σ H s) : Mod X.K X.mg X.base := I.ok.mod
theorem Inv.kIn (I : Inv X pins σ H s) : X.K.In s.heap := I.ok.mod.kin.keeps I.bk
theorem Inv.lt (I : Inv X pins σ H s) : X.env.locals < s.heap.objs.size := let ⟨_, hn, _⟩ := I.loc; hn.lt
theorem Inv.sz (I : Inv X pins σ H s) : X.s₀.heap.objs.size <= s.heap.objs.size := Nat.le_trans I.ok.above (Nat.le_of_lt I.lt)
theorem Inv.nofs (I : Inv X pins σ H s) (h : s.heap.objs.size <= a) : a ∉ X.fs := fun hb => by
 obtain ⟨_, o, ho, _⟩ := I.ok.funs.mem hb
 exact absurd (Nat.lt_of_lt_of_le (Heap.lt_size ho) (Nat.le_trans I.sz h)) (Nat.lt_irrefl _)
theorem Inv.cne (I : Inv X pins σ H s) : ∀ x c, X.env.cells.lookup x = some c -> c ≠ X.env.locals := fun x c e z => by
 obtain ⟨v, o, ho, hd⟩ := I.cell x c e
 obtain ⟨m, ⟨o', es, ep, ho', hd', _⟩, _⟩ := I.loc
 rw [z, ho'] at ho; cases ho; rw [hd'] at hd; cases hd
theorem Inv.funs (I : Inv X pins σ H s) : s.heap.FunFrames X.base X.outer := by
 have all : ∀ (l : List Env), (∀ b ∈ frs l, b ∈ X.fs) -> X.s₀.heap.FunFrames X.base l -> s.heap.FunFrames X.base l := by
  intro l
  induction l with
  | nil => intro _ _; trivial
  | cons env r ih =>
   intro hs hl
   obtain ⟨hk, ⟨L, o, hf, hn, ho, hd⟩, hr⟩ := hl
   have hL : L ∈ X.fs := hs L (by unfold frs; rw [List.filterMap_cons, hf]; exact List.mem_cons_self)
   obtain ⟨sl, e⟩ := I.base.slot L o ho (I.ok.frf L hL) hL fun z => I.ok.exfs L z hL
   exact ⟨hk, ⟨L, _, hf, hn, e, hd⟩, ih (fun b hb => hs b (by unfold frs; rw [List.filterMap_cons, hf]; exact List.mem_cons_of_mem _ hb)) hr⟩
 exact all X.outer (fun _ hb => hb) I.ok.funs
theorem Inv.stack (I : Inv X pins σ H s) : s.heap.FunFrames X.base X.stack := by
 rcases I.ok.stk with e | ⟨e, hf⟩
 . rw [e]; exact I.funs
 . rw [e]
   obtain ⟨m, hn, _⟩ := I.loc
   refine .cons (by rw [I.ok.kind]; decide) hf hn ?_ I.funs
   exact Heap.get?_none_of_le (Nat.le_trans I.ok.bsz I.ok.above)
theorem Inv.stkSub (I : Inv X pins σ H s) : ∀ b ∈ frs X.stack, b ∈ X.env.locals :: X.fs := fun b hb => by
 rcases I.ok.stk with e | ⟨e, hf⟩
 . rw [e] at hb; exact List.mem_cons_of_mem _ hb
 . rw [e] at hb
   unfold frs at hb
   rw [List.filterMap_cons, hf] at hb
   exact hb
theorem Inv.stkFree (I : Inv X pins σ H s) : ∀ b ∈ frs X.stack, H b = none := fun b hb => by
 rcases List.mem_cons.mp (I.stkSub b hb) with e | hb
 . rw [e]; exact I.free
 . obtain ⟨_, o, ho, _⟩ := I.ok.funs.mem hb
   exact I.base.free b o ho (I.ok.frf b hb) fun z => I.ok.exfs b z hb
theorem Inv.step {g' : Array GenState} {t' : Nat} {d' : Drawn} {ch : List Addr} (I : Inv X pins σ H s)
 (hch : ∀ b ∈ ch, (b ∈ X.ex \/ X.s₀.heap.objs.size <= b) /\ b ≠ X.env.locals /\ (∀ x c, X.env.cells.lookup x = some c -> c ≠ b) /\ ∀ p ∈ X.pn ++ pins, p.1 ≠ b)
 (keep : ∀ b o, b ≠ X.env.locals -> b ∉ X.fs -> b ∉ ch -> s.heap.get? b = some o -> H b = none -> h'.get? b = some o)
 (slot : ∀ b o, b ≠ X.env.locals -> b ∈ X.fs -> b ∉ ch -> s.heap.get? b = some o -> H b = none -> ∃ sl, h'.get? b = some { o with slots := sl }) (free : ∀ b o, b ∉ ch -> s.heap.get? b = some o -> H b = none -> H' b = none)
 (there : ∀ b o, b ∉ ch -> s.heap.get? b = some o -> ∃ o', h'.get? b = some o')
 (tups : ∀ b xs, H b = some (.tup xs) -> H' b = some (.tup xs)) (frzs : ∀ b o u, H b = some (.frz o u) -> H' b = some (.frz o u)) (tbls : ∀ b ps, H b = some (.tbl ps) -> ∃ more, H' b = some (.tbl (ps ++ more)))
 (ns : ∀ m, s.heap.Ns X.env.locals m -> h'.Ns X.env.locals m) (hok : HOk X.prog X.w H' h') (hg : AllBare g') :
 Inv X pins σ H' { s with heap := h', gens := g', drawn := d', toks := t' } := by
 have neL : ∀ b o, X.s₀.heap.get? b = some o -> b ≠ X.env.locals := fun b o e => Nat.ne_of_lt (Nat.lt_of_lt_of_le (Heap.lt_size e) I.ok.above)
 have neC : ∀ b o, X.s₀.heap.get? b = some o -> b ∉ X.ex -> b ∉ ch := fun b o e hx hb => by
  rcases (hch b hb).1 with z | z
  . exact hx z
  . exact absurd (Nat.lt_of_lt_of_le (Heap.lt_size e) z) (Nat.lt_irrefl _)
 have cellK : ∀ x c, X.env.cells.lookup x = some c -> ∀ v, s.heap.IsCell c v -> h'.IsCell c v := fun x c e v z0 => by
  obtain ⟨o, ho, hd⟩ := z0
  have nch : c ∉ ch := fun z => (hch c z).2.2.1 x c e rfl
  by_cases hc : c ∈ X.fs
  . obtain ⟨sl, q⟩ := slot c o (I.cne x c e) hc nch ho (I.freeC x c e)
    exact ⟨_, q, hd⟩
  . exact ⟨o, keep c o (I.cne x c e) hc nch ho (I.freeC x c e), hd⟩
 refine ⟨I.ok, I.os, hg, ⟨fun b o e n hb hx => ?_, fun b o e n hb hx => ?_, fun b o e n hx => ?_, fun b o e hx => ?_, fun b xs e => tups b xs (I.base.tups b xs e), fun b o xs e => frzs b o xs (I.base.frzs b o xs e), fun b ps e => ?_⟩, ?_, fun x c e => ?_, ?_, fun x c e => ?_, fun p hp => ?_, hok, I.len⟩
 . exact keep b o (neL b o e) hb (neC b o e hx) (I.base.keep b o e n hb hx) (I.base.free b o e n hx)
 . obtain ⟨sl, e1⟩ := I.base.slot b o e n hb hx
   obtain ⟨sl', e2⟩ := slot b _ (neL b o e) hb (neC b o e hx) e1 (I.base.free b o e n hx)
   exact ⟨sl', e2⟩
 . obtain ⟨o', e1⟩ := I.base.there b o e hx
   exact free b o' (neC b o e hx) e1 (I.base.free b o e n hx)
 . obtain ⟨o', e1⟩ := I.base.there b o e hx
   exact there b o' (neC b o e hx) e1
 . obtain ⟨m1, e1⟩ := I.base.tbls b ps e
   obtain ⟨m2, e2⟩ := tbls b _ e1
   exact ⟨m1 ++ m2, by rw [e2, Array.append_assoc]⟩
 . obtain ⟨m, hn, hl⟩ := I.loc
   refine ⟨m, ns m hn, fun i x v e1 e2 e3 => ?_⟩
   obtain ⟨u, r, l⟩ := hl i x v e1 e2 e3
   refine ⟨u, r, ?_⟩
   rcases l with l | ⟨k, c, e, z⟩
   . exact .inl l
   . exact .inr ⟨k, c, e, cellK x c e _ z⟩
 . obtain ⟨v, z⟩ := I.cell x c e
   exact ⟨v, cellK x c e v z⟩
 . obtain ⟨m, ⟨o, _, _, ho, _⟩, _⟩ := I.loc
   exact free _ o (fun z => (hch _ z).2.1 rfl) ho I.free
 . obtain ⟨v, o, ho, hd⟩ := I.cell x c e
   exact free c o (fun z => (hch c z).2.2.1 x c e rfl) ho (I.freeC x c e)
 . obtain ⟨e, n, ne, nf, d⟩ := I.pin p hp
   have nch : p.1 ∉ ch := fun z => (hch p.1 z).2.2.2 p hp rfl
   exact ⟨keep p.1 p.2 ne nf nch e n, free p.1 p.2 nch e n, ne, nf, d⟩
theorem Inv.un {t' : Nat} (I : Inv X pins σ H s) (u : Un X.fs [] H H' s.heap h') (hok : HOk X.prog X.w H' h') : Inv X pins σ H' { s with heap := h', toks := t' } := by
 obtain ⟨m, ⟨o, es, ep, ho, r⟩, _⟩ := id I.loc
 obtain ⟨sl, hL⟩ := u.any ho I.free (by simp)
 exact I.step (g' := s.gens) (d' := s.drawn) (ch := []) (fun _ z => nomatch z) (fun b o _ hb _ e n => u.keep b o e n hb (by simp)) (fun b o _ hb _ e n => u.slot b o e n hb (by simp)) (fun b o _ e n => u.free b o e n (by simp)) (fun b o _ e => u.there b o e (by simp)) u.tups u.frzs u.tbls (fun m' hm => by
  obtain ⟨o', es', ep', ho', r'⟩ := hm
  rw [ho] at ho'; cases ho'
  exact ⟨_, es', ep', hL, r'⟩) hok I.bare
theorem Inv.call {g' : Array GenState} {t' : Nat} {d' : Drawn} {ch : List Addr} (I : Inv X pins σ H s) (u : Un (frs X.stack) ch H H' s.heap h') (hok : HOk X.prog X.w H' h') (hg : AllBare g')
 (hch : ∀ b ∈ ch, (b ∈ X.ex \/ X.s₀.heap.objs.size <= b) /\ b ≠ X.env.locals /\ (∀ x c, X.env.cells.lookup x = some c -> c ≠ b) /\ ∀ p ∈ X.pn ++ pins, p.1 ≠ b) :
 Inv X pins σ H' { s with heap := h', gens := g', drawn := d', toks := t' } := by
 obtain ⟨m, ⟨o, es, ep, ho, r⟩, _⟩ := id I.loc
 obtain ⟨sl, hL⟩ := u.any ho I.free fun z => (hch _ z).2.1 rfl
 exact I.step (ch := ch) hch (fun b o hL hb hc e n => u.keep b o e n (fun z => (List.mem_cons.mp (I.stkSub b z)).elim hL hb) hc) (fun b o _ _ hc e n => u.any e n hc) (fun b o hc e n => u.free b o e n hc) (fun b o hc e => u.there b o e hc) u.tups u.frzs u.tbls (fun m' hm => by
  obtain ⟨o', es', ep', ho', r'⟩ := hm
  rw [ho] at ho'; cases ho'
  exact ⟨_, es', ep', hL, r'⟩) hok hg
theorem Inv.turned {t' : Nat} {it : Addr} (I : Inv X pins σ H s) (k : ∀ b o, b ≠ it -> s.heap.get? b = some o -> h'.get? b = some o) (hn : H it = none) (hL : it ≠ X.env.locals)
 (h1 : it ∈ X.ex \/ X.s₀.heap.objs.size <= it) (h2 : ∀ x c, X.env.cells.lookup x = some c -> c ≠ it) (h3 : ∀ p ∈ X.pn ++ pins, p.1 ≠ it) : Inv X pins σ H { s with heap := h', toks := t' } := by
 have nit : ∀ b u, H b = some u -> b ≠ it := fun b u e z => by rw [z, hn] at e; cases e
 refine I.step (g' := s.gens) (d' := s.drawn) (ch := [it]) (fun b hb => ?_) (fun b o _ _ hc e _ => k b o (fun z => hc (by simp [z])) e) (fun b o _ _ hc e _ => ⟨o.slots, k b o (fun z => hc (by simp [z])) e⟩) (fun _ _ _ _ n => n)
  (fun b o hc e => ⟨o, k b o (fun z => hc (by simp [z])) e⟩) (fun _ _ e => e) (fun _ _ _ e => e) (fun b ps e => ⟨#[], by rw [e]; simp⟩) (fun m hm => ?_) (fun b u e => ?_) I.bare
 . have e : b = it := by simpa using hb
   subst e
   exact ⟨h1, hL, h2, h3⟩
 . obtain ⟨o, es, ep, ho, r⟩ := hm
   exact ⟨o, es, ep, k _ o (Ne.symm hL) ho, r⟩
 . refine (I.hok b u e).stay (fun c v hc q => k c v ?_ q) (fun _ q => q) fun _ _ q => q
   rcases hc with z | z
   . rw [z]; exact nit b u e
   . exact nit c _ z
theorem Inv.tok (I : Inv X pins σ H s) (t : Nat) : Inv X pins σ H { s with toks := t } := I.un (h' := s.heap) (t' := t) Un.refl I.hok
theorem Inv.kept (I : Inv X pins σ H s) (k : ∀ b u, s.heap.get? b = some u -> h'.get? b = some u) : Inv X pins σ H { s with heap := h', toks := t' } := I.un (Un.kept k) (I.hok.kept k)
theorem Inv.laid (I : Inv X pins σ H s) (k : ∀ b u, s.heap.get? b = some u -> h'.get? b = some u) (hp : s.heap.objs.size <= a) (new : Z6 X.prog X.w (upd H a o) h' a o) :
 Inv X pins σ (upd H a o) { s with heap := h', toks := t' } := I.un (Un.laid k hp (I.hok.fresh hp)) (I.hok.laid k hp new)
theorem Inv.write (I : Inv X pins σ H s) (mu : Mut (H x)) (he : e = x \/ H e = some (.own x)) (k : ∀ b u, b ≠ e -> s.heap.get? b = some u -> h'.get? b = some u) (heo : ∃ u, h'.get? e = some u)
 (new : Z6 X.prog X.w (upd H x o) h' x o) : Inv X pins σ (upd H x o) { s with heap := h', toks := t' } := I.un (Un.write mu he k heo) (I.hok.write mu he k heo new)
theorem Inv.pins_of (I : Inv X pins σ H s) (h : ∀ p ∈ pins', s.heap.get? p.1 = some p.2 /\ H p.1 = none /\ p.1 ≠ X.env.locals /\ p.1 ∉ X.fs /\ ∀ v, p.2.data ≠ .cell v) : Inv X pins' σ H s :=
 ⟨I.ok, I.os, I.bare, I.base, I.loc, I.cell, I.free, I.freeC, fun p hp => (List.mem_append.mp hp).elim (fun z => I.pin p (List.mem_append_left _ z)) (h p), I.hok, I.len⟩
theorem Zfc {N : List Str} (hN : N.Nodup) {i j : Nat} {x : Str} (a : N[i]? = some x) (b : N[j]? = some x) : i = j := by
 obtain ⟨h1, e1⟩ := List.getElem?_eq_some_iff.mp a
 obtain ⟨h2, e2⟩ := List.getElem?_eq_some_iff.mp b
 exact (List.getElem_inj hN).mp (e1.trans e2.symm)
theorem Zh7 {M : Model} {A : Around} {E : Value -> Shared -> Prop} {i : Nat} {x : Str} {v : V} {u : Value} {Q : Unit -> Shared -> Prop} (I : Inv X pins σ H s) (hN : X.N.Nodup) (hi : X.N[i]? = some x) (hx : Loc X.env.scope x) (r : RelV v u)
 (h : ∀ s', Inv X pins (σ.set i (some v)) H s' -> (∃ a, Heap.SameBut a s.heap s'.heap /\ (a = X.env.locals \/ X.env.cells.lookup x = some a)) -> Q () s') (hf : X.fn x = true \/ X.env.scope.names.lookup x = some .local := by first | exact .inl rfl | exact .inr rfl | assumption) : wpAny M A (storeName X.env x u) Q E s := by
 obtain ⟨m, hn, hl⟩ := id I.loc
 have hcls : (X.env.scope.kind == .class || (X.env.scope.kind == .module && X.env.locals != X.env.globals)) = false := by rw [I.ok.kind]; rfl
 have hiσ : i < σ.length := by rw [I.len]; exact (List.getElem?_eq_some_iff.mp hi).1
 have cne := I.cne
 have tracked : ∀ {a : Addr} {h' : Heap}, (∃ o, s.heap.get? a = some o /\ H a = none) -> Heap.SameBut a s.heap h' -> HOk X.prog X.w H h' := fun {a h'} ha hs b ob e => by
  obtain ⟨_, _, hfree⟩ := ha
  refine (I.hok b ob e).stay (fun c w' hc q => (hs.2 c ?_).trans q) (fun _ q => q) fun _ _ q => q
  rintro rfl
  rcases hc with rfl | hc
  . rw [hfree] at e; cases e
  . rw [hfree] at hc; cases hc
 rcases hx with hk | hk
 . refine wpAny_storeName_local hk hn (fun h' hn' hs => ?_) hcls
   obtain ⟨oL, _, _, hoL, _⟩ := id hn
   refine h _ ⟨I.ok, I.os, I.bare, ⟨fun b o e n hb hx => ?_, fun b o e n hb hx => ?_, I.base.free, fun b o e hx => ?_, I.base.tups, I.base.frzs, I.base.tbls⟩, ⟨_, hn', fun j y v' e1 e2 e3 => ?_⟩, fun y c e => ?_, I.free, I.freeC, fun p hp => ?_, tracked ⟨oL, hoL, I.free⟩ hs, by simpa using I.len⟩ ⟨_, hs, .inl rfl⟩
   . exact (hs.2 b (Nat.ne_of_lt (Nat.lt_of_lt_of_le (Heap.lt_size e) I.ok.above))).trans (I.base.keep b o e n hb hx)
   . obtain ⟨sl, e1⟩ := I.base.slot b o e n hb hx
     exact ⟨sl, (hs.2 b (Nat.ne_of_lt (Nat.lt_of_lt_of_le (Heap.lt_size e) I.ok.above))).trans e1⟩
   . obtain ⟨o', e1⟩ := I.base.there b o e hx
     exact ⟨o', (hs.2 b (Nat.ne_of_lt (Nat.lt_of_lt_of_le (Heap.lt_size e) I.ok.above))).trans e1⟩
   . by_cases hj : j = i
     . subst hj
       rw [hi] at e1; cases e1
       rw [List.getElem?_set_self hiσ] at e2
       cases e2
       exact ⟨u, r, .inl ⟨hk, by simp⟩⟩
     . rw [List.getElem?_set_ne (Ne.symm hj)] at e2
       obtain ⟨u', r', q⟩ := hl j y v' e1 e2 e3
       refine ⟨u', r', ?_⟩
       rcases q with ⟨k, e⟩ | ⟨k, c, e, z⟩
       . refine .inl ⟨k, ?_⟩
         have : y ≠ x := fun e => hj (Zfc hN e1 (e ▸ hi))
         simp [this, e]
       . exact .inr ⟨k, c, e, z.sameBut hs (cne y c e)⟩
   . obtain ⟨w', z⟩ := I.cell y c e
     exact ⟨w', z.sameBut hs (cne y c e)⟩
   . obtain ⟨e, n, ne, nf, d⟩ := I.pin p hp
     exact ⟨(hs.2 p.1 ne).trans e, n, ne, nf, d⟩
 . have hfn : X.fn x = true := by
    rcases hf with z | z
    . exact z
    . rw [z] at hk; cases hk
   obtain ⟨c, hc⟩ := I.ok.has x (.inl hk)
   obtain ⟨w', z⟩ := I.cell x c hc
   refine wpAny_storeName_cell I.ok.kind hk hc z (fun h' hc' hs => ?_)
   obtain ⟨oc, hoc, hocd⟩ := id z
   refine h { s with heap := h' } ⟨I.ok, I.os, I.bare, ⟨fun b o e n hb hx => ?_, fun b o e n hb hx => ?_, I.base.free, fun b o e hx => ?_, I.base.tups, I.base.frzs, I.base.tbls⟩, ⟨m, hn.sameBut hs (Ne.symm (cne x c hc)), fun j y v' e1 e2 e3 => ?_⟩, fun y c' e => ?_, I.free, I.freeC, fun p hp => ?_, tracked ⟨oc, hoc, I.freeC x c hc⟩ hs, by simpa using I.len⟩ ⟨c, hs, .inr hc⟩
   . exact (hs.2 b (Nat.ne_of_lt (Nat.lt_of_lt_of_le (Heap.lt_size e) (I.ok.cab x c hfn hc)))).trans (I.base.keep b o e n hb hx)
   . obtain ⟨sl, e1⟩ := I.base.slot b o e n hb hx
     exact ⟨sl, (hs.2 b (Nat.ne_of_lt (Nat.lt_of_lt_of_le (Heap.lt_size e) (I.ok.cab x c hfn hc)))).trans e1⟩
   . obtain ⟨o', e1⟩ := I.base.there b o e hx
     exact ⟨o', (hs.2 b (Nat.ne_of_lt (Nat.lt_of_lt_of_le (Heap.lt_size e) (I.ok.cab x c hfn hc)))).trans e1⟩
   . by_cases hj : j = i
     . subst hj
       rw [hi] at e1; cases e1
       rw [List.getElem?_set_self hiσ] at e2
       cases e2
       exact ⟨u, r, .inr ⟨.inl hk, c, hc, hc'⟩⟩
     . rw [List.getElem?_set_ne (Ne.symm hj)] at e2
       obtain ⟨u', r', q⟩ := hl j y v' e1 e2 e3
       refine ⟨u', r', ?_⟩
       rcases q with q | ⟨k, c', e, z'⟩
       . exact .inl q
       . refine .inr ⟨k, c', e, z'.sameBut hs ?_⟩
         rintro rfl
         exact hj (Zfc hN e1 (I.ok.inj _ _ _ e hc ▸ hi))
   . by_cases hcc : c' = c
     . subst hcc; exact ⟨_, hc'⟩
     . obtain ⟨w2, z2⟩ := I.cell y c' e
       exact ⟨w2, z2.sameBut hs hcc⟩
   . obtain ⟨e, n, ne, nf, d⟩ := I.pin p hp
     refine ⟨(hs.2 p.1 ?_).trans e, n, ne, nf, d⟩
     intro q
     rw [q, hoc] at e
     have q' : oc = p.2 := Option.some.inj e
     exact d w' (by rw [<- q']; exact hocd)
theorem Zd4 (I : Inv X pins σ H s) (hN : X.N.Nodup) (hi : X.N[i]? = some x) (hx : Loc X.env.scope x) (r : RelV v u)
 (h : ∀ s', Inv X pins (σ.set i (some v)) H s' -> Q () s') (hf : X.fn x = true \/ X.env.scope.names.lookup x = some .local := by first | exact .inl rfl | exact .inr rfl | assumption) : wpAny M A (storeName X.env x u) Q E s :=
 Zh7 I hN hi hx r (fun s' I' _ => h s' I') hf
theorem Inv.call' (I : Inv X pins σ H s) (ho : s'.os = s.os) (u : Un (frs X.stack) ch H H' s.heap s'.heap) (hok : HOk X.prog X.w H' s'.heap) (hg : AllBare s'.gens)
 (hch : ∀ b ∈ ch, (b ∈ X.ex \/ X.s₀.heap.objs.size <= b) /\ b ≠ X.env.locals /\ (∀ x c, X.env.cells.lookup x = some c -> c ≠ b) /\ ∀ p ∈ X.pn ++ pins, p.1 ≠ b) : Inv X pins σ H' s' := by
 obtain ⟨h', g', d', t', o'⟩ := s'
 have e : o' = s.os := ho
 subst e
 exact I.call (g' := g') (t' := t') (d' := d') u hok hg hch
end
abbrev XK := Value -> Option Addr -> Hp -> Prop
noncomputable abbrev St := List (Option V)
abbrev VK := V -> Hp -> Prop
abbrev TE := St -> Hp -> VK -> Prop
abbrev TT := St -> Hp -> (Bool -> Hp -> Prop) -> Prop
abbrev TA := St -> Hp -> (List V -> Hp -> Prop) -> Prop
structure Ends where
 nx : St -> Hp -> Prop
 rt : VK
 bk : St -> Hp -> Prop := fun _ _ => False
 ct : St -> Hp -> Prop := fun _ _ => False
abbrev TS := Ends -> St -> Hp -> Prop
def EP (X : Cx) (pins : List (Addr × Obj)) (σ : St) (Q : VK) (u : Value) (s' : Shared) : Prop := ∃ v H', Inv X pins σ H' s' /\ RelV v u /\ Q v H'
def TP (X : Cx) (pins : List (Addr × Obj)) (σ : St) (Q : Bool -> Hp -> Prop) (b : Bool) (s' : Shared) : Prop := ∃ H', Inv X pins σ H' s' /\ Q b H'
def AP (X : Cx) (pins : List (Addr × Obj)) (σ : St) (Q : List V -> Hp -> Prop) (us : List Value) (s' : Shared) : Prop := ∃ vs H', Inv X pins σ H' s' /\ Vals vs us /\ Q vs H'
def SP (X : Cx) (pins : List (Addr × Obj)) (D : Ends) (f : Flow) (s' : Shared) : Prop :=
 match f with
 | .next => ∃ σ' H', Inv X pins σ' H' s' /\ D.nx σ' H'
 | .brk => ∃ σ' H', Inv X pins σ' H' s' /\ D.bk σ' H'
 | .cont => ∃ σ' H', Inv X pins σ' H' s' /\ D.ct σ' H'
 | .ret u => ∃ v σ' H', Inv X pins σ' H' s' /\ RelV v u /\ D.rt v H'
def PE (X : Cx) (e : Expr) (t : TE) : Prop :=
 ∀ (pins : List (Addr × Obj)) (s : Shared) (σ : St) (H : Hp) (Q : VK), Inv X pins σ H s -> t σ H Q -> wpAny (model X.prog X.w) X.A (eval e X.env) (EP X pins σ Q) X.xe s
def PT (X : Cx) (e : Expr) (t : TT) : Prop :=
 ∀ (pins : List (Addr × Obj)) (s : Shared) (σ : St) (H : Hp) (Q : Bool -> Hp -> Prop), Inv X pins σ H s -> t σ H Q -> wpAny (model X.prog X.w) X.A (isTrue e X.env (eval e X.env)) (TP X pins σ Q) X.xe s
def PW (X : Cx) (e : Expr) (t : TT) : Prop :=
 ∀ (whole : Sem Value) (pins : List (Addr × Obj)) (s : Shared) (σ : St) (H : Hp) (Q : Bool -> Hp -> Prop), Inv X pins σ H s -> t σ H Q -> wpAny (model X.prog X.w) X.A (isTrue e X.env whole) (TP X pins σ Q) X.xe s
theorem PW.pt (h : PW X e t) : PT X e t := h _
def PA (X : Cx) (es : List Expr) (t : TA) : Prop :=
 ∀ (pos : Pos) (pins : List (Addr × Obj)) (s : Shared) (σ : St) (H : Hp) (Q : List V -> Hp -> Prop), Inv X pins σ H s -> t σ H Q -> wpAny (model X.prog X.w) X.A (spliced (backTo pos (starEach es X.env))) (AP X pins σ Q) X.xe s
def PS (X : Cx) (st : Stmt) (t : TS) : Prop :=
 ∀ (pins : List (Addr × Obj)) (s : Shared) (σ : St) (H : Hp) (D : Ends), Inv X pins σ H s -> t D σ H -> wpAny (model X.prog X.w) X.A (exec st X.env) (SP X pins D) X.xe s
def PSs (X : Cx) (st : List Stmt) (t : TS) : Prop :=
 ∀ (pins : List (Addr × Obj)) (s : Shared) (σ : St) (H : Hp) (D : Ends), Inv X pins σ H s -> t D σ H -> wpAny (model X.prog X.w) X.A (execs st X.env) (SP X pins D) X.xe s
theorem thn (h : wpAny M A t Q E s) (hQ : ∀ a s, Q a s -> Q' a s) : wpAny M A t Q' E s := wpAny_mono h hQ fun _ _ x => x
end L2
namespace L2
open PySem PySem.Spec PyProof.Rows
section
variable {X : Cx}
theorem bin {a b : Expr} {ta tb : TE} (ha : PE X a ta) (hb : PE X b tb) {pins : List (Addr × Obj)} {s : Shared} {σ : St} {H : Hp} {R : V -> V -> Hp -> Prop} (I : Inv X pins σ H s) (h : ta σ H fun x H1 => tb σ H1 fun y H2 => R x y H2)
 {α : Type} {Q : α -> Shared -> Prop} {f : Value -> Value -> Sem α}
 (hf : ∀ v u s2 x y H2, Inv X pins σ H2 s2 -> RelV x v -> RelV y u -> R x y H2 -> wpAny (model X.prog X.w) X.A (f v u) Q X.xe s2) :
 wpAny (model X.prog X.w) X.A (eval a X.env) (fun v s₁ => wpAny (model X.prog X.w) X.A (eval b X.env) (fun u s₂ => wpAny (model X.prog X.w) X.A (f v u) Q X.xe s₂) X.xe s₁) X.xe s := by
 refine thn (ha pins s σ H _ I h) fun v s1 z0 => ?_
 obtain ⟨x, H1, I1, r1, q1⟩ := z0
 refine thn (hb pins s1 σ H1 _ I1 q1) fun u s2 z0 => ?_
 obtain ⟨y, H2, I2, r2, q2⟩ := z0
 exact hf v u s2 x y H2 I2 r1 r2 q2
def tVar (i : Nat) : TE := fun σ H Q => ∃ v, σ[i]? = some (some v) /\ Q v H
def tC (v : V) : TE := fun _ H Q => Q v H
theorem Zh8 (hN : X.N[i]? = some x) (hv : Vis X.env.scope x) (hd : (x == ("__debug__" : Str)) = false := by decide) (hcd : (x == ("__classdict__" : Str)) = false := by decide) : PE X (.Name x pos) (tVar i) := by
 intro pins s σ H Q I h
 obtain ⟨v, e, h⟩ := h
 obtain ⟨m, hn, hl⟩ := I.loc
 obtain ⟨u, r, l⟩ := hl i x v hN e hv
 have fin : EP X pins σ Q u s := ⟨v, H, I, r, h⟩
 rcases l with ⟨hk, hm⟩ | ⟨hk, c, hc, hcell⟩
 . exact wpAny_Name (wpAny_loadName_local I.ok.kind hk hn hm fin) hd
 . rcases hk with hk | hk
   . exact wpAny_Name (wpAny_loadName_cell I.ok.kind hk hc hcell fin) hd
   . exact wpAny_Name (wpAny_loadName_free I.ok.kind hk hc hcell fin hcd) hd
theorem Zam {i j pos} : PE X (.Constant (.int i) j pos) (tC (.int i)) := fun _ _ _ H _ I h => wpAny_Constant_int ⟨.int i, H, I.tok _, ⟨_, rfl⟩, h⟩
theorem Zcr {b j pos} : PE X (.Constant (.bool b) j pos) (tC (.bl b)) := fun _ _ _ H _ I h => Constant_bool ⟨.bl b, H, I, rfl, h⟩
theorem ZH {j pos} : PE X (.Constant .none j pos) (tC .non) := fun _ _ _ H _ I h => Constant_none ⟨.non, H, I, rfl, h⟩
theorem Zr {x j pos} : PE X (.Constant (.str x) j pos) (tC (.str x)) := fun _ _ _ H _ I h => Calls.Constant_str ⟨.str x, H, I.tok _, ⟨_, rfl⟩, h⟩
def Gl (X : Cx) (x : Str) : Prop := X.env.kindOf x = some .globalImplicit
theorem Zea (I : Inv X pins σ H s) (hg : Gl X x) (hm : X.mg x = some u) (h : Q u s)
 (hd : (x == ("__debug__" : Str)) = false := by decide) : wpAny (model X.prog X.w) X.A (eval (.Name x pos) X.env) Q E s :=
 Calls.Name_function_global I.ok.kind hg (Calls.loadGlobal_global (by rw [I.ok.glob]; exact I.mod.glob.keeps I.bk) hm h) hd
theorem ZcF (I : Inv X pins σ H s) (hg : Gl X x) (hm : X.mg x = none) (hv : bootBuiltins x = some u) (h : Q u s)
 (hn : x ≠ "__name__" := by decide) (hd : (x == ("__debug__" : Str)) = false := by decide) : wpAny (model X.prog X.w) X.A (eval (.Name x pos) X.env) Q E s := by
 obtain ⟨mb, h1, h2⟩ := I.mod.blt
 exact Calls.Name_function_global I.ok.kind hg (Calls.loadGlobal_builtin (by rw [I.ok.glob]; exact I.mod.glob.keeps I.bk) hm (by rw [I.ok.blt]; exact h1.keeps I.bk) ((h2 x hn).trans hv) h) hd
theorem Zeb (hg : Gl X x) (hm : X.mg x = some u) (r : RelV v u) (hd : (x == ("__debug__" : Str)) = false := by decide) : PE X (.Name x pos) (tC v) :=
 fun _ _ _ H _ I h => Zea I hg hm ⟨v, H, I, r, h⟩ hd
theorem Zkf (hg : Gl X x) (hm : X.mg x = none) (hv : bootBuiltins x = some u) (r : RelV v u) (hn : x ≠ "__name__" := by decide) (hd : (x == ("__debug__" : Str)) = false := by decide) : PE X (.Name x pos) (tC v) :=
 fun _ _ _ H _ I h => ZcF I hg hm hv ⟨v, H, I, r, h⟩ hn hd
variable {a b : Expr} {ta tb : TE} {pos : Pos}
def PC (X : Cx) (op : CmpOp) (a b : Expr) (t : TE) : Prop :=
 ∀ (pins : List (Addr × Obj)) (s : Shared) (σ : St) (H : Hp) (Q : VK), Inv X pins σ H s -> t σ H Q ->
  wpAny (model X.prog X.w) X.A (eval a X.env) (fun v s₁ => wpAny (model X.prog X.w) X.A (eval b X.env) (fun u s₂ => wpAny (model X.prog X.w) X.A (compareOp op v u) (EP X pins σ Q) X.xe s₂) X.xe s₁) X.xe s
theorem Zfd (b : Expr) (h : op ≠ .In) (h2 : op ≠ .NotIn) : behindInMarks op b = false := by
 have e1 : (op == CmpOp.In) = false := by cases op <;> first | rfl | exact absurd rfl h
 have e2 : (op == CmpOp.NotIn) = false := by cases op <;> first | rfl | exact absurd rfl h2
 cases b <;> simp [behindInMarks, e1, e2]
def tIsN (ta : TE) : TE := fun σ H Q => ta σ H fun x H1 => Q (.bl (decide (x = .non))) H1
def Znv (ta : TE) : TE := fun σ H Q => ta σ H fun x H1 => Q (.bl (!decide (x = .non))) H1
theorem RelV.none_iff (r : RelV x v) : (v == Value.none) = decide (x = .non) := by
 cases x with
 | non => cases r; rfl
 | bl _ => cases r; rfl
 | int _ => obtain ⟨t, rfl⟩ := r; rfl
 | str _ => obtain ⟨t, rfl⟩ := r; rfl
 | byt _ => obtain ⟨t, rfl⟩ := r; rfl
 | flt _ => obtain ⟨t, rfl⟩ := r; rfl
 | ref _ => cases r; rfl
 | ty _ => cases r; rfl
theorem Zh9 {j pos'} (ha : PE X a ta) : PC X .Is a (.Constant .none j pos') (tIsN ta) := by
 intro pins s σ H Q I h
 refine thn (ha pins s σ H _ I h) fun v s1 z0 => ?_
 obtain ⟨x, H1, I1, r1, q1⟩ := z0
 exact Constant_none (is_none_gen ⟨.bl _, H1, I1, by rw [r1.none_iff]; rfl, q1⟩)
theorem Zgs {j pos'} (ha : PE X a ta) : PC X .IsNot a (.Constant .none j pos') (Znv ta) := by
 intro pins s σ H Q I h
 refine thn (ha pins s σ H _ I h) fun v s1 z0 => ?_
 obtain ⟨x, H1, I1, r1, q1⟩ := z0
 exact Constant_none (isnot_none_gen ⟨.bl _, H1, I1, by rw [r1.none_iff]; rfl, q1⟩)
def tB (t : TE) : TT := fun σ H Q => t σ H fun x H1 => ∃ c, x = .bl c /\ Q c H1
theorem ZhA (h : PC X op a b t) (h1 : behindInMarks op b = false := by first | exact Zfd _ (by decide) (by decide) | rfl) : PE X (.Compare a [op] [b] pos) t := fun pins s σ H Q I hw => wpAny_Compare1 (h pins s σ H Q I hw) h1
theorem ZhB (h : PC X op a b t) (h1 : behindInMarks op b = false := by first | exact Zfd _ (by decide) (by decide) | rfl) : PT X (.Compare a [op] [b] pos) (tB t) := by
 intro pins s σ H Q I hw
 refine wpAny_isTrue_Compare1 (thn (h pins s σ H _ I hw) fun v s1 h1 => thn h1 fun u s2 h2 => thn h2 fun c s3 z0 => ?_) h1
 obtain ⟨x, H1, I1, r1, q1⟩ := z0
 obtain ⟨d, rfl, q⟩ := q1
 cases r1
 exact wpAny_truthy_bool ⟨H1, I1, q⟩
variable {tA tB' : TT} {rest : List Expr}
def tAnd (t u : TT) : TT := fun σ H Q => t σ H fun c H1 => if c = true then u σ H1 Q else Q false H1
def tOr (t u : TT) : TT := fun σ H Q => t σ H fun c H1 => if c = true then Q true H1 else u σ H1 Q
def tNot (t : TT) : TT := fun σ H Q => t σ H fun c H1 => Q (!c) H1
theorem Zkg (ha : PT X a tA) : PW X (.BoolOp .And [a] pos) tA := by
 intro wh pins s σ H Q I h
 refine isTrue_and (thn (ha pins s σ H Q I h) fun c s1 e => ?_)
 cases c with
 | true => exact isTrue_and_nil e
 | false => exact e
theorem Zl5 (ha : PT X a tA) : PW X (.BoolOp .Or [a] pos) tA := by
 intro wh pins s σ H Q I h
 refine isTrue_or (thn (ha pins s σ H Q I h) fun c s1 e => ?_)
 cases c with
 | false => exact isTrue_or_nil e
 | true => exact e
theorem Zl6 (ha : PT X a tA) (hb : PW X (.BoolOp .And (b :: rest) pos) tB') : PW X (.BoolOp .And (a :: b :: rest) pos) (tAnd tA tB') := by
 intro wh pins s σ H Q I h
 refine isTrue_and (thn (ha pins s σ H _ I h) fun c s1 z0 => ?_)
 obtain ⟨H1, I1, q1⟩ := z0
 cases c with
 | true => exact hb wh pins s1 σ H1 Q I1 q1
 | false => exact ⟨H1, I1, q1⟩
theorem Znw (ha : PT X a tA) (hb : PW X (.BoolOp .Or (b :: rest) pos) tB') : PW X (.BoolOp .Or (a :: b :: rest) pos) (tOr tA tB') := by
 intro wh pins s σ H Q I h
 refine isTrue_or (thn (ha pins s σ H _ I h) fun c s1 z0 => ?_)
 obtain ⟨H1, I1, q1⟩ := z0
 cases c with
 | true => exact ⟨H1, I1, q1⟩
 | false => exact hb wh pins s1 σ H1 Q I1 q1
theorem Zl7 (ha : PT X a tA) : PT X (.UnaryOp .Not a pos) (tNot tA) := by
 intro pins s σ H Q I h
 exact isTrue_not (ha pins s σ H (fun c H1 => Q (!c) H1) I h)
def tOrV (ta tb : TE) : TE := fun σ H Q => ta σ H fun x H1 => ∃ c, x = .bl c /\ if c = true then Q (.bl true) H1 else tb σ H1 Q
theorem Zl8 {op} (h : PE X a t) : PE X (.BoolOp op [a] pos) t := fun pins s σ H Q I hw => BoolOp_one (h pins s σ H Q I hw)
theorem Znx (ha : PE X a ta) (hb : PE X (.BoolOp .Or (b :: rest) pos) tb) : PE X (.BoolOp .Or (a :: b :: rest) pos) (tOrV ta tb) := by
 intro pins s σ H Q I h
 refine BoolOp_or (thn (ha pins s σ H _ I h) fun v s1 z0 => ?_)
 obtain ⟨x, H1, I1, r1, q1⟩ := z0
 obtain ⟨c, rfl, q1⟩ := q1
 cases r1
 refine wpAny_truthy_bool ?_
 cases c with
 | false => exact hb pins s1 σ H1 Q I1 q1
 | true => exact ⟨.bl true, H1, I1, rfl, q1⟩
def tIf (t : TT) (ta tb : TE) : TE := fun σ H Q => t σ H fun c H1 => if c = true then ta σ H1 Q else tb σ H1 Q
theorem ZiF (hc : PT X c tA) (ha : PE X a ta) (hb : PE X b tb) : PE X (.IfExp c a b pos) (tIf tA ta tb) := by
 intro pins s σ H Q I h
 refine wpAny_IfExp (thn (hc pins s σ H _ I h) fun d s1 z0 => ?_)
 obtain ⟨H1, I1, q1⟩ := z0
 cases d with
 | true => exact ha pins s1 σ H1 Q I1 q1
 | false => exact hb pins s1 σ H1 Q I1 q1
end
end L2
namespace L2
open PySem PySem.Spec PyProof.Rows
def SqL (K : Fg) (H : Hp) (a : Addr) (xs : List V) : Prop :=
 Rd H a (.lst xs) \/
  ∃ (o : Obj) (its : Array Value) (n : Nat), K.lookup a = some o /\ o.cls = .type "list" /\ o.dict = none /\ o.data = .seq its n /\ its.size <= sizeLine /\ Vals xs its.toList
def SqT (K : Fg) (H : Hp) (a : Addr) (xs : List V) : Prop :=
 Rd H a (.tup xs) \/
  ∃ (o : Obj) (its : Array Value) (n : Nat), K.lookup a = some o /\ o.cls = .type "tuple" /\ o.data = .seq its n /\ its.size <= sizeLine /\ Vals xs its.toList
noncomputable def absV : Value -> Option V
 | .none => some .non
 | .bool b => some (.bl b)
 | .int i _ => some (.int i)
 | .str x _ => some (.str x)
 | .bytes b _ => some (.byt b)
 | .float b _ => some (.flt b)
 | .ref a => some (.ref a)
 | .type n => some (.ty n)
 | _ => none
theorem RelV.abs (r : RelV x u) : absV u = some x := by
 cases x with
 | non => cases r; rfl
 | bl _ => cases r; rfl
 | int _ => obtain ⟨t, rfl⟩ := r; rfl
 | str _ => obtain ⟨t, rfl⟩ := r; rfl
 | byt _ => obtain ⟨t, rfl⟩ := r; rfl
 | flt _ => obtain ⟨t, rfl⟩ := r; rfl
 | ref _ => cases r; rfl
 | ty _ => cases r; rfl
theorem RelV.inj (r : RelV x u) (q : RelV y u) : x = y := Option.some.inj (r.abs.symm.trans q.abs)
theorem Vals.inj : ∀ {xs ys : List V} {us : List Value}, Vals xs us -> Vals ys us -> xs = ys
 | _, _, _, .nil, .nil => rfl
 | _, _, _, .cons r t, .cons r' t' => by rw [r.inj r', Vals.inj t t']
section
variable {X : Cx} {pins : List (Addr × Obj)} {σ : St} {H : Hp} {s : Shared} {a : Addr} {xs ys : List V}
theorem Inv.list (I : Inv X pins σ H s) (h : SqL X.K H a xs) : ∃ its : List Value, Vals xs its /\ PlainL s.heap a its.toArray /\ xs.length <= sizeLine := by
 rcases h with h | ⟨o, its, n, hk, hc, hd, hs, hz, r⟩
 . obtain ⟨z, its, n, r, e⟩ := h.ok I.hok
   exact ⟨its, r, ⟨_, n, e, rfl, rfl, rfl⟩, z⟩
 . refine ⟨its.toList, r, ⟨o, n, I.kIn a o hk, hc, hd, by simpa using hs⟩, ?_⟩
   have e := r.length
   simp only [Array.length_toList] at e
   omega
theorem Inv.tuple (I : Inv X pins σ H s) (h : SqT X.K H a xs) : ∃ its : List Value, Vals xs its /\ IsTup s.heap a its.toArray /\ xs.length <= sizeLine := by
 rcases h with h | ⟨o, its, n, hk, hc, hs, hz, r⟩
 . obtain ⟨z, its, r, p⟩ := h.ok I.hok
   exact ⟨its, r, p, z⟩
 . refine ⟨its.toList, r, ⟨o, I.kIn a o hk, hc, n, by simpa using hs⟩, ?_⟩
   have e := r.length
   simp only [Array.length_toList] at e
   omega
theorem Inv.list_inj (I : Inv X pins σ H s) (h : SqL X.K H a xs) (h' : SqL X.K H a ys) : xs = ys := by
 obtain ⟨its, r, ⟨o, n, e, _, _, d⟩, _⟩ := I.list h
 obtain ⟨its', r', ⟨o', n', e', _, _, d'⟩, _⟩ := I.list h'
 rw [e] at e'; cases e'
 rw [d] at d'
 injection d' with d1 _
 have : its = its' := by simpa using congrArg Array.toList d1
 subst this
 exact r.inj r'
theorem Inv.tuple_inj (I : Inv X pins σ H s) (h : SqT X.K H a xs) (h' : SqT X.K H a ys) : xs = ys := by
 obtain ⟨its, r, ⟨o, e, _, n, d⟩, _⟩ := I.tuple h
 obtain ⟨its', r', ⟨o', e', _, n', d'⟩, _⟩ := I.tuple h'
 rw [e] at e'; cases e'
 rw [d] at d'
 injection d' with d1 _
 have : its = its' := by simpa using congrArg Array.toList d1
 subst this
 exact r.inj r'
end
noncomputable abbrev Cx.wish (X : Cx) (E : Value -> Shared -> Prop) : Cx := { X with xe := E }
noncomputable abbrev Cx.nox (X : Cx) : Cx := X.wish fun _ _ => False
theorem Cx.Ok.wish {X : Cx} (ok : X.Ok) (E : Value -> Shared -> Prop) : (X.wish E).Ok :=
 ⟨ok.mod, ok.kind, ok.glob, ok.blt, ok.above, ok.inj, ok.has, ok.cab, ok.hd, ok.frames, ok.stk, ok.exf, ok.bs, ok.bsz, ok.noex, ok.exfs, ok.funs, ok.frf⟩
theorem Cx.Ok.unwish {X : Cx} {E : Value -> Shared -> Prop} (ok : (X.wish E).Ok) : X.Ok :=
 ⟨ok.mod, ok.kind, ok.glob, ok.blt, ok.above, ok.inj, ok.has, ok.cab, ok.hd, ok.frames, ok.stk, ok.exf, ok.bs, ok.bsz, ok.noex, ok.exfs, ok.funs, ok.frf⟩
section
variable {X : Cx} {pins : List (Addr × Obj)} {σ : St} {H : Hp} {s : Shared} {E : Value -> Shared -> Prop}
theorem Inv.wish (I : Inv X pins σ H s) (E : Value -> Shared -> Prop) : Inv (X.wish E) pins σ H s := ⟨I.ok.wish E, I.os, I.bare, I.base, I.loc, I.cell, I.free, I.freeC, I.pin, I.hok, I.len⟩
theorem Inv.unwish (I : Inv (X.wish E) pins σ H s) : Inv X pins σ H s := ⟨I.ok.unwish, I.os, I.bare, I.base, I.loc, I.cell, I.free, I.freeC, I.pin, I.hok, I.len⟩
theorem SP.unwish (h : SP (X.wish E) pins D f s') : SP X pins D f s' := by
 cases f with
 | next => obtain ⟨σ', H', I, q⟩ := h; exact ⟨σ', H', I.unwish, q⟩
 | brk => obtain ⟨σ', H', I, q⟩ := h; exact ⟨σ', H', I.unwish, q⟩
 | cont => obtain ⟨σ', H', I, q⟩ := h; exact ⟨σ', H', I.unwish, q⟩
 | ret u => obtain ⟨v, σ', H', I, r, q⟩ := h; exact ⟨v, σ', H', I.unwish, r, q⟩
theorem PSs.nox {st : List Stmt} {t : TS} (h : PSs X.nox st t) : PSs X st t := fun pins s σ H D I hw =>
 wpAny_mono (h pins s σ H D (I.wish _) hw) (fun _ _ q => q.unwish) fun _ _ z => False.elim z
end
section
variable {X : Cx} {st : Stmt} {rest : List Stmt} {t u : TS} {e : Expr} {te : TE} {pos : Pos}
def Zny : TS := fun D σ H => D.nx σ H
def tSeq (t u : TS) : TS := fun D σ H => t { D with nx := u D } σ H
theorem Zkh : PSs X [] Zny := fun _ _ σ H _ I h => wpAny_execs_nil ⟨σ, H, I, h⟩
theorem ZiG (h1 : PS X st t) (h2 : PSs X rest u) : PSs X (st :: rest) (tSeq t u) := by
 intro pins s σ H D I h
 refine wpAny_execs_cons (thn (h1 pins s σ H { D with nx := u D } I h) fun f s1 q => ?_)
 cases f with
 | next =>
  obtain ⟨σ', H', I', q⟩ := q
  exact h2 pins s1 σ' H' D I' q
 | ret v => exact q
 | brk => exact q
 | cont => exact q
theorem Inv.quiet (I : Inv X pins σ H s) : interactive X.env = false := by simp [interactive, I.ok.kind]
def Znz (te : TE) : TS := fun D σ H => te σ H fun _ H1 => D.nx σ H1
theorem Zki (he : PE X e te) (hs : swapsWith e none pos.line X.env = pure false := by rfl) : PS X (.Expr e pos) (Znz te) := by
 intro pins s σ H D I h
 exact wpAny_Expr_any (thn (he pins s σ H _ I h) fun v s1 ⟨x, H1, I1, r1, q1⟩ => ⟨σ, H1, I1, q1⟩) I.quiet hs
def tRet (te : TE) : TS := fun D σ H => te σ H D.rt
theorem Zl9 (he : PE X e te) : PS X (.Return (some e) pos) (tRet te) := by
 intro pins s σ H D I h
 exact wpAny_Return_some (thn (he pins s σ H _ I h) fun v s1 ⟨x, H1, I1, r1, q1⟩ => ⟨x, σ, H1, I1, r1, q1⟩)
def tIfS (c : TT) (t u : TS) : TS := fun D σ H => c σ H fun b H1 => if b = true then t D σ H1 else u D σ H1
theorem Zn0 (hc : PT X c tc) (ha : PSs X a t) (hb : PSs X b u) : PS X (.If c a b pos) (tIfS tc t u) := by
 intro pins s σ H D I h
 refine wpAny_If (thn (hc pins s σ H _ I h) fun d s1 z0 => ?_)
 obtain ⟨H1, I1, q1⟩ := z0
 cases d with
 | true => exact ha pins s1 σ H1 D I1 q1
 | false => exact hb pins s1 σ H1 D I1 q1
end
abbrev TG := V -> St -> Hp -> (St -> Hp -> Prop) -> Prop
abbrev TGs := List V -> St -> Hp -> (St -> Hp -> Prop) -> Prop
def PG (X : Cx) (target : Expr) (t : TG) : Prop :=
 ∀ (pins : List (Addr × Obj)) (s : Shared) (σ : St) (H : Hp) (v : V) (u : Value) (Q : St -> Hp -> Prop), Inv X pins σ H s -> RelV v u -> t v σ H Q ->
  wpAny (model X.prog X.w) X.A (assign target X.env u) (fun _ s' => ∃ σ' H', Inv X pins σ' H' s' /\ Q σ' H') X.xe s
def PGs (X : Cx) (ts : List Expr) (t : TGs) : Prop :=
 ∀ (pins : List (Addr × Obj)) (s : Shared) (σ : St) (H : Hp) (vs : List V) (us : List Value) (Q : St -> Hp -> Prop), Inv X pins σ H s -> Vals vs us -> t vs σ H Q ->
  wpAny (model X.prog X.w) X.A (assignInOrder ((assignEach ts X.env).map (·.2)) us) (fun _ s' => ∃ σ' H', Inv X pins σ' H' s' /\ Q σ' H') X.xe s
abbrev TSet := V -> V -> V -> Hp -> (Hp -> Prop) -> Prop
def PSet (X : Cx) (t : TSet) : Prop :=
 ∀ (pins : List (Addr × Obj)) (s : Shared) (σ : St) (H : Hp) (o i v : V) (ov iv u : Value) (Q : Hp -> Prop), Inv X pins σ H s -> RelV o ov -> RelV i iv -> RelV v u -> t o i v H Q ->
  wpAny (model X.prog X.w) X.A (setItem ov iv u) (fun _ s' => ∃ H', Inv X pins σ H' s' /\ Q H') X.xe s
section
noncomputable def ZbM (i : Nat) : TG := fun v σ H Q => Q (σ.set i (some v)) H
theorem Zgt (hN : X.N.Nodup) (hi : X.N[i]? = some x) (hx : Loc X.env.scope x) (hf : X.fn x = true \/ X.env.scope.names.lookup x = some .local := by first | exact .inl rfl | exact .inr rfl | assumption) : PG X (.Name x pos) (ZbM i) := by
 intro pins s σ H v u Q I r h
 exact wpAny_assign_Name (Zd4 I hN hi hx r (fun s' I' => ⟨_, H, I', h⟩) hf)
noncomputable def gNil : TGs := fun vs σ H Q => vs = [] /\ Q σ H
noncomputable def ZjB (t : TG) (u : TGs) : TGs := fun vs σ H Q => ∃ v r, vs = v :: r /\ t v σ H fun σ' H' => u r σ' H' Q
theorem Zkj : PGs X [] gNil := by
 intro pins s σ H vs us Q I r h
 obtain ⟨e, h⟩ := h
 subst e
 cases r
 exact assignInOrder_nil ⟨σ, H, I, h⟩
theorem ZiH (h1 : PG X e t) (h2 : PGs X es u)
 (hs : (assignEach (e :: es) X.env).map (·.2) = assign e X.env :: (assignEach es X.env).map (·.2) := by rfl) : PGs X (e :: es) (ZjB t u) := by
 intro pins s σ H vs us Q I r h
 obtain ⟨v, vr, e1, h⟩ := h
 subst e1
 cases r with
 | cons r rr =>
  rw [hs]
  refine assignInOrder_cons (thn (h1 pins s σ H _ _ _ I r h) fun _ s1 z0 => ?_)
  obtain ⟨σ1, H1, I1, q1⟩ := z0
  exact h2 pins s1 σ1 H1 _ _ Q I1 rr q1
noncomputable def gTup (K : Fg) (n : Nat) (t : TGs) : TG := fun v σ H Q => ∃ a xs, v = .ref a /\ SqT K H a xs /\ xs.length = n /\ t xs σ H Q
theorem ZlA (hc : X.calm = true) (h : PGs X es t)
 (hn : (assignEach es X.env).length = n := by rfl) (hst : (assignEach es X.env).findIdx? (·.1) = none := by rfl) : PG X (.Tuple es k pos) (gTup X.K n t) := by
 intro pins s σ H v u Q I r hw
 obtain ⟨a, xs, e1, hq, hl, hw⟩ := hw
 subst e1
 cases r
 obtain ⟨its, rv, ht, hz⟩ := I.tuple hq
 refine assign_Tuple_tuple (I.ok.hd hc) ht (by simp [hn, <- hl, rv.length]) hst fun h' hx => ?_
 have I1 : Inv X pins σ H { s with heap := h' } := I.kept (t' := s.toks) fun b o e => hx b o (Nat.ne_of_lt (Heap.lt_size e)) e
 exact h pins _ σ H xs _ Q I1 (by simpa using rv) hw
noncomputable def gSub (to ti : TE) (t : TSet) : TG := fun v σ H Q => to σ H fun o H1 => ti σ H1 fun i H2 => t o i v H2 fun H3 => Q σ H3
theorem ZhC (ho : PE X o to) (hi : PE X i ti) (hs : PSet X t)
 (ha : ∀ v, assign (.Subscript o i pos) X.env v = (do
  let ov <- holding [v] (eval o X.env)
  let iv <- holding [v, ov] (eval i X.env)
  standAt pos
  holding [v, ov, iv] (setItem ov iv v)
  release [v, ov, iv] []) := by intro _; rfl) : PG X (.Subscript o i pos) (gSub to ti t) := by
 intro pins s σ H v u Q I r h
 rw [ha]
 refine wpAny_bind (wpAny_holding (thn (ho pins s σ H _ I h) fun ov s1 z0 => ?_))
 obtain ⟨x, H1, I1, r1, q1⟩ := z0
 refine wpAny_bind (wpAny_holding (thn (hi pins s1 σ H1 _ I1 q1) fun iv s2 z0 => ?_))
 obtain ⟨y, H2, I2, r2, q2⟩ := z0
 refine wpAny_bind (wpAny_standAt (wpAny_bind (wpAny_holding (thn (hs pins s2 σ H2 x y v ov iv u _ I2 r1 r2 r q2) fun _ s3 z0 => ?_))))
 obtain ⟨H3, I3, q3⟩ := z0
 exact wpAny_release ⟨σ, H3, I3, q3⟩
def tAsg (te : TE) (g : TG) : TS := fun D σ H => te σ H fun x H1 => g x σ H1 D.nx
theorem Zfe (he : PE X e te) (hg : PG X tg g) (hs : swapsWithSole [tg] e pos.line X.env = pure false := by rfl) (hw : swappedStores [tg] e X.env = pure none := by rfl)
 (h1 : (assignEach [tg] X.env).map (·.2) = [assign tg X.env] := by rfl) : PS X (.Assign [tg] e pos) (tAsg te g) := by
 intro pins s σ H D I h
 refine wpAny_Assign_stores (thn (he pins s σ H _ I h) fun v s1 z0 => ?_) hs hw
 obtain ⟨x, H1, I1, r1, q1⟩ := z0
 rw [h1]
 exact thn (hg pins s1 σ H1 x v _ I1 r1 q1) fun _ s2 q => q
theorem ZlB (hN : X.N.Nodup) (hi : X.N[i]? = some x) (hx : Loc X.env.scope x) (he : PE X e te) (hs : swapsWith e (some (.Name x pos')) pos.line X.env = pure false := by rfl) (hf : X.fn x = true \/ X.env.scope.names.lookup x = some .local := by first | exact .inl rfl | exact .inr rfl | assumption) :
 PS X (.Assign [.Name x pos'] e pos) (tAsg te (ZbM i)) := by
 intro pins s σ H D I h
 refine wpAny_Assign_Name (thn (he pins s σ H _ I h) fun v s1 z0 => ?_) hs
 obtain ⟨y, H1, I1, r1, q1⟩ := z0
 exact Zd4 I1 hN hi hx r1 (fun s2 I2 => ⟨_, H1, I2, q1⟩) hf
end
section
def ZlC (c : TT) (tb : TS) : TS := fun D σ H => ∃ W : Nat -> St -> Hp -> Prop, (∃ m, W m σ H) /\ ∀ m σ H, W m σ H ->
 c σ H fun b H1 => if b = true then ∃ N : St -> Hp -> Prop, (∀ σ' H', N σ' H' -> ∃ m', m' < m /\ W m' σ' H') /\ tb { D with nx := N, ct := N, bk := D.nx } σ H1 else D.nx σ H1
theorem ZiI (hp : PassesOwn (model X.prog X.w) X.A X.env X.xe) (hc : PT X c tc) (hb : PSs X body tb) : PS X (.While c body [] pos) (ZlC tc tb) := by
 intro pins s σ H D I h
 obtain ⟨W, ⟨m0, w0⟩, turn⟩ := h
 refine wpAny_While (codeAny_whileLoop (fun n s' => ∃ σ' H', Inv X pins σ' H' s' /\ W n σ' H') ?_ m0 ⟨σ, H, I, w0⟩)
 rintro n s1 ⟨σ1, H1, I1, w1⟩
 refine wpAny_passesOwn hp (thn (hc pins s1 σ1 H1 _ I1 (turn n σ1 H1 w1)) fun b s2 z0 => ?_)
 obtain ⟨H2, I2, q2⟩ := z0
 cases b with
 | true =>
  obtain ⟨N, hN, q2⟩ := q2
  rw [if_pos rfl]
  refine wpAny_passesOwn hp (thn (hb pins s2 σ1 H2 _ I2 q2) fun f s3 q3 => ?_)
  cases f with
  | next =>
   obtain ⟨σ3, H3, I3, n3⟩ := q3
   obtain ⟨m', hm, w3⟩ := hN σ3 H3 n3
   exact ⟨m', hm, σ3, H3, I3, w3⟩
  | cont =>
   obtain ⟨σ3, H3, I3, n3⟩ := q3
   obtain ⟨m', hm, w3⟩ := hN σ3 H3 n3
   exact ⟨m', hm, σ3, H3, I3, w3⟩
  | brk => exact q3
  | ret v => exact q3
 | false =>
  rw [if_neg Bool.false_ne_true]
  exact wpAny_execs_nil ⟨σ1, H2, I2, q2⟩
end
structure It where
 go : Nat -> Hp -> Prop
 yld : Nat -> Hp -> V -> Hp -> Prop
 stop : Nat -> Hp -> Prop
def FpOk (X : Cx) (pins : List (Addr × Obj)) (H : Hp) (b : Addr) : Prop :=
 H b = none /\ b ≠ X.env.locals /\ b ∉ X.fs /\ (b ∈ X.ex \/ X.s₀.heap.objs.size <= b) /\ (∀ x c, X.env.cells.lookup x = some c -> c ≠ b) /\ ∀ p ∈ X.pn ++ pins, p.1 ≠ b
theorem Inv.fpOk (I : Inv X pins σ H s) (hb : s.heap.objs.size <= b) (hn : H' b = none) : FpOk X pins H' b := by
 refine ⟨hn, Nat.ne_of_gt (Nat.lt_of_lt_of_le I.lt hb), I.nofs hb, .inr (Nat.le_trans I.sz hb), fun x c e z => ?_, fun p hp z => ?_⟩
 . obtain ⟨v, q⟩ := I.cell x c e
   exact absurd (Nat.lt_of_lt_of_le q.lt (by rw [z]; exact hb)) (Nat.lt_irrefl _)
 . exact absurd (Nat.lt_of_lt_of_le (Heap.lt_size (I.pin p hp).1) (by rw [z]; exact hb)) (Nat.lt_irrefl _)
structure Turn (P : Program) (w : World) (K : Fg) (tg : Expr) (J : It) (fp : List Addr) (it : Addr) (tn : Nat -> Heap -> Prop) : Prop where
 mem : it ∈ fp
 obj : ∀ i h, tn i h -> ∀ b ∈ fp, ∃ o, h.get? b = some o /\ ∀ v, o.data ≠ .cell v
 keep : ∀ i h h', tn i h -> (∀ b ∈ fp, ∀ o, h.get? b = some o -> h'.get? b = some o) -> tn i h'
 item : ∀ (X : Cx), X.prog = P -> X.w = w -> X.K = K -> X.calm = true -> ∀ (i : Nat) (pins : List (Addr × Obj)) (s : Shared) (σ : St) (H : Hp) (E : Value -> Shared -> Prop), Inv X pins σ H s -> (∀ b ∈ fp, FpOk X pins H b) -> tn i s.heap -> J.go i H ->
  wpAny (model P w) X.A (pyNext (.ref it)) (fun r s1 => ∃ u, r = some u /\
   wpAny (model P w) X.A (letOwnedTupleGo tg (.ref it) u) (fun _ s2 => ∃ x H', Inv X pins σ H' s2 /\ RelV x u /\ J.yld i H x H' /\ tn (i + 1) s2.heap /\ ∀ b ∈ fp, H' b = none) E s1) E s
 done : ∀ (X : Cx), X.prog = P -> X.w = w -> X.K = K -> X.calm = true -> ∀ (i : Nat) (pins : List (Addr × Obj)) (s : Shared) (σ : St) (H : Hp) (E : Value -> Shared -> Prop), Inv X pins σ H s -> (∀ b ∈ fp, FpOk X pins H b) -> tn i s.heap -> J.stop i H ->
  wpAny (model P w) X.A (pyNext (.ref it)) (fun r s1 => r = none /\ Inv X pins σ H s1) E s
 self : ∀ (A : Around) (i : Nat) (s : Shared) (Q : Value -> Shared -> Prop) (E : Value -> Shared -> Prop), tn i s.heap -> Q (.ref it) s -> wpAny (model P w) A (pyIter (.ref it)) Q E s
abbrev TI := St -> Hp -> (It -> Hp -> Prop) -> Prop
def PIE (X : Cx) (pins : List (Addr × Obj)) (σ : St) (tg : Expr) (R : It -> Hp -> Prop) (itv : Value) (s2 : Shared) : Prop :=
 ∃ (it : Addr) (fp : List Addr) (tn : Nat -> Heap -> Prop) (J : It) (H' : Hp), itv = .ref it /\ Inv X pins σ H' s2 /\ Turn X.prog X.w X.K tg J fp it tn /\ tn 0 s2.heap /\ (∀ b ∈ fp, FpOk X pins H' b) /\ R J H'
def PI (X : Cx) (tg iter : Expr) (wi : TI) : Prop :=
 ∀ (pins : List (Addr × Obj)) (s : Shared) (σ : St) (H : Hp) (R : It -> Hp -> Prop), Inv X pins σ H s -> wi σ H R ->
  wpAny (model X.prog X.w) X.A (eval iter X.env) (fun v s1 => wpAny (model X.prog X.w) X.A (pyIter v) (PIE X pins σ tg R) X.xe s1) X.xe s
theorem ZeO (ho : s.heap.get? it = some o) (hc : o.cls = .type n) (hd : o.data = .fields vs)
 (hn : ["enumerate", "zip", "dict_itemiterator", "dict_reverseitemiterator", "odict_iterator", "itertools.zip_longest", "itertools.pairwise"].contains n = false) (hQ : Q () s) : wpAny M A (letOwnedTupleGo tg (.ref it) u) Q E s := by
 unfold letOwnedTupleGo
 cases tg <;> first
  | exact wpAny_pure hQ
  | (cases u <;> first
   | exact wpAny_pure hQ
   | (refine wpAny_bind (wpAny_load ho ?_)
      rw [hc, hd]
      show wpAny M A (if (["enumerate", "zip", "dict_itemiterator", "dict_reverseitemiterator", "odict_iterator", "itertools.zip_longest", "itertools.pairwise"].contains n && vs[0]? == some (rawInt _)) = true then _ else _) Q E s
      rw [if_neg (by intro h; rw [hn, Bool.false_and] at h; cases h)]
      exact wpAny_pure hQ))
noncomputable def Itl (K : Fg) (a : Addr) : It :=
 ⟨fun i H => ∃ xs x, SqL K H a xs /\ xs[i]? = some x, fun i H x H' => H' = H /\ ∀ xs, SqL K H a xs -> xs[i]? = some x, fun i H => ∃ xs, SqL K H a xs /\ xs.length <= i⟩
noncomputable def Itt (K : Fg) (a : Addr) : It :=
 ⟨fun i H => ∃ xs x, SqT K H a xs /\ xs[i]? = some x, fun i H x H' => H' = H /\ ∀ xs, SqT K H a xs -> xs[i]? = some x, fun i H => ∃ xs, SqT K H a xs /\ xs.length <= i⟩
noncomputable def Itr (lo : Int) (n : Nat) : It := ⟨fun i _ => i < n, fun i H x H' => H' = H /\ x = .int (lo + i), fun i _ => n <= i⟩
theorem ZhD {P : Program} {w : World} {K : Fg} {tg : Expr} (a it : Addr) : Turn P w K tg (Itl K a) [it] it (fun i h => h.IsListIter it a i) where
 mem := by simp
 obj := fun i h st b hb => by
  have e : b = it := by simpa using hb
  subst e
  obtain ⟨o, e, c, d⟩ := st
  exact ⟨o, e, fun v z => by rw [d] at z; cases z⟩
 keep := fun i h h' st k => st.at fun o e => k it (by simp) o e
 item := by
  intro X hP hw hK hc i pins s σ H E I hf st hg
  subst hP hw hK
  obtain ⟨xs, x, hq, hx⟩ := hg
  obtain ⟨its, rv, p, hz⟩ := I.list hq
  obtain ⟨u, hu, ru⟩ := rv.get hx
  obtain ⟨f0, f1, f2, f3, f4, f5⟩ := hf it (by simp)
  refine wpAny_pyNext_list_item st p.isList (x := u) (by simpa using hu) fun h' st' sb => ?_
  have I1 : Inv X pins σ H { s with heap := h' } := I.turned (t' := s.toks) (fun b o hb e => (sb.2 b hb).trans e) f0 f1 f3 f4 f5
  obtain ⟨o, e, c, d⟩ := id st'
  exact ⟨u, rfl, ZeO (s := { s with heap := h' }) e c d (by decide) ⟨x, H, I1, ru, ⟨rfl, fun ys hy => by rw [I.list_inj hy hq]; exact hx⟩, st', fun b hb => (hf b hb).1⟩⟩
 done := by
  intro X hP hw hK hc i pins s σ H E I hf st hg
  subst hP hw hK
  obtain ⟨xs, hq, hx⟩ := hg
  obtain ⟨its, rv, p, hz⟩ := I.list hq
  obtain ⟨f0, f1, f2, f3, f4, f5⟩ := hf it (by simp)
  have hl := rv.length
  exact wpAny_pyNext_list_end (I.ok.hd hc) st p.isList (by simp; omega) fun h' eb => ⟨rfl, I.turned (t' := s.toks) (fun b o hb e => eb b o hb e) f0 f1 f3 f4 f5⟩
 self := fun _ _ _ _ _ st h => wpAny_pyIter_listiter st h
theorem ZgP {P : Program} {w : World} {K : Fg} {tg : Expr} (a it : Addr) : Turn P w K tg (Itt K a) [it] it (fun i h => h.IsTupleIter it a i) where
 mem := by simp
 obj := fun i h st b hb => by
  have e : b = it := by simpa using hb
  subst e
  obtain ⟨o, e, c, d⟩ := st
  exact ⟨o, e, fun v z => by rw [d] at z; cases z⟩
 keep := fun i h h' st k => st.at fun o e => k it (by simp) o e
 item := by
  intro X hP hw hK hc i pins s σ H E I hf st hg
  subst hP hw hK
  obtain ⟨xs, x, hq, hx⟩ := hg
  obtain ⟨its, rv, p, hz⟩ := I.tuple hq
  obtain ⟨u, hu, ru⟩ := rv.get hx
  obtain ⟨f0, f1, f2, f3, f4, f5⟩ := hf it (by simp)
  refine wpAny_pyNext_tuple_item st (show s.heap.IsTuple a its.toArray from p) (x := u) (by simpa using hu) fun h' st' sb => ?_
  have I1 : Inv X pins σ H { s with heap := h' } := I.turned (t' := s.toks) (fun b o hb e => (sb.2 b hb).trans e) f0 f1 f3 f4 f5
  obtain ⟨o, e, c, d⟩ := id st'
  exact ⟨u, rfl, ZeO (s := { s with heap := h' }) e c d (by decide) ⟨x, H, I1, ru, ⟨rfl, fun ys hy => by rw [I.tuple_inj hy hq]; exact hx⟩, st', fun b hb => (hf b hb).1⟩⟩
 done := by
  intro X hP hw hK hc i pins s σ H E I hf st hg
  subst hP hw hK
  obtain ⟨xs, hq, hx⟩ := hg
  obtain ⟨its, rv, p, hz⟩ := I.tuple hq
  obtain ⟨f0, f1, f2, f3, f4, f5⟩ := hf it (by simp)
  have hl := rv.length
  exact wpAny_pyNext_tuple_end (I.ok.hd hc) st (show s.heap.IsTuple a its.toArray from p) (by simp; omega) fun h' eb => ⟨rfl, I.turned (t' := s.toks) (fun b o hb e => eb b o hb e) f0 f1 f3 f4 f5⟩
 self := fun _ _ _ _ _ st h => wpAny_pyIter_tupleiter st h
theorem ZgQ {P : Program} {w : World} {K : Fg} {tg : Expr} (it : Addr) (lo : Int) (n : Nat) : Turn P w K tg (Itr lo n) [it] it (fun i h => IsRangeIter h it (lo + (i : Nat) * 1) ((n : Int) - (i : Nat)) 1) where
 mem := by simp
 obj := fun i h st b hb => by
  have e : b = it := by simpa using hb
  subst e
  exact ⟨_, st, fun v z => by
   have z' : Data.fields _ = Data.cell v := z
   cases z'⟩
 keep := fun i h h' st k => k it (by simp) _ st
 item := by
  intro X hP hw hK hc i pins s σ H E I hf st hg
  subst hP hw hK
  obtain ⟨f0, f1, f2, f3, f4, f5⟩ := hf it (by simp)
  have W := Walks.range (prog := X.prog) (w := X.w) (I.ok.hd hc) it lo 1 n
  refine W.item i s _ _ hg st fun v h' tk hv st' kk => ?_
  obtain ⟨t, rfl⟩ := hv
  have I1 : Inv X pins σ H { s with heap := h', toks := tk } := I.turned (fun b o hb e => kk b o (by simpa using hb) e) f0 f1 f3 f4 f5
  refine ⟨_, rfl, ZeO (s := { s with heap := h', toks := tk }) (n := "range_iterator") st' rfl rfl (by decide) ⟨.int (lo + i), H, I1, ⟨t, ?_⟩, ⟨rfl, rfl⟩, st', fun b hb => (hf b hb).1⟩⟩
  rw [Int.mul_one]
 done := by
  intro X hP hw hK hc i pins s σ H E I hf st hg
  subst hP hw hK
  obtain ⟨f0, f1, f2, f3, f4, f5⟩ := hf it (by simp)
  exact wpAny_pyNext_range_end (I.ok.hd hc) st (by have : n <= i := hg; omega) fun h' eb => ⟨rfl, I.turned (t' := s.toks) (fun b o hb e => eb b o hb e) f0 f1 f3 f4 f5⟩
 self := fun _ _ _ _ _ st h => wpAny_pyIter_rangeiter st h
end L2
namespace L2
open PySem PySem.Spec PyProof.Rows
section
variable {X : Cx} {tg : Expr}
noncomputable def Zn1 (K : Fg) (tl : TE) : TI := fun σ H R => tl σ H fun x H1 => ∃ a, x = .ref a /\ (∃ xs, SqL K H1 a xs) /\ R (Itl K a) H1
noncomputable def iTup (K : Fg) (tl : TE) : TI := fun σ H R => tl σ H fun x H1 => ∃ a, x = .ref a /\ (∃ xs, SqT K H1 a xs) /\ R (Itt K a) H1
theorem Zgu (hl : PE X l tl) : PI X tg l (Zn1 X.K tl) := by
 intro pins s σ H R I h
 refine thn (hl pins s σ H _ I h) fun v s1 z0 => ?_
 obtain ⟨x, H1, I1, r1, q1⟩ := z0
 obtain ⟨a, e, ⟨xs, hq⟩, q⟩ := q1
 subst e
 cases r1
 obtain ⟨its, rv, p, hz⟩ := I1.list hq
 refine wpAny_pyIter_list p.isList ?_
 refine ⟨s1.heap.objs.size, [s1.heap.objs.size], _, _, H1, rfl, I1.kept (t' := s1.toks) fun b o e => Heap.get?_push_of_some _ e, ZhD a _, ⟨_, Heap.get?_push_size _ rfl, rfl, rfl⟩, fun b hb => ?_, q⟩
 have e : b = s1.heap.objs.size := by simpa using hb
 subst e
 exact I1.fpOk (Nat.le_refl _) (I1.hok.fresh (Nat.le_refl _))
theorem ZhE (hl : PE X l tl) : PI X tg l (iTup X.K tl) := by
 intro pins s σ H R I h
 refine thn (hl pins s σ H _ I h) fun v s1 z0 => ?_
 obtain ⟨x, H1, I1, r1, q1⟩ := z0
 obtain ⟨a, e, ⟨xs, hq⟩, q⟩ := q1
 subst e
 cases r1
 obtain ⟨its, rv, p, hz⟩ := I1.tuple hq
 refine wpAny_pyIter_tuple (show s1.heap.IsTuple a its.toArray from p) ?_
 refine ⟨s1.heap.objs.size, [s1.heap.objs.size], _, _, H1, rfl, I1.kept (t' := s1.toks) fun b o e => Heap.get?_push_of_some _ e, ZgP a _, ⟨_, Heap.get?_push_size _ rfl, rfl, rfl⟩, fun b hb => ?_, q⟩
 have e : b = s1.heap.objs.size := by simpa using hb
 subst e
 exact I1.fpOk (Nat.le_refl _) (I1.hok.fresh (Nat.le_refl _))
theorem Zff {pins : List (Addr × Obj)} {σ : St} {H : Hp} {s : Shared} {R : It -> Hp -> Prop} {E : Value -> Shared -> Prop} {lo hi : Int} {t u v : Tok} {tk : Nat} (I : Inv X pins σ H s) (h1 : -(2 ^ 62) <= lo) (h2 : lo < 2 ^ 62) (h3 : -(2 ^ 62) <= hi) (h4 : hi < 2 ^ 62)
 (q : R (Itr lo (hi - lo).toNat) H) : wpAny (model X.prog X.w) X.A (pyIter (.ref s.heap.objs.size)) (PIE X pins σ tg R) E { s with heap := s.heap.push { cls := .type "range", data := .fields #[.int lo t, .int hi u, .int 1 v] }, toks := tk } := by
 refine wpAny_pyIter_range (IsRange.new ..) (small_one h1 h2 h3 h4) ?_
 have I1 : Inv X pins σ H { s with heap := s.heap.push { cls := .type "range", data := .fields #[.int lo t, .int hi u, .int 1 v] }, toks := tk } := I.kept fun b o e => Heap.get?_push_of_some _ e
 refine ⟨(s.heap.push { cls := .type "range", data := .fields #[.int lo t, .int hi u, .int 1 v] }).objs.size, [(s.heap.push { cls := .type "range", data := .fields #[.int lo t, .int hi u, .int 1 v] }).objs.size], _, _, H, rfl,
  I1.kept (t' := tk) fun b o e => Heap.get?_push_of_some _ e, ZgQ _ lo (hi - lo).toNat, ?_, fun b hb => ?_, q⟩
 . have e1 : lo + ((0 : Nat) : Int) * 1 = lo := by simp
   have e2 : (((hi - lo).toNat : Nat) : Int) - ((0 : Nat) : Int) = Builtin.Range.rangeSize lo hi 1 := by rw [rangeSize_one]; split <;> omega
   show IsRangeIter _ _ (lo + ((0 : Nat) : Int) * 1) ((((hi - lo).toNat : Nat) : Int) - ((0 : Nat) : Int)) 1
   rw [e1, e2]
   exact Heap.get?_push_size _ rfl
 . have e : b = (s.heap.push { cls := .type "range", data := .fields #[.int lo t, .int hi u, .int 1 v] }).objs.size := by simpa using hb
   subst e
   exact I1.fpOk (Nat.le_refl _) (I1.hok.fresh (Nat.le_refl _))
noncomputable def Zn2 (ta : TA) : TI := fun σ H R => ta σ H fun vs H1 => ∃ j : Int, vs = [.int j] /\ -(2 ^ 62) <= j /\ j < 2 ^ 62 /\ R (Itr 0 j.toNat) H1
noncomputable def Zn3 (ta : TA) : TI := fun σ H R => ta σ H fun vs H1 => ∃ i j : Int, vs = [.int i, .int j] /\ (-(2 ^ 62) <= i /\ i < 2 ^ 62 /\ -(2 ^ 62) <= j /\ j < 2 ^ 62) /\ R (Itr i (j - i).toNat) H1
theorem ZhF {a : Expr} {ta : TA} {p pos : Pos} (hg : Gl X "range") (hm : X.mg "range" = none) (ha : PA X [a] ta) (hs : starEach [a] X.env = [(false, eval a X.env)] := by rfl) : PI X tg (.Call (.Name "range" p) [a] [] pos) (Zn2 ta) := by
 intro pins s σ H R I h
 refine Call_ (ZcF I hg hm boot_range (PyProof.Rows.callWith_type1 (thn (ha pos pins s σ H _ I h) fun us s1 z0 => ?_) hs rfl))
 obtain ⟨vs, H1, I1, r1, q1⟩ := z0
 obtain ⟨j, e, q1, q2, q⟩ := q1
 subst e
 cases r1 with
 | cons r rr =>
  cases rr
  obtain ⟨t, rfl⟩ := r
  exact call_range_1 (Zff I1 (by omega) (by omega) q1 q2 (by simpa using q))
theorem ZhG (hg : Gl X "range") (hm : X.mg "range" = none) (ha : PA X [a, b] ta) (hs : starEach [a, b] X.env = [(false, eval a X.env), (false, eval b X.env)] := by rfl) (hs2 : starEach [b] X.env = [(false, eval b X.env)] := by rfl) :
 PI X tg (.Call (.Name "range" p) [a, b] [] pos) (Zn3 ta) := by
 intro pins s σ H R I h
 refine Call_ (ZcF I hg hm boot_range (PyProof.Rows.callWith_type1 (thn (ha pos pins s σ H _ I h) fun us s1 z0 => ?_) (by rw [hs, hs2]) (by rw [hs2]; rfl)))
 obtain ⟨vs, H1, I1, r1, q1⟩ := z0
 obtain ⟨i, j, e, ⟨q1, q2, q3, q4⟩, q⟩ := q1
 subst e
 cases r1 with
 | cons r rr =>
  cases rr with
  | cons r' rr =>
   cases rr
   obtain ⟨t, rfl⟩ := r
   obtain ⟨t', rfl⟩ := r'
   exact call_range_2 (Zff I1 q1 q2 q3 q4 q)
def tFor (wi : TI) (g : TG) (tb : TS) : TS := fun D σ H => wi σ H fun J H1 => ∃ W : Nat -> Nat -> St -> Hp -> Prop, (∃ m, W 0 m σ H1) /\ ∀ i m σ H, W i m σ H ->
 (J.stop i H /\ D.nx σ H) \/ (J.go i H /\ ∃ N : St -> Hp -> Prop, (∀ σ' H', N σ' H' -> ∃ m', m' < m /\ W (i + 1) m' σ' H') /\ ∀ x H', J.yld i H x H' -> g x σ H' fun σ2 H2 => tb { D with nx := N, ct := N, bk := D.nx } σ2 H2)
noncomputable def ZcG (fp : List Addr) (h : Heap) : List (Addr × Obj) := fp.filterMap fun b => (h.get? b).map fun o => (b, o)
theorem Zb0 (hb : b ∈ fp) (e : h.get? b = some o) : (b, o) ∈ ZcG fp h := List.mem_filterMap.mpr ⟨b, hb, by rw [e]; rfl⟩
theorem ZhH (hp : p ∈ ZcG fp h) : p.1 ∈ fp /\ h.get? p.1 = some p.2 := by
 obtain ⟨b, hb, e⟩ := List.mem_filterMap.mp hp
 cases q : h.get? b with
 | none => rw [q] at e; cases e
 | some o =>
  rw [q] at e
  have e' : (b, o) = p := Option.some.inj e
  subst e'
  exact ⟨hb, q⟩
theorem Inv.pinned (I : Inv X pins σ H s) (hf : ∀ b ∈ fp, FpOk X pins H b) (ho : ∀ b ∈ fp, ∃ o, s.heap.get? b = some o /\ ∀ v, o.data ≠ .cell v) : Inv X (pins ++ ZcG fp s.heap) σ H s :=
 I.pins_of fun p hp => (List.mem_append.mp hp).elim (fun z => I.pin p (List.mem_append_right _ z)) fun z => by
  obtain ⟨hb, e⟩ := ZhH z
  obtain ⟨f0, f1, f2, _⟩ := hf p.1 hb
  obtain ⟨o, e', d⟩ := ho p.1 hb
  rw [e] at e'; cases e'
  exact ⟨e, f0, f1, f2, d⟩
theorem Inv.unpinned (I : Inv X (pins ++ pl) σ H s) : Inv X pins σ H s := I.pins_of fun p hp => I.pin p (List.mem_append_right _ (List.mem_append_left _ hp))
theorem ZlD (hp : PassesOwn (model X.prog X.w) X.A X.env X.xe) (hc : X.calm = true) (hi : PI X tg iter wi) (hg : PG X tg g) (hb : PSs X body tb)
 (hs : ∀ x, foldedSetIterable iter X.env x = pure x := by intro _; rfl) : PS X (.For tg iter body [] pos) (tFor wi g tb) := by
 intro pins s σ H D I h
 refine wpAny_For (thn (hi pins s σ H _ I h) fun v s1 h1 => thn h1 fun itv s2 h2 => ?_) hs
 obtain ⟨it, fp, tn, J, H2, e, I2, T, st2, f2, W, ⟨m0, w0⟩, turn⟩ := h2
 subst e
 have stat : ∀ {H' : Hp}, (∀ b ∈ fp, H' b = none) -> ∀ b ∈ fp, FpOk X pins H' b := fun hn b hb => ⟨hn b hb, (f2 b hb).2⟩
 refine codeAny_forLoop_any (fun n s' => ∃ i σ' H', Inv X pins σ' H' s' /\ tn i s'.heap /\ (∀ b ∈ fp, H' b = none) /\ W i n σ' H') ?_ m0 ⟨0, σ, H2, I2, st2, fun b hb => (f2 b hb).1, w0⟩
 rintro n s3 ⟨i, σ3, H3, I3, st3, fr3, w3⟩
 rcases turn i n σ3 H3 w3 with ⟨stop, qn⟩ | ⟨go, N, hN, step⟩
 . refine wpAny_passesOwn hp (thn (T.done X rfl rfl rfl hc i pins s3 σ3 H3 X.xe I3 (stat fr3) st3 stop) fun r s4 z0 => ?_)
   obtain ⟨hr, I4⟩ := z0
   subst hr
   exact wpAny_execs_nil ⟨σ3, H3, I4, qn⟩
 . refine wpAny_passesOwn hp (thn (T.item X rfl rfl rfl hc i pins s3 σ3 H3 X.xe I3 (stat fr3) st3 go) fun r s4 z0 => ?_)
   obtain ⟨u, hr, h4⟩ := z0
   subst hr
   refine wpAny_passesOwn hp (thn h4 fun _ s5 z0 => ?_)
   obtain ⟨x, H5, I5, r5, y5, st5, fr5⟩ := z0
   have I5' := I5.pinned (stat fr5) (T.obj _ _ st5)
   refine wpAny_passesOwn hp (thn (hg _ s5 σ3 H5 x u _ I5' r5 (step x H5 y5)) fun _ s6 z0 => ?_)
   obtain ⟨σ6, H6, I6, q6⟩ := z0
   refine wpAny_passesOwn hp (thn (hb _ s6 σ6 H6 _ I6 q6) fun f s7 q7 => ?_)
   have again : ∀ {σ7 : St} {H7 : Hp}, Inv X (pins ++ ZcG fp s5.heap) σ7 H7 s7 -> N σ7 H7 -> ∃ m, m < n /\ ∃ i σ' H', Inv X pins σ' H' s7 /\ tn i s7.heap /\ (∀ b ∈ fp, H' b = none) /\ W i m σ' H' := fun {σ7 H7} I7 n7 => by
    obtain ⟨m', hm, w7⟩ := hN σ7 H7 n7
    refine ⟨m', hm, i + 1, σ7, H7, I7.unpinned, T.keep _ _ _ st5 fun b hb o e => (I7.pin (b, o) (List.mem_append_right _ (List.mem_append_right _ (Zb0 hb e)))).1, fun b hb => ?_, w7⟩
    obtain ⟨o, e, d⟩ := T.obj _ _ st5 b hb
    exact (I7.pin (b, o) (List.mem_append_right _ (List.mem_append_right _ (Zb0 hb e)))).2.1
   cases f with
   | next => obtain ⟨σ7, H7, I7, n7⟩ := q7; exact again I7 n7
   | cont => obtain ⟨σ7, H7, I7, n7⟩ := q7; exact again I7 n7
   | brk => obtain ⟨σ7, H7, I7, q7⟩ := q7; exact ⟨σ7, H7, I7.unpinned, q7⟩
   | ret v => obtain ⟨x7, σ7, H7, I7, r7, q7⟩ := q7; exact ⟨x7, σ7, H7, I7.unpinned, r7, q7⟩
end
end L2
namespace L2
open PySem PySem.Spec PyProof.Rows
abbrev R2 := V -> V -> Hp -> VK -> Prop
def OpR (X : Cx) (f : Value -> Value -> Sem Value) (r : R2) : Prop :=
 ∀ (pins : List (Addr × Obj)) (s : Shared) (σ : St) (H : Hp) (x y : V) (v u : Value) (Q : VK), Inv X pins σ H s -> RelV x v -> RelV y u -> r x y H Q ->
  wpAny (model X.prog X.w) X.A (f v u) (EP X pins σ Q) X.xe s
def ZG (X : Cx) (f : Value) (r : List V -> Hp -> VK -> Prop) : Prop :=
 ∀ (pins : List (Addr × Obj)) (s : Shared) (σ : St) (H : Hp) (xs : List V) (us : List Value) (Q : VK), Inv X pins σ H s -> Vals xs us -> r xs H Q ->
  wpAny (model X.prog X.w) X.A (call f us) (EP X pins σ Q) X.xe s
def TruR (X : Cx) (r : V -> Hp -> (Bool -> Hp -> Prop) -> Prop) : Prop :=
 ∀ (pins : List (Addr × Obj)) (s : Shared) (σ : St) (H : Hp) (x : V) (v : Value) (Q : Bool -> Hp -> Prop), Inv X pins σ H s -> RelV x v -> r x H Q ->
  wpAny (model X.prog X.w) X.A (truthy v) (TP X pins σ Q) X.xe s
def tOp (r : R2) (ta tb : TE) : TE := fun σ H Q => ta σ H fun x H1 => tb σ H1 fun y H2 => r x y H2 Q
def tUn (r : V -> Hp -> VK -> Prop) (ta : TE) : TE := fun σ H Q => ta σ H fun x H1 => r x H1 Q
def rI (C : Int -> Int -> Prop) (g : Int -> Int -> V) : R2 := fun x y H Q => ∃ i j, x = .int i /\ y = .int j /\ C i j /\ Q (g i j) H
def rI0 (g : Int -> Int -> V) : R2 := fun x y H Q => ∃ i j, x = .int i /\ y = .int j /\ Q (g i j) H
section
variable {X : Cx} {a b c : Expr} {ta tb tc : TE} {pos : Pos}
theorem binT (ha : PE X a ta) (hb : PE X b tb) {pins : List (Addr × Obj)} {s : Shared} {σ : St} {H : Hp} {R : V -> V -> Hp -> Prop} (I : Inv X pins σ H s)
 (h : ta σ H fun x H1 => tb σ H1 fun y H2 => R x y H2) {Q : Value -> Shared -> Prop} {f : Value -> Value -> Sem Value}
 (hf : ∀ v u s2 x y H2, Inv X pins σ H2 s2 -> RelV x v -> RelV y u -> R x y H2 -> wpAny (model X.prog X.w) X.A (f v u) Q X.xe s2) :
 wpAny (model X.prog X.w) X.A (eval a X.env) (fun v s₁ => wpAny (model X.prog X.w) X.A (eval b X.env) (fun u s₂ => wpAny (model X.prog X.w) X.A (f v u) Q X.xe s₂) X.xe s₁) X.xe s := by
 refine thn (ha pins s σ H _ I h) fun v s1 z0 => ?_
 obtain ⟨x, H1, I1, r1, q1⟩ := z0
 refine thn (hb pins s1 σ H1 _ I1 q1) fun u s2 z0 => ?_
 obtain ⟨y, H2, I2, r2, q2⟩ := z0
 exact hf v u s2 x y H2 I2 r1 r2 q2
theorem Zn4 {op : Operator} {r : R2} (ho : OpR X (binaryOp op) r) (ha : PE X a ta) (hb : PE X b tb) : PE X (.BinOp a op b pos) (tOp r ta tb) := by
 intro pins s σ H Q I h
 exact wpAny_BinOp (binT ha hb I h fun v u s2 x y H2 I2 rx ry q => ho pins s2 σ H2 x y v u Q I2 rx ry q)
theorem opI {f : Value -> Value -> Sem Value} {C : Int -> Int -> Prop} {g : Int -> Int -> Int}
 (rule : ∀ (i j : Int) (t u : Tok) (s : Shared) (Q : Value -> Shared -> Prop) (E : Value -> Shared -> Prop), C i j -> Q (.int (g i j) s.toks) { s with toks := s.toks + 1 } -> wpAny (model X.prog X.w) X.A (f (.int i t) (.int j u)) Q E s) :
 OpR X f (rI C fun i j => .int (g i j)) := by
 intro pins s σ H x y v u Q I rx ry h
 obtain ⟨i, j, rfl, rfl, hc, q⟩ := h
 obtain ⟨t, rfl⟩ := rx
 obtain ⟨t', rfl⟩ := ry
 exact rule i j t t' s _ _ hc ⟨.int (g i j), H, I.tok _, ⟨_, rfl⟩, q⟩
theorem opI0 {f : Value -> Value -> Sem Value} {g : Int -> Int -> Int}
 (rule : ∀ (i j : Int) (t u : Tok) (s : Shared) (Q : Value -> Shared -> Prop) (E : Value -> Shared -> Prop), Q (.int (g i j) s.toks) { s with toks := s.toks + 1 } -> wpAny (model X.prog X.w) X.A (f (.int i t) (.int j u)) Q E s) :
 OpR X f (rI0 fun i j => .int (g i j)) := by
 intro pins s σ H x y v u Q I rx ry h
 obtain ⟨i, j, rfl, rfl, q⟩ := h
 obtain ⟨t, rfl⟩ := rx
 obtain ⟨t', rfl⟩ := ry
 exact rule i j t t' s _ _ ⟨.int (g i j), H, I.tok _, ⟨_, rfl⟩, q⟩
theorem opB0 {f : Value -> Value -> Sem Value} {g : Int -> Int -> Bool}
 (rule : ∀ (i j : Int) (t u : Tok) (s : Shared) (Q : Value -> Shared -> Prop) (E : Value -> Shared -> Prop), Q (.bool (g i j)) s -> wpAny (model X.prog X.w) X.A (f (.int i t) (.int j u)) Q E s) :
 OpR X f (rI0 fun i j => .bl (g i j)) := by
 intro pins s σ H x y v u Q I rx ry h
 obtain ⟨i, j, rfl, rfl, q⟩ := h
 obtain ⟨t, rfl⟩ := rx
 obtain ⟨t', rfl⟩ := ry
 exact rule i j t t' s _ _ ⟨.bl (g i j), H, I, rfl, q⟩
def CPow (i j : Int) : Prop := 0 <= j /\ j <= 1000000 /\ i.natAbs < 2 ^ 64
def CMul (i j : Int) : Prop := (-(2 ^ 64) < i /\ i < 2 ^ 64) \/ (-(2 ^ 64) < j /\ j < 2 ^ 64)
theorem CMul.ok (h : CMul i j) : IntMulOk i j := by
 rcases h with ⟨h1, h2⟩ | ⟨h1, h2⟩
 . exact .of_left (intBits_le_64 h1 h2)
 . exact .of_right (intBits_le_64 h1 h2)
theorem ZlE : OpR X (binaryOp .Add) (rI0 fun i j => .int (i + j)) := opI0 fun _ _ _ _ _ _ _ q => add_int q
theorem ZlF : OpR X (binaryOp .Sub) (rI0 fun i j => .int (i - j)) := opI0 fun _ _ _ _ _ _ _ q => sub_int q
theorem ZlG : OpR X (binaryOp .Mult) (rI CMul fun i j => .int (i * j)) := opI fun _ _ _ _ _ _ _ hc q => mul_int q hc.ok
theorem ZlH : OpR X (binaryOp .Mod) (rI (fun _ j => 0 < j) fun i j => .int (i % j)) := opI fun i j _ _ _ _ _ hc q => by
 have h1 : (0 : Int) < j := hc
 exact mod_int' (by omega) (by rw [Int.fmod_eq_emod_of_nonneg i (by omega)]; exact q)
theorem ZlI : OpR X (binaryOp .Pow) (rI CPow fun i j => .int (i ^ j.toNat)) := opI fun _ _ _ _ _ _ _ hc q => pow_int_small hc.1 hc.2.1 hc.2.2 q
end
noncomputable def scal : V -> V -> Bool
 | .non, .non => true | .non, .int _ => true | .int _, .non => true | .non, .bl _ => true | .bl _, .non => true | .non, .str _ => true | .str _, .non => true
 | .int _, .int _ => true | .bl _, .bl _ => true | .str _, .str _ => true | .byt _, .byt _ => true
 | .int _, .str _ => true | .str _, .int _ => true | .bl _, .str _ => true | .str _, .bl _ => true
 | _, _ => false
def rEq : R2 := fun x y H Q => scal x y = true /\ Q (.bl (decide (x = y))) H
def rNe : R2 := fun x y H Q => scal x y = true /\ Q (.bl (!decide (x = y))) H
theorem Zgv : decide (V.int i = V.int j) = (i == j) := by
 rw [Bool.eq_iff_iff]
 simp
theorem ZhI : decide (V.bl i = V.bl j) = (i == j) := by
 rw [Bool.eq_iff_iff]
 simp
theorem Zgw : decide (V.str i = V.str j) = (i == j) := by
 rw [Bool.eq_iff_iff]
 simp
theorem Zgx : decide (V.byt i = V.byt j) = (i.toList == j.toList) := by
 rw [Bool.eq_iff_iff]
 cases i
 cases j
 simp
section
variable {X : Cx} {a b c : Expr} {ta tb tc : TE} {pos : Pos}
theorem Zw (I : Inv X pins σ H s) (q : Q (.bl k) H) (e : k = k') : EP X pins σ Q (.bool k') s := by
 subst e
 exact ⟨.bl k, H, I, rfl, q⟩
theorem Zn5 : OpR X (compareOp .Eq) rEq := by
 intro pins s σ H x y v u Q I rx ry h
 obtain ⟨hs, q⟩ := h
 cases x with
 | non =>
  cases rx
  cases y with
  | non => cases ry; exact PySem.EqNone.eq_none_none (Zw I q (by simp))
  | bl j => cases ry; exact PySem.EqNone.eq_none_bool (Zw I q (by simp))
  | int j => obtain ⟨t', rfl⟩ := ry; exact PySem.EqNone.eq_none_int (Zw I q (by simp))
  | str j => obtain ⟨t', rfl⟩ := ry; exact PySem.EqNone.eq_none_str (Zw I q (by simp))
  | _ => exact absurd (show false = true from hs) Bool.false_ne_true
 | bl i =>
  cases rx
  cases y with
  | non => cases ry; exact PySem.EqNone.eq_bool_none (Zw I q (by simp))
  | bl j => cases ry; exact eq_bool (Zw I q ZhI)
  | str j => obtain ⟨t', rfl⟩ := ry; exact PySem.EqMixed.eq_bool_str (Zw I q (by simp))
  | _ => exact absurd (show false = true from hs) Bool.false_ne_true
 | int i =>
  obtain ⟨t, rfl⟩ := rx
  cases y with
  | non => cases ry; exact PySem.EqNone.eq_int_none (Zw I q (by simp))
  | int j => obtain ⟨t', rfl⟩ := ry; exact eq_int (Zw I q Zgv)
  | str j => obtain ⟨t', rfl⟩ := ry; exact PySem.EqMixed.eq_int_str (Zw I q (by simp))
  | _ => exact absurd (show false = true from hs) Bool.false_ne_true
 | str i =>
  obtain ⟨t, rfl⟩ := rx
  cases y with
  | non => cases ry; exact PySem.EqNone.eq_str_none (Zw I q (by simp))
  | bl j => cases ry; exact PySem.EqMixed.eq_str_bool (Zw I q (by simp))
  | int j => obtain ⟨t', rfl⟩ := ry; exact PySem.EqMixed.eq_str_int (Zw I q (by simp))
  | str j => obtain ⟨t', rfl⟩ := ry; exact eq_str (Zw I q Zgw)
  | _ => exact absurd (show false = true from hs) Bool.false_ne_true
 | byt i =>
  obtain ⟨t, rfl⟩ := rx
  cases y with
  | byt j => obtain ⟨t', rfl⟩ := ry; exact PySem.W.eq_bytes (Zw I q Zgx)
  | _ => exact absurd (show false = true from hs) Bool.false_ne_true
 | _ => cases y <;> exact absurd (show false = true from hs) Bool.false_ne_true
theorem Zn6 : OpR X (compareOp .NotEq) rNe := by
 intro pins s σ H x y v u Q I rx ry h
 obtain ⟨hs, q⟩ := h
 cases x with
 | non =>
  cases rx
  cases y with
  | non => cases ry; exact PySem.EqNone.ne_none_none (Zw I q (by simp))
  | bl j => cases ry; exact PySem.EqNone.ne_none_bool (Zw I q (by simp))
  | int j => obtain ⟨t', rfl⟩ := ry; exact PySem.EqNone.ne_none_int (Zw I q (by simp))
  | str j => obtain ⟨t', rfl⟩ := ry; exact PySem.EqNone.ne_none_str (Zw I q (by simp))
  | _ => exact absurd (show false = true from hs) Bool.false_ne_true
 | bl i =>
  cases rx
  cases y with
  | non => cases ry; exact PySem.EqNone.ne_bool_none (Zw I q (by simp))
  | bl j => cases ry; exact ne_bool (Zw I q (congrArg not ZhI))
  | str j => obtain ⟨t', rfl⟩ := ry; exact PySem.EqMixed.ne_bool_str (Zw I q (by simp))
  | _ => exact absurd (show false = true from hs) Bool.false_ne_true
 | int i =>
  obtain ⟨t, rfl⟩ := rx
  cases y with
  | non => cases ry; exact PySem.EqNone.ne_int_none (Zw I q (by simp))
  | int j => obtain ⟨t', rfl⟩ := ry; exact ne_int (Zw I q (congrArg not Zgv))
  | str j => obtain ⟨t', rfl⟩ := ry; exact PySem.EqMixed.ne_int_str (Zw I q (by simp))
  | _ => exact absurd (show false = true from hs) Bool.false_ne_true
 | str i =>
  obtain ⟨t, rfl⟩ := rx
  cases y with
  | non => cases ry; exact PySem.EqNone.ne_str_none (Zw I q (by simp))
  | bl j => cases ry; exact PySem.EqMixed.ne_str_bool (Zw I q (by simp))
  | int j => obtain ⟨t', rfl⟩ := ry; exact PySem.EqMixed.ne_str_int (Zw I q (by simp))
  | str j => obtain ⟨t', rfl⟩ := ry; exact ne_str (Zw I q (congrArg not Zgw))
  | _ => exact absurd (show false = true from hs) Bool.false_ne_true
 | byt i =>
  obtain ⟨t, rfl⟩ := rx
  cases y with
  | byt j => obtain ⟨t', rfl⟩ := ry; exact PySem.W.ne_bytes (Zw I q (congrArg not Zgx))
  | _ => exact absurd (show false = true from hs) Bool.false_ne_true
 | _ => cases y <;> exact absurd (show false = true from hs) Bool.false_ne_true
theorem Zn7 : OpR X (compareOp .Lt) (rI0 fun i j => .bl (decide (i < j))) := opB0 fun _ _ _ _ _ _ _ q => lt_int q
theorem Zn8 : OpR X (compareOp .LtE) (rI0 fun i j => .bl (decide (i <= j))) := opB0 fun _ _ _ _ _ _ _ q => le_int q
theorem Zn9 : OpR X (compareOp .Gt) (rI0 fun i j => .bl (decide (j < i))) := opB0 fun _ _ _ _ _ _ _ q => gt_int q
theorem ZnA : OpR X (compareOp .GtE) (rI0 fun i j => .bl (decide (j <= i))) := opB0 fun _ _ _ _ _ _ _ q => ge_int q
theorem nomark (b : Expr) (h : op ≠ .In := by decide) (h2 : op ≠ .NotIn := by decide) : behindInMarks op b = false := by
 have e1 : (op == CmpOp.In) = false := by cases op <;> first | rfl | exact absurd rfl h
 have e2 : (op == CmpOp.NotIn) = false := by cases op <;> first | rfl | exact absurd rfl h2
 cases b <;> simp [behindInMarks, e1, e2]
theorem Zkk (ho : OpR X (compareOp op) r) (ha : PE X a ta) (hb : PE X b tb) (hm : behindInMarks op b = false) : PE X (.Compare a [op] [b] pos) (tOp r ta tb) := by
 intro pins s σ H Q I h
 exact wpAny_Compare1 (binT ha hb I h fun v u s2 x y H2 I2 rx ry q => ho pins s2 σ H2 x y v u Q I2 rx ry q) hm
def ZnB (t : TE) : TT := fun σ H Q => t σ H fun x H' => ∃ k, x = .bl k /\ Q k H'
theorem Zkl (ho : OpR X (compareOp op) r) (ha : PE X a ta) (hb : PE X b tb) (hm : behindInMarks op b = false) : PT X (.Compare a [op] [b] pos) (ZnB (tOp r ta tb)) := by
 intro pins s σ H Q I h
 refine wpAny_isTrue_Compare1 (thn (ha pins s σ H _ I h) fun v s1 ⟨x, H1, I1, r1, q1⟩ => thn (hb pins s1 σ H1 _ I1 q1) fun u s2 ⟨y, H2, I2, r2, q2⟩ =>
  thn (ho pins s2 σ H2 x y v u _ I2 r1 r2 q2) fun c s3 ⟨z, H3, I3, r3, k, e, q3⟩ => ?_) hm
 subst e
 cases r3
 exact wpAny_truthy_bool ⟨H3, I3, q3⟩
def TruV (K : Fg) (x : V) (H : Hp) (k : Bool) : Prop :=
 match x with
 | .non => k = false
 | .bl b => k = b
 | .int i => k = (i != 0)
 | .str y => y.length <= sizeLine /\ k = ((y.length : Int) != 0)
 | .byt y => y.size <= sizeLine /\ k = ((y.size : Int) != 0)
 | .ref p => (∃ xs, SqL K H p xs /\ k = !xs.isEmpty) \/ (∃ xs, SqT K H p xs /\ k = !xs.isEmpty) \/ ∃ kvs, H p = some (.dK kvs) /\ k = !kvs.isEmpty
 | _ => False
theorem ZgR (r : KV kvs vs) : (!vs.isEmpty) = !kvs.isEmpty := by
 cases r <;> rfl
theorem ZdB (r : Vals xs its) : (!its.toArray.isEmpty) = !xs.isEmpty := by
 cases r <;> simp
theorem ZbE : (sizeLine : Nat) < 2 ^ 63 := by rw [sizeLine_eq]; decide
theorem ZlJ : TruR X (fun x H Q => ∃ k, TruV X.K x H k /\ Q k H) := by
 intro pins s σ H x v Q I rx h
 obtain ⟨k, e, q⟩ := h
 have hl := ZbE
 have hs : sizeLine = 16777216 := sizeLine_eq
 cases x with
 | non =>
  cases rx
  have e' : k = false := e
  subst e'
  exact truthy_none ⟨H, I, q⟩
 | bl b =>
  cases rx
  have e' : k = b := e
  subst e'
  exact wpAny_truthy_bool ⟨H, I, q⟩
 | int i =>
  obtain ⟨t, rfl⟩ := rx
  have e' : k = (i != 0) := e
  subst e'
  exact PySem.P.truthy_int ⟨H, I, q⟩
 | str y =>
  obtain ⟨t, rfl⟩ := rx
  obtain ⟨hy, e'⟩ : y.length <= sizeLine /\ k = ((y.length : Int) != 0) := e
  subst e'
  exact PySem.P.truthy_str (by omega) ⟨H, I.tok _, q⟩
 | byt y =>
  obtain ⟨t, rfl⟩ := rx
  obtain ⟨hy, e'⟩ : y.size <= sizeLine /\ k = ((y.size : Int) != 0) := e
  subst e'
  exact PySem.W.truthy_bytes (by omega) ⟨H, I.tok _, q⟩
 | ref p =>
  cases rx
  have e' : (∃ xs, SqL X.K H p xs /\ k = !xs.isEmpty) \/ (∃ xs, SqT X.K H p xs /\ k = !xs.isEmpty) \/ ∃ kvs, H p = some (.dK kvs) /\ k = !kvs.isEmpty := e
  rcases e' with ⟨xs, hx, e'⟩ | ⟨xs, hx, e'⟩ | ⟨kvs, hx, e'⟩
  . subst e'
    obtain ⟨its, r, pl, hz⟩ := I.list hx
    have hlen := r.length
    exact wpAny_truthy_list pl.isList (by simp only [List.size_toArray]; omega) ⟨H, I.tok _, by rw [ZdB r]; exact q⟩
  . subst e'
    obtain ⟨its, r, pl, hz⟩ := I.tuple hx
    have hlen := r.length
    exact truthy_tuple pl (by simp only [List.size_toArray]; omega) ⟨H, I.tok _, by rw [ZdB r]; exact q⟩
  . subst e'
    obtain ⟨hz, hS, vs, r, m⟩ : kvs.length <= sizeLine /\ (p == sysModules) = false /\ ∃ vs, KV kvs vs /\ s.heap.DictOf (Zaw X.prog X.w) p vs := I.hok p _ hx
    have hlen : kvs.length = vs.length := Paired.length r
    exact wpAny_truthy_dict hS m (by omega) ⟨H, I.tok _, by rw [ZgR r]; exact q⟩
 | _ => exact (show False from e).elim
theorem ZiJ (ha : PE X a ta) (he : ∀ whole, isTrue a X.env whole = (do let v <- whole; standAt a.pos; holding [v] (truthy v))) :
 PT X a (fun σ H Q => ta σ H fun x H' => ∃ k, TruV X.K x H' k /\ Q k H') := by
 intro pins s σ H Q I h
 exact isTrue_plain (thn (ha pins s σ H _ I h) fun v s1 ⟨x, H1, I1, r1, q1⟩ => ZlJ pins s1 σ H1 x v Q I1 r1 q1) (he _)
theorem ZgS : OpR X (binaryOp .Add) (fun x y H Q => ∃ i j, x = .str i /\ y = .str j /\ i.length + j.length <= sizeLine /\ Q (.str (i ++ j)) H) := by
 intro pins s σ H x y v u Q I rx ry h
 obtain ⟨i, j, rfl, rfl, hz, q⟩ := h
 obtain ⟨t, rfl⟩ := rx
 obtain ⟨t', rfl⟩ := ry
 exact add_str (fun t' tk => ⟨.str (i ++ j), H, I.tok _, ⟨_, rfl⟩, q⟩) hz
theorem Zcs (r : Vals [x] us) : ∃ u, us = [u] /\ RelV x u := by
 cases r with
 | cons r1 r2 => cases r2; exact ⟨_, rfl, r1⟩
theorem ZnC (r : Vals [x, y] us) : ∃ u w', us = [u, w'] /\ RelV x u /\ RelV y w' := by
 cases r with
 | cons r1 r2 =>
  cases r2 with
  | cons r3 r4 => cases r4; exact ⟨_, _, rfl, r1, r3⟩
theorem ZhJ (hc : X.calm = true) : ZG X (.builtin "max") (fun xs H Q => ∃ i j, xs = [.int i, .int j] /\ Q (.int (if j > i then j else i)) H) := by
 intro pins s σ H xs us Q I r h
 obtain ⟨i, j, rfl, q⟩ := h
 obtain ⟨u, w', rfl, ⟨t, rfl⟩, ⟨t', rfl⟩⟩ := ZnC r
 refine max_two_ints (I.ok.hd hc) fun h' tk k => ⟨_, H, I.kept k, ?_, q⟩
 by_cases hj : j > i
 . rw [if_pos hj, if_pos hj]; exact ⟨_, rfl⟩
 . rw [if_neg hj, if_neg hj]; exact ⟨_, rfl⟩
theorem Zet : ZG X (.type "int") (fun xs H Q => (∃ i, xs = [.int i] /\ Q (.int i) H) \/ ∃ k, xs = [.bl k] /\ Q (.int (if k then 1 else 0)) H) := by
 intro pins s σ H xs us Q I r h
 rcases h with ⟨i, rfl, q⟩ | ⟨k, rfl, q⟩
 . obtain ⟨u, rfl, t, rfl⟩ := Zcs r
   exact call_int_int ⟨.int i, H, I, ⟨_, rfl⟩, q⟩
 . obtain ⟨u, rfl, r1⟩ := Zcs r
   cases r1
   exact call_int_bool ⟨.int (if k then 1 else 0), H, I.tok _, ⟨_, rfl⟩, q⟩
theorem Zfg : ZG X (.type "str") (fun xs H Q => ∃ i, xs = [.int i] /\ i.natAbs.log2 < 1920 /\ Q (.str (toString i)) H) := by
 intro pins s σ H xs us Q I r h
 obtain ⟨i, rfl, hz, q⟩ := h
 obtain ⟨u, rfl, t, rfl⟩ := Zcs r
 exact PySem.P.str_of_int hz ⟨.str _, H, I.tok _, ⟨_, rfl⟩, q⟩
end
end L2
namespace L2
open PySem PySem.Spec PyProof.Rows
structure ObjM (h : Heap) (x dx C : Addr) (mA : Str -> Option Value) : Prop where
 obj : h.get? x = some (PySem.W.instObj C dx)
 ns : h.Ns1 dx mA
 ne : dx ≠ x
theorem ZhK {h : Heap} {dx : Addr} {mA : Str -> Option Value} (n : h.Ns1 dx mA) : ∃ od, h.get? dx = some od /\ ∀ name, PySem.W.lookIn name od = some (mA name) := by
 obtain ⟨o, es, ep, ho, hd, hk, _, hm⟩ := n
 refine ⟨o, ho, fun name => ?_⟩
 have e := hm name
 unfold nsFind findBy at e
 rw [<- Array.find?_toList] at e
 unfold PySem.W.lookIn
 rw [hd]
 dsimp only
 split
 . rename_i y q
   rw [q] at e
   exact congrArg some e
 . rename_i q
   rw [q] at e
   have a : es.toList.any (·.refKey) = false := by
    rw [List.any_eq_false]
    intro y hy
    obtain ⟨z, t, hkey⟩ := hk y (Array.mem_toList_iff.mp hy)
    simp [DictEntry.refKey, hkey]
   have a' : ¬ es.toList.any (·.refKey) = true := by rw [a]; exact Bool.false_ne_true
   rw [if_neg a']
   exact congrArg some e
theorem ObjM.look (I : ObjM h x dx C mA) : ∃ od, PySem.W.InstAt h x (PySem.W.instObj C dx) C (some od) /\ ∀ name, PySem.W.lookIn name od = some (mA name) :=
 let ⟨od, ho, hl⟩ := ZhK I.ns
 ⟨od, ⟨I.obj, rfl, rfl, ho⟩, hl⟩
section
variable {prog : Program} {w : World} {A : Around} {E : Value -> Shared -> Prop} {s : Shared} {K : Fg} {x dx C f : Addr} {mA : Str -> Option Value} {name : Str} {v : Value}
theorem Zkm (X : K.In s.heap) (I : ObjM s.heap x dx C mA) (hg : PySem.W.plainGet K C name = true) (hh : PySem.W.hasDictIn K C = true)
 (ha : PySem.W.findIn K (.ref C) name = some none) (hv : mA name = some v) (hv' : PySem.W.handedIn v = true) (h : Q v { s with toks := s.toks + 1 }) :
 wpAny (model prog w) A (getAttr (.ref x) name expr) Q E s := by
 obtain ⟨od, J, hl⟩ := I.look
 exact PySem.W.get_value X J (PySem.W.plainGet_of hg).1 (PySem.W.findObj_own hh ha rfl (by rw [hl, hv])) hv' h
theorem ZiK (X : K.In s.heap) (I : ObjM s.heap x dx C mA) (hg : PySem.W.plainGet K C name = true)
 (hf : PySem.W.findIn K (.ref C) name = some (some (.ref f))) (ht : PySem.W.isFn K (.ref f) = true) (hv : mA name = none) (h : Q (.ref f, [.ref x]) s) :
 wpAny (model prog w) A (getMethod (.ref x) name pl) Q E s := by
 obtain ⟨od, J, hl⟩ := I.look
 exact PySem.W.method_fn X J (PySem.W.plainGet_of hg).1 (PySem.W.plainGet_of hg).2 hf (beq_iff_eq.mp ht) (by show (PySem.W.lookIn name od).map (·.isSome) = some false; rw [hl, hv]; rfl) h
theorem Zkn (X : K.In s.heap) (I : ObjM s.heap x dx C mA)
 (hs : PySem.W.findIn K (.ref C) "__setattr__" = some (some (.builtin "object.__setattr__"))) (hp : PySem.W.plainOver K C = true) (ht : PySem.W.takerIn K C name = some none) (hh : PySem.W.hasDictIn K C = true)
 (hw : PySem.Within mA ns) (hsz : ns.length <= sizeLine)
 (h : ∀ h', ObjM h' x dx C (fun y => if y = name then some v else mA y) -> Heap.SameBut dx s.heap h' -> Q () { s with heap := h', toks := s.toks + 2 }) :
 wpAny (model prog w) A (setAttr (.ref x) name v) Q E s := by
 obtain ⟨od, J, hl⟩ := I.look
 refine PySem.W.set_plain X J hs (PySem.W.osa_open (s := { s with toks := s.toks + 1 }) (r := none) X J hp ht fun b => ?_)
 obtain ⟨cd, hc, hd'⟩ := PySem.W.any_some hh
 have hx : s.heap.get? x = some ⟨.ref C, some dx, .plain, #[]⟩ := I.obj
 refine wpAny_bind (wpAny_pure (wpAny_bind (wpAny_bind (wpAny_loadPart hx (wpAny_bind (PySem.W.Looks.here (s := { s with toks := s.toks + 1 }) (PySem.W.looks_clsIn X hc) ?_))))))
 rw [hd']
 refine wpAny_pure (a := some dx) (wpAny_bind (wpAny_pure (wpAny_bind ?_)))
 refine wpAny_nsSet1 (s := { s with toks := s.toks + 1 }) I.ns fun h' hn2 hs2 => ?_
 obtain ⟨oD, esD, epD, hoD, hdD, hcD⟩ := hn2.count (PySem.Within.cons name v hw)
 refine wpAny_bind (wpAny_lookBehind hoD (by rw [hdD]; exact pastItsLine_dict (Nat.le_trans hcD (by rw [List.length_cons]; omega))) ?_)
 exact wpAny_pure (h _ ⟨(hs2.2 _ (Ne.symm I.ne)).trans I.obj, hn2, I.ne⟩ hs2)
theorem ZiL (X : K.In s.heap) (hm : PySem.W.makesIn K C = true)
 (hi : PySem.W.findIn K (.ref C) "__init__" = some (some (.ref f))) (hf : PySem.W.typeIn K (.ref f) = some (.type "function"))
 (h : codeAny (model prog w) (A.under (.builtin "type.__call__" ⟨.ref C :: vs, kw⟩)) (.call (.ref f) ⟨.ref (s.heap.objs.size + 1) :: vs, kw⟩) (PySem.W.InitBack (s.heap.objs.size + 1) R)
  { s with heap := (s.heap.push PySem.W.emptyDict).push (PySem.W.instObj C s.heap.objs.size) }) :
 codeAny (model prog w) A (.call (.ref C) ⟨vs, kw⟩) R s := by
 obtain ⟨hh, g, d, t, os⟩ := s
 exact PySem.W.make_core (PySem.W.makes_of X hm) (PySem.W.looks_findIn X hi) (fun self => PySem.W.bind_fn X self hf) (.inl rfl) h
end
noncomputable def putF (f : Str) (v : V) : List (Str × V) -> List (Str × V)
 | [] => [(f, v)]
 | (g, x) :: r => if g = f then (g, v) :: r else (g, x) :: putF f v r
theorem Zdx (f g : Str) (v : V) : ∀ fs : List (Str × V), (putF f v fs).lookup g = if g = f then some v else fs.lookup g
 | [] => by
  show List.lookup g [(f, v)] = _
  by_cases h : g = f
  . have hb : (g == f) = true := beq_iff_eq.mpr h
    simp only [List.lookup, hb, if_pos h]
  . have hb : (g == f) = false := beq_eq_false_iff_ne.mpr h
    simp only [List.lookup, hb, if_neg h]
 | (k, x) :: r => by
  have ih := Zdx f g v r
  rw [show putF f v ((k, x) :: r) = (if k = f then (k, v) :: r else (k, x) :: putF f v r) from rfl]
  by_cases hk : k = f
  . rw [if_pos hk]
    by_cases h : g = k
    . have hb : (g == k) = true := beq_iff_eq.mpr h
      simp only [List.lookup, hb, if_pos (h.trans hk)]
    . have hb : (g == k) = false := beq_eq_false_iff_ne.mpr h
      simp only [List.lookup, hb, if_neg (fun e : g = f => h (e.trans hk.symm))]
  . rw [if_neg hk]
    by_cases h : g = k
    . have hb : (g == k) = true := beq_iff_eq.mpr h
      simp only [List.lookup, hb, if_neg (fun e : g = f => hk (h.symm.trans e))]
    . have hb : (g == k) = false := beq_eq_false_iff_ne.mpr h
      simp only [List.lookup, hb]
      exact ih
theorem ZcH (f : Str) (v : V) : ∀ fs : List (Str × V), f ∈ (putF f v fs).map (·.1) /\ ∀ g, g ∈ fs.map (·.1) -> g ∈ (putF f v fs).map (·.1)
 | [] => ⟨by simp [putF], fun g h => by simp at h⟩
 | (k, x) :: r => by
  obtain ⟨i1, i2⟩ := ZcH f v r
  rw [show putF f v ((k, x) :: r) = (if k = f then (k, v) :: r else (k, x) :: putF f v r) from rfl]
  by_cases hk : k = f
  . rw [if_pos hk]
    subst hk
    exact ⟨by simp, fun g h => by simpa using h⟩
  . rw [if_neg hk]
    refine ⟨?_, fun g h => ?_⟩
    . rw [List.map_cons]
      exact List.mem_cons_of_mem _ i1
    . rw [List.map_cons] at h ⊢
      rcases List.mem_cons.mp h with e | e
      . exact List.mem_cons.mpr (.inl e)
      . exact List.mem_cons_of_mem _ (i2 g e)
theorem Zdy (f : Str) (v : V) : ∀ fs : List (Str × V), (putF f v fs).length <= fs.length + 1
 | [] => by simp [putF]
 | (k, x) :: r => by
  have ih := Zdy f v r
  rw [show putF f v ((k, x) :: r) = (if k = f then (k, v) :: r else (k, x) :: putF f v r) from rfl]
  by_cases hk : k = f
  . rw [if_pos hk, List.length_cons, List.length_cons]; omega
  . rw [if_neg hk, List.length_cons, List.length_cons]; omega
theorem RelO.some_of (r : RelO (some v) o) : ∃ u, o = some u /\ RelV v u := by
 cases o with
 | none => exact (show False from r).elim
 | some u => exact ⟨u, rfl, r⟩
theorem RelO.none_of (r : RelO none o) : o = none := by
 cases o with
 | none => rfl
 | some u => exact (show False from r).elim
theorem ZhL (r : RelV v u) : PySem.W.handedIn u = true := by
 cases v with
 | non => cases (show u = Value.none from r); rfl
 | bl b => cases (show u = Value.bool b from r); rfl
 | int i => obtain ⟨t, e⟩ := (show ∃ t, u = Value.int i t from r); cases e; rfl
 | str x => obtain ⟨t, e⟩ := (show ∃ t, u = Value.str x t from r); cases e; rfl
 | byt b => obtain ⟨t, e⟩ := (show ∃ t, u = Value.bytes b t from r); cases e; rfl
 | flt b => obtain ⟨t, e⟩ := (show ∃ t, u = Value.float b t from r); cases e; rfl
 | ref a => cases (show u = Value.ref a from r); rfl
 | ty n => cases (show u = Value.type n from r); rfl
section
theorem ZcZ (hok : HOk P w H h) (e : H a = some (.ins C dx fs)) : ∃ mA, ObjM h a dx C mA /\ (∀ f, RelO (fs.lookup f) (mA f)) /\ PySem.Within mA (fs.map (·.1)) /\ fs.length <= 1000 /\ H dx = some (.own a) := by
 obtain ⟨d, z, ne, ob, mA, n, r, q⟩ := (show Z6 P w H h a (.ins C dx fs) from hok a _ e)
 exact ⟨mA, ⟨ob, n, ne⟩, r, q, z, d⟩
end
structure Cls (K : Fg) (C : Addr) : Prop where
 pg : PySem.W.plainGet K C Str.empty = true
 hd : PySem.W.hasDictIn K C = true
 po : PySem.W.plainOver K C = true
 sa : PySem.W.findIn K (.ref C) "__setattr__" = some (some (.builtin "object.__setattr__"))
theorem Cls.get {K : Fg} {C : Addr} (c : Cls K C) (f : Str) : PySem.W.plainGet K C f = true := c.pg
def Zad (K : Fg) (C : Addr) (f : Str) : Prop := PySem.W.findIn K (.ref C) f = some none
theorem Zad.taker {K : Fg} {C : Addr} {f : Str} (n : Zad K C f) : PySem.W.takerIn K C f = some none := by
 unfold PySem.W.takerIn
 rw [show PySem.W.findIn K (.ref C) f = some none from n]
 rfl
structure Meth (K : Fg) (C : Addr) (m : Str) (f : Addr) : Prop where
 at_ : PySem.W.findIn K (.ref C) m = some (some (.ref f))
 fn : PySem.W.isFn K (.ref f) = true
 kp : PySem.W.keepIn K (.ref f) = true
section
theorem ZgT (I : Inv X pins σ H s) (e : H a = some (.ins C dx fs)) (c : Cls X.K C) (n : Zad X.K C f) (l : fs.lookup f = some v)
 (h : ∀ u s', Inv X pins σ H s' -> RelV v u -> Q u s') : wpAny (model X.prog X.w) A (getAttr (.ref a) f b) Q E s := by
 obtain ⟨mA, O, r, _, _, _⟩ := ZcZ I.hok e
 obtain ⟨u, hu, ru⟩ := RelO.some_of (v := v) (o := mA f) (by rw [<- l]; exact r f)
 exact Zkm I.kIn O (c.get f) c.hd n hu (ZhL ru) (h u _ (I.tok _) ru)
theorem ZdC (I : Inv X pins σ H s) (e : H a = some (.ins C dx fs)) (c : Cls X.K C) (k : Meth X.K C m g) (l : fs.lookup m = none)
 (h : Q (.ref g, [.ref a]) s) : wpAny (model X.prog X.w) A (getMethod (.ref a) m pl) Q E s := by
 obtain ⟨mA, O, r, _, _, _⟩ := ZcZ I.hok e
 have hn : mA m = none := RelO.none_of (by rw [<- l]; exact r m)
 exact ZiK I.kIn O (c.get m) k.at_ k.fn hn h
theorem ZgU (I : Inv X pins σ H s) (e : H a = some (.ins C dx fs)) (c : Cls X.K C) (n : Zad X.K C f) (hl : fs.length < 1000) (ry : RelV y u)
 (h : ∀ s', Inv X pins σ (upd H a (.ins C dx (putF f y fs))) s' -> Q () s') : wpAny (model X.prog X.w) A (setAttr (.ref a) f u) Q E s := by
 obtain ⟨mA, O, r, wi, _, ho⟩ := ZcZ I.hok e
 have hz : (fs.map (·.1)).length <= sizeLine := by rw [List.length_map, sizeLine_eq]; omega
 refine Zkn I.kIn O c.sa c.po n.taker c.hd wi hz fun h' O' sb => h _ ?_
 have hd : ∃ o, h'.get? dx = some o := let ⟨o, _, _, e', _⟩ := O'.ns; ⟨o, e'⟩
 refine I.write (x := a) (e := dx) (by rw [e]; exact True.intro) (.inr ho) (fun b q hb z => (sb.2 b hb).trans z) hd ?_
 refine ⟨by rw [Zm O.ne]; exact ho, ?_, O.ne, O'.obj, _, O'.ns, fun g => ?_, fun g hg => ?_⟩
 . have := Zdy f y fs; omega
 . show RelO ((putF f y fs).lookup g) (if g = f then some u else mA g)
   rw [Zdx]
   by_cases q : g = f
   . rw [if_pos q, if_pos q]; exact ry
   . rw [if_neg q, if_neg q]; exact r g
 . by_cases q : g = f
   . rw [q]; exact (ZcH f y fs).1
   . refine (ZcH f y fs).2 g (wi g fun z => hg ?_)
     show (if g = f then some u else mA g) = none
     rw [if_neg q]; exact z
theorem Inv.made (I : Inv X pins σ H s) : Inv X pins σ (upd (upd H s.heap.objs.size (.own (s.heap.objs.size + 1))) (s.heap.objs.size + 1) (.ins C s.heap.objs.size []))
 { s with heap := (s.heap.push PySem.W.emptyDict).push (PySem.W.instObj C s.heap.objs.size) } := by
 have e1 : (s.heap.push PySem.W.emptyDict).get? s.heap.objs.size = some PySem.W.emptyDict := Heap.get?_push_size s.heap rfl
 have e2 : ((s.heap.push PySem.W.emptyDict).push (PySem.W.instObj C s.heap.objs.size)).get? (s.heap.objs.size + 1) = some (PySem.W.instObj C s.heap.objs.size) := by
  have := Heap.get?_push_size (s.heap.push PySem.W.emptyDict) (o := PySem.W.instObj C s.heap.objs.size) rfl
  rwa [Heap.size_push] at this
 have e3 : (s.heap.push PySem.W.emptyDict).Ns s.heap.objs.size (fun _ => none) := ⟨PySem.W.emptyDict, #[], _, e1, rfl, (fun e he => absurd he (by simp)), fun _ => rfl⟩
 have I1 := I.laid (a := s.heap.objs.size) (o := .own (s.heap.objs.size + 1)) (h' := s.heap.push PySem.W.emptyDict) (t' := s.toks) (fun b u q => Heap.get?_push_of_some _ q) (Nat.le_refl _) ⟨_, e1⟩
 refine I1.laid (a := s.heap.objs.size + 1) (o := .ins C s.heap.objs.size []) (t' := s.toks) (fun b u q => Heap.get?_push_of_some _ q) (Nat.le_of_eq (Heap.size_push _ _)) ?_
 have ne : s.heap.objs.size ≠ s.heap.objs.size + 1 := Nat.ne_of_lt (Nat.lt_succ_self _)
 refine ⟨by rw [Zm ne, Zl], Nat.zero_le _, ne, e2, fun _ => none, (Heap.Ns1.of_empty e3).at fun o q => Heap.get?_push_of_some _ q, fun _ => True.intro, fun y hy => absurd rfl hy⟩
theorem Zko (hb : attributeBase e f env (eval e env) = eval e env)
 (h : wpAny (model prog w) A (eval e env) (fun o s₁ => wpAny (model prog w) A (getAttr o f true) Q E s₁) E s) : wpAny (model prog w) A (eval (.Attribute e f pos) env) Q E s :=
 Attribute_any_ h (by rw [arm_eval_Attribute, hb])
end
def tFld (K : Fg) (ta : TE) (f : Str) : TE := fun σ H Q => ta σ H fun x H1 => ∃ a C dx fs v, x = .ref a /\ H1 a = some (.ins C dx fs) /\ Cls K C /\ Zad K C f /\ fs.lookup f = some v /\ Q v H1
def sFld (K : Fg) (ta tv : TE) (f : Str) : TS := fun D σ H => tv σ H fun y H1 => ta σ H1 fun x H2 => ∃ a C dx fs, x = .ref a /\ H2 a = some (.ins C dx fs) /\ Cls K C /\ Zad K C f /\ fs.length < 1000 /\
 D.nx σ (upd H2 a (.ins C dx (putF f y fs)))
section
theorem ZlK (he : PE X e ta) (hb : attributeBase e f X.env (eval e X.env) = eval e X.env) : PE X (.Attribute e f pos) (tFld X.K ta f) := by
 intro pins s σ H Q I h
 refine Zko hb (thn (he pins s σ H _ I h) fun u s1 z0 => ?_)
 obtain ⟨x, H1, I1, rx, a, C, dx, fs, v, ex, ea, c, n, l, q⟩ := z0
 subst ex
 obtain rfl : u = Value.ref a := rx
 exact ZgT I1 ea c n l fun u' s2 I2 ru => ⟨v, H1, I2, ru, q⟩
theorem ZlL (ha : PE X o ta) (hv : PE X value tv) (hs : swapsWith value (some (.Attribute o f pos')) pos.line X.env = pure false) : PS X (.Assign [.Attribute o f pos'] value pos) (sFld X.K ta tv f) := by
 intro pins s σ H D I h
 refine plainObj_wpAny_Assign_Attribute (thn (hv pins s σ H _ I h) fun u s1 ⟨y, H1, I1, ry, q⟩ => thn (ha pins s1 σ H1 _ I1 q) fun ov s2 ⟨x, H2, I2, rx, a, C, dx, fs, ex, ea, c, n, l, q2⟩ => ?_) hs
 subst ex
 obtain rfl : ov = Value.ref a := rx
 exact ZgU I2 ea c n l ry fun s3 I3 => ⟨σ, _, I3, q2⟩
end
section
inductive TyOf (K : Fg) (H : Hp) : V -> Value -> Prop where
 | non : TyOf K H .non (.type "NoneType")
 | bl (x : Bool) : TyOf K H (.bl x) (.type "bool")
 | int (i : Int) : TyOf K H (.int i) (.type "int")
 | str (x : Str) : TyOf K H (.str x) (.type "str")
 | flt (x : UInt64) : TyOf K H (.flt x) (.type "float")
 | lst {a : Addr} {xs : List V} (e : H a = some (.lst xs)) : TyOf K H (.ref a) (.type "list")
 | frz {a : Addr} {o : Obj} {xs : List V} (e : H a = some (.frz o (.lst xs))) : TyOf K H (.ref a) (.type "list")
 | tup {a : Addr} {xs : List V} (e : H a = some (.tup xs)) : TyOf K H (.ref a) (.type "tuple")
 | dK {a : Addr} {kvs : List (Key × V)} (e : H a = some (.dK kvs)) : TyOf K H (.ref a) (.type "dict")
 | dT {a : Addr} {S : Addr -> Prop} {kvs : List ((Pl × Pl) × V)} (e : H a = some (.dT S kvs)) : TyOf K H (.ref a) (.type "dict")
 | ins {a C dx : Addr} {fs : List (Str × V)} (e : H a = some (.ins C dx fs)) (cl : Cls K C) (ha : PySem.W.findIn K (.ref C) "__class__" = some (some (.builtin "object.__class__")))
  (hn : PySem.W.specialIn K (.builtin "object.__class__") "__get__" = some (some (.builtin "getset_descriptor.__get__"))) (htk : PySem.W.takesIn K (.builtin "object.__class__") = some true)
  (hm : PySem.W.mroIn K C (.type "object") = some true) : TyOf K H (.ref a) (.ref C)
theorem ZhM (I : Inv X pins σ H s) (rx : RelV x u) (ty : TyOf X.K H x t) (e : PySem.W.kitOne X.K t c = some b) (h : ∀ tk, Q (.bool b) { s with toks := tk }) :
 wpAny (model X.prog X.w) A (call (.builtin "isinstance") [u, c]) Q E s := by
 cases ty with
 | non => cases (show u = Value.none from rx); exact PySem.W.kia_one PySem.W.kitx_none I.kIn True.intro e (fun z => nomatch z) h
 | bl y => cases (show u = Value.bool y from rx); exact PySem.W.kia_one PySem.W.kitx_bool I.kIn True.intro e (fun z => nomatch z) h
 | int i => obtain ⟨t, q⟩ := (show ∃ t, u = Value.int i t from rx); cases q; exact PySem.W.kia_one PySem.W.kitx_int I.kIn True.intro e (fun z => nomatch z) h
 | str y => obtain ⟨t, q⟩ := (show ∃ t, u = Value.str y t from rx); cases q; exact PySem.W.kia_one PySem.W.kitx_str I.kIn True.intro e (fun z => nomatch z) h
 | flt y => obtain ⟨t, q⟩ := (show ∃ t, u = Value.float y t from rx); cases q; exact PySem.W.kia_one PySem.W.kitx_float I.kIn True.intro e (fun z => nomatch z) h
 | @lst a xs ea =>
  cases (show u = Value.ref a from rx)
  obtain ⟨_, _, n, _, h1⟩ := (show Z6 X.prog X.w H s.heap a (.lst xs) from I.hok a _ ea)
  exact PySem.W.kia_one PySem.W.kitx_list I.kIn ⟨_, h1, rfl⟩ e (fun z => nomatch z) h
 | @frz a ob xs ea =>
  cases (show u = Value.ref a from rx)
  obtain ⟨_, _, _, n, _, h1⟩ := (show Z6 X.prog X.w H s.heap a (.frz ob (.lst xs)) from I.hok a _ ea)
  exact PySem.W.kia_one PySem.W.kitx_list I.kIn ⟨_, h1, rfl⟩ e (fun z => nomatch z) h
 | @tup a xs ea =>
  cases (show u = Value.ref a from rx)
  obtain ⟨_, _, _, p⟩ := (show Z6 X.prog X.w H s.heap a (.tup xs) from I.hok a _ ea)
  obtain ⟨o, h1, h2, _⟩ := p
  exact PySem.W.kia_one PySem.W.kitx_tuple I.kIn ⟨o, h1, h2⟩ e (fun z => nomatch z) h
 | @dK a kvs ea =>
  cases (show u = Value.ref a from rx)
  obtain ⟨_, _, vs, _, p⟩ := (show Z6 X.prog X.w H s.heap a (.dK kvs) from I.hok a _ ea)
  obtain ⟨o, es, ep, h1, h2, _⟩ := p
  exact PySem.W.kia_one PySem.W.kitx_dict I.kIn ⟨o, h1, h2.1⟩ e (fun z => nomatch z) h
 | @dT a S kvs ea =>
  cases (show u = Value.ref a from rx)
  obtain ⟨_, _, xs, _, o, es, ep, h1, h2, _⟩ := (show Z6 X.prog X.w H s.heap a (.dT S kvs) from I.hok a _ ea)
  exact PySem.W.kia_one PySem.W.kitx_dict I.kIn ⟨o, h1, h2.1⟩ e (fun z => nomatch z) h
 | @ins a C dx fs ea cl ha hn htk hm =>
  cases (show u = Value.ref a from rx)
  obtain ⟨mA, O, _⟩ := ZcZ I.hok ea
  obtain ⟨od, J, _⟩ := O.look
  exact PySem.W.kia_one (PySem.W.kitx_own (cl.get _) cl.hd ha hn htk hm) I.kIn J e (fun z => nomatch z) h
end
end L2
namespace L2
open PySem PySem.Spec PyProof.Rows
structure Room (k : Nat) (A : Around) : Prop where
 hd : A.handled = none
 dp : A.depth + 3 * k + 5 < recursionLimit
 un : A.units + 16 * k + 200 < cLine
theorem Room.mono (r : Room k A) (h : j <= k) : Room j A := ⟨r.hd, by have := r.dp; omega, by have := r.un; omega⟩
theorem Room.deeper (r : Room (k + 1) A) (env : Env) : Room k (A.deeper env) :=
 ⟨r.hd, by have := r.dp; show A.depth + 1 + 3 * k + 5 < _; omega, by have := r.un; show A.units + 3 + 16 * k + 200 < _; omega⟩
theorem ZgV {A : Around} {C : Addr} {us : List Value} {kw : List (Str × Value)} : (A.under (.builtin "type.__call__" ⟨.ref C :: us, kw⟩)).depth = A.depth + 1 := by
 first | rfl | simp [Around.under, Code.weight, Code.isCreation, Code.isGuard, Code.isCaller, Code.frames, Code.isFrame, guardIds]
theorem ZgW {A : Around} {C : Addr} {us : List Value} {kw : List (Str × Value)} : (A.under (.builtin "type.__call__" ⟨.ref C :: us, kw⟩)).units = A.units + 1 := by
 first | rfl | simp [Around.under, Code.cUnits, Code.frames, Code.isFrame]
theorem Room.make (r : Room (k + 1) A) (C : Addr) (us : List Value) (kw : List (Str × Value)) : Room k (A.under (.builtin "type.__call__" ⟨.ref C :: us, kw⟩)) :=
 ⟨r.hd, by have := r.dp; rw [ZgV]; omega, by have := r.un; rw [ZgW]; omega⟩
theorem Room.depth (r : Room k A) : A.depth < recursionLimit := by have := r.dp; omega
theorem Room.units (r : Room k A) : A.units + 64 < cLine := by have := r.un; omega
def tNil : TA := fun _ H Q => Q [] H
def ZnD (ta : TE) (tr : TA) : TA := fun σ H Q => ta σ H fun x H1 => tr σ H1 fun xs H2 => Q (x :: xs) H2
section
theorem Zcb : PA X [] tNil := fun _ _ _ _ H Q I h => Calls.spliced_nil ⟨[], H, I, .nil, h⟩
theorem ZaR (ha : PE X e te) (hr : PA X es t) (hs : starEach (e :: es) X.env = (false, eval e X.env) :: starEach es X.env := by rfl) : PA X (e :: es) (ZnD te t) := by
 intro pos pins s σ H Q I h
 rw [hs]
 show wpAny _ _ (spliced ((false, eval e X.env) :: backTo pos (starEach es X.env))) _ _ s
 refine Calls.spliced_cons (thn (ha pins s σ H _ I h) fun u s1 z0 => ?_)
 obtain ⟨x, H1, I1, r1, q1⟩ := z0
 exact thn (hr pos pins s1 σ H1 _ I1 q1) fun us s2 ⟨xs, H2, I2, r2, q2⟩ => ⟨x :: xs, H2, I2, .cons r1 r2, q2⟩
def tTup (t : TA) : TE := fun σ H Q => t σ H fun xs H1 => xs.length <= sizeLine /\ ∀ p, H1 p = none -> Q (.ref p) (upd H1 p (.tup xs))
def tLst (t : TA) : TE := fun σ H Q => t σ H fun xs H1 => xs.length <= sizeLine /\ ∀ p, H1 p = none -> Q (.ref p) (upd H1 p (.lst xs))
theorem ZlM {x1} (h : PA X es t) : PE X (.Tuple es x1 pos) (tTup t) := by
 intro pins s σ H Q I hq
 refine wpAny_Tuple_spliced (thn (h pos pins s σ H _ I hq) fun us s1 ⟨xs, H1, I1, r, z, q⟩ => ⟨by rw [<- r.length]; exact z, ?_⟩)
 have hf : H1 s1.heap.objs.size = none := I1.hok.fresh (Nat.le_refl _)
 refine ⟨.ref s1.heap.objs.size, upd H1 s1.heap.objs.size (.tup xs), I1.laid (t' := s1.toks) (fun b u e => Heap.get?_push_of_some _ e) (Nat.le_refl _) ?_, rfl, q _ hf⟩
 exact ⟨z, us, r, ⟨_, Heap.get?_push_size _ rfl, rfl, _, rfl⟩⟩
theorem ZhN (h : PA X es t) : PE X (.List es pos) (tLst t) := by
 intro pins s σ H Q I hq
 refine wpAny_List_spliced (thn (h pos pins s σ H _ I hq) fun us s1 ⟨xs, H1, I1, r, z, q⟩ => ⟨by rw [<- r.length]; exact z, ?_⟩)
 have hf : H1 s1.heap.objs.size = none := I1.hok.fresh (Nat.le_refl _)
 refine ⟨.ref s1.heap.objs.size, upd H1 s1.heap.objs.size (.lst xs), I1.laid (t' := s1.toks) (fun b u e => Heap.get?_push_of_some _ e) (Nat.le_refl _) ?_, rfl, q _ hf⟩
 exact ⟨z, us, 0, r, Heap.get?_push_size _ rfl⟩
end
abbrev Sp := List V -> Hp -> VK -> XK -> Prop
abbrev CXT := List Env -> Hp -> Shared -> XK -> Value -> Shared -> Prop
structure Env0 (P : Program) (w : World) (K : Fg) (mg : Str -> Option Value) (base : Heap) (A : Around) (outer : List Env) (s : Shared) (H : Hp) : Prop where
 frames : A.frames = some outer
 mod : Mod K mg base
 bs : ∀ b o, base.get? b = some o -> s.heap.get? b = some o /\ H b = none
 bsz : base.objs.size <= s.heap.objs.size
 funs : s.heap.FunFrames base outer
 frf : ∀ b ∈ frs outer, H b = none
 hok : HOk P w H s.heap
 bare : AllBare s.gens
def CE (outer : List Env) (P : Program) (w : World) (H : Hp) (s : Shared) (Q : VK) (u : Value) (s' : Shared) : Prop :=
 ∃ v H', s'.os = s.os /\ AllBare s'.gens /\ Un (frs outer) [] H H' s.heap s'.heap /\ HOk P w H' s'.heap /\ RelV v u /\ Q v H'
def CR (CX : CXT) (outer : List Env) (P : Program) (w : World) (H : Hp) (s : Shared) (Q : VK) (E : XK) (r : Result) (s' : Shared) : Prop :=
 match r with
 | .ok (.ret u) => CE outer P w H s Q u s'
 | .ok _ => False
 | .error e => CX outer H s E e s'
structure FnOk (P : Program) (w : World) (K : Fg) (mg : Str -> Option Value) (base : Heap) (CX : CXT) (k : Nat) (f : Addr) (fd : FuncData) (ps : List Str) (sp : Sp) : Prop where
 len : ∀ vs H Q E, sp vs H Q E -> vs.length = ps.length
 run : ∀ (A : Around) (outer : List Env) (s : Shared) (H : Hp) (args : Args) (us : List Value) (vs : List V) (Q : VK) (E : XK), Room k A -> Env0 P w K mg base A outer s H -> BindsTo s fd args (ps.zip us) -> Vals vs us -> sp vs H Q E ->
  codeAny (model P w) A (.call (.ref f) args) (CR CX outer P w H s Q E) s
theorem Env0.make {P : Program} {w : World} {K : Fg} {mg : Str -> Option Value} {base : Heap} {A : Around} {outer : List Env} {s : Shared} {H : Hp} (e : Env0 P w K mg base A outer s H) (C : Addr) (us : List Value) (kw : List (Str × Value)) :
 Env0 P w K mg base (A.under (.builtin "type.__call__" ⟨.ref C :: us, kw⟩)) outer s H := ⟨by first | exact e.frames | (simpa [Around.under, Code.envs, Code.isFrame, pushEnvs] using e.frames), e.mod, e.bs, e.bsz, e.funs, e.frf, e.hok, e.bare⟩
section
theorem Inv.env0 (I : Inv X pins σ H s) : Env0 X.prog X.w X.K X.mg X.base X.A X.stack s H :=
 ⟨I.ok.frames, I.ok.mod, I.bs, Nat.le_trans I.ok.bsz I.sz, I.stack, I.stkFree, I.hok, I.bare⟩
theorem Inv.after (I : Inv X pins σ H s) (h : CE X.stack X.prog X.w H s Q u s') : EP X pins σ Q u s' := by
 obtain ⟨v, H', os, bare, un, hok, r, q⟩ := h
 obtain ⟨hh, g, d, t, os'⟩ := s'
 obtain rfl : os' = s.os := os
 exact ⟨v, H', I.call (h' := hh) (g' := g) (d' := d) (t' := t) (ch := []) un hok bare (fun b z => absurd z (by simp)), r, q⟩
end
def ZjC (sp : Sp) (dvs : List V) (E : XK) (t : TA) : TE := fun σ H Q => t σ H fun vs H1 => sp (vs ++ dvs) H1 Q E
def ZeP (C : Addr) (m : Str) (sp : Sp) (dvs : List V) (E : XK) (ta : TE) (t : TA) : TE := fun σ H Q => ta σ H fun x H1 => ∃ a dx fs, x = .ref a /\ H1 a = some (.ins C dx fs) /\ fs.lookup m = none /\
 t σ H1 fun vs H2 => sp (x :: (vs ++ dvs)) H2 Q E
def ZjD (C : Addr) (sp : Sp) (dvs : List V) (E : XK) (t : TA) : TE := fun σ H Q => t σ H fun vs H1 => ∀ x dx, H1 x = none -> H1 dx = none -> dx ≠ x ->
 sp (.ref x :: (vs ++ dvs)) (upd (upd H1 dx (.own x)) x (.ins C dx [])) (fun v H2 => v = .non /\ Q (.ref x) H2) E
def Binds (K : Fg) (fd : FuncData) (ps : List Str) (ds : List Value) : Prop :=
 ∀ (s : Shared) (us : List Value), K.In s.heap -> (us ++ ds).length = ps.length -> BindsTo s fd ⟨us, []⟩ (ps.zip (us ++ ds))
theorem Binds.all {K : Fg} {fd : FuncData} {ps : List Str} (h : ∀ us : List Value, us.length = ps.length -> bindArgs fd ⟨us, []⟩ = pure (ps.zip us)) : Binds K fd ps [] := fun s us _ hl => by
 rw [List.append_nil] at hl ⊢
 exact .of_eq (h us hl)
def Passes (CX : CXT) (X : Cx) (E : XK) : Prop := ∀ (pins : List (Addr × Obj)) (σ : St) (H : Hp) (s : Shared) (e : Value) (s' : Shared), Inv X pins σ H s -> CX X.stack H s E e s' -> X.xe e s'
section
theorem Zfh (F : FnOk X.prog X.w X.K X.mg X.base CX k f fd ps sp) (hr : Room k X.A) (hb : Binds X.K fd ps ds) (hd : Vals dvs ds) (hx : Passes CX X E)
 (I : Inv X pins σ H s) (r : Vals vs us) (h : sp (vs ++ dvs) H Q E) : wpAny (model X.prog X.w) X.A (call (.ref f) us) (EP X pins σ Q) X.xe s := by
 have r2 : Vals (vs ++ dvs) (us ++ ds) := r.append hd
 have hl : (us ++ ds).length = ps.length := by rw [<- r2.length]; exact F.len _ _ _ _ h
 refine wpAny_call (codeAny_mono (F.run X.A X.stack s H ⟨us, []⟩ (us ++ ds) (vs ++ dvs) Q E hr I.env0 (hb s us I.kIn hl) r2 h) fun r s' hq => ?_)
 cases r with
 | error e => exact hx pins σ H s e s' I hq
 | ok fl =>
  cases fl with
  | ret u => exact I.after hq
  | next => exact False.elim hq
  | brk => exact False.elim hq
  | cont => exact False.elim hq
theorem Zkp (F : FnOk X.prog X.w X.K X.mg X.base CX k f fd ps sp) (hr : Room k X.A) (hg : Gl X x) (hm : X.mg x = some (.ref f)) (hk : PySem.W.keepIn X.K (.ref f) = true) (hb : Binds X.K fd ps ds) (hd : Vals dvs ds) (hx : Passes CX X E)
 (ha : PA X (e :: es) t) (hdb : (x == ("__debug__" : Str)) = false := by decide) (he : starEach (e :: es) X.env = (false, eval e X.env) :: starEach es X.env := by rfl) (hpl : (backTo pos (starEach es X.env)).any (·.1) = false := by rfl) :
 PE X (.Call (.Name x p) (e :: es) [] pos) (ZjC sp dvs E t) := by
 intro pins s σ H Q I h
 refine wpAny_Call_Name_kw (Zea I hg hm ?_ hdb)
 refine PySem.W.callWith_K (h₀ := X.base) I.ok.mod.kin hk (thn (ha pos pins s σ H _ I h) fun us s1 ⟨vs, H1, I1, r, q⟩ => ⟨I1.kIn, ?_⟩) he hpl
 exact Zfh F hr hb hd hx I1 r q
theorem Zkq (he : PE X o ta) (c : Cls X.K C) (hm : Meth X.K C m f) (F : FnOk X.prog X.w X.K X.mg X.base CX k f fd ps sp) (hr : Room k X.A) (hb : Binds X.K fd ps ds) (hd : Vals dvs ds) (hx : Passes CX X E) (ha : PA X (e :: es) t)
 (hst : starEach (e :: es) X.env = (false, eval e X.env) :: starEach es X.env := by rfl) (hpl : (backTo pos (starEach es X.env)).any (·.1) = false := by rfl)
 (ht : eval (.Call (.Attribute o m apos) (e :: es) [] pos) X.env = (do
  let ov <- eval o X.env
  standAt apos.atName
  let (f, first) <- holding [ov] (getMethod ov m pl)
  callWith pos f first (backTo pos (starEach (e :: es) X.env)) (backToKw pos (keywordEach [] X.env))) := by rfl) :
 PE X (.Call (.Attribute o m apos) (e :: es) [] pos) (ZeP C m sp dvs E ta t) := by
 intro pins s σ H Q I h
 refine PySem.W.methodCall_KW (pl := pl) (thn (he pins s σ H _ I h) fun u s1 z0 => ?_) ht
 obtain ⟨x, H1, I1, rx, a, dx, fs, ex, ea, l, q⟩ := z0
 subst ex
 obtain rfl : u = Value.ref a := rx
 refine ZdC I1 ea c hm l ?_
 refine PySem.W.callWith_K (first := [.ref a]) (h₀ := X.base) I.ok.mod.kin hm.kp (thn (ha pos pins s1 σ H1 _ I1 q) fun us s2 ⟨vs, H2, I2, r, q2⟩ => ⟨I2.kIn, ?_⟩) hst hpl
 exact Zfh (us := .ref a :: us) (vs := .ref a :: vs) F hr hb hd hx I2 (.cons rfl r) q2
theorem ZiM (he : PE X o ta) (c : Cls X.K C) (hm : Meth X.K C m f) (F : FnOk X.prog X.w X.K X.mg X.base CX k f fd ps sp) (hr : Room k X.A) (hb : Binds X.K fd ps ds) (hd : Vals dvs ds) (hx : Passes CX X E)
 (ht : eval (.Call (.Attribute o m apos) [] [] pos) X.env = (do
  let ov <- eval o X.env
  standAt apos.atName
  let (f, first) <- holding [ov] (getMethod ov m pl)
  callWith pos f first (backTo pos (starEach [] X.env)) (backToKw pos (keywordEach [] X.env))) := by rfl) :
 PE X (.Call (.Attribute o m apos) [] [] pos) (ZeP C m sp dvs E ta tNil) := by
 intro pins s σ H Q I h
 refine PySem.W.methodCall_KW (pl := pl) (thn (he pins s σ H _ I h) fun u s1 z0 => ?_) ht
 obtain ⟨x, H1, I1, rx, a, dx, fs, ex, ea, l, q⟩ := z0
 subst ex
 obtain rfl : u = Value.ref a := rx
 refine ZdC I1 ea c hm l ?_
 exact PySem.W.callWith_K0 (first := [.ref a]) I1.kIn hm.kp (Zfh (us := [.ref a]) (vs := [.ref a]) F hr hb hd hx I1 (.cons rfl .nil) q)
structure Mk (K : Fg) (C f : Addr) : Prop where
 makes : PySem.W.makesIn K C = true
 init : PySem.W.findIn K (.ref C) "__init__" = some (some (.ref f))
 fn : PySem.W.isFn K (.ref f) = true
 kp : PySem.W.keepIn K (.ref C) = true
theorem ZiN (M : Mk X.K C f) (F : FnOk X.prog X.w X.K X.mg X.base CX k f fd ps sp) (hr : Room (k + 1) X.A) (hb : Binds X.K fd ps ds) (hd : Vals dvs ds)
 (hx : Passes CX X E) (I : Inv X pins σ H s) (r : Vals vs us)
 (h : ∀ x dx, H x = none -> H dx = none -> dx ≠ x -> sp (.ref x :: (vs ++ dvs)) (upd (upd H dx (.own x)) x (.ins C dx [])) (fun v H2 => v = .non /\ Q (.ref x) H2) E) :
 wpAny (model X.prog X.w) X.A (call (.ref C) us) (EP X pins σ Q) X.xe s := by
 have hq := h (s.heap.objs.size + 1) s.heap.objs.size (I.hok.fresh (Nat.le_succ _)) (I.hok.fresh (Nat.le_refl _)) (Nat.ne_of_lt (Nat.lt_succ_self _))
 have I2 := Inv.made (C := C) I
 have r2 : Vals (V.ref (s.heap.objs.size + 1) :: (vs ++ dvs)) (Value.ref (s.heap.objs.size + 1) :: (us ++ ds)) := .cons rfl (r.append hd)
 have hl : (Value.ref (s.heap.objs.size + 1) :: us ++ ds).length = ps.length := by
  have e := r2.length
  rw [F.len _ _ _ _ hq] at e
  exact e.symm
 refine wpAny_call (ZiL (f := f) I.kIn M.makes M.init (beq_iff_eq.mp M.fn) (codeAny_mono (F.run _ X.stack _ _ ⟨Value.ref (s.heap.objs.size + 1) :: us, []⟩ (Value.ref (s.heap.objs.size + 1) :: (us ++ ds)) _ _ E (hr.make C us [])
  (I2.env0.make C us []) (hb _ (Value.ref (s.heap.objs.size + 1) :: us) I2.kIn hl) r2 hq) fun r s' hq' => ?_))
 cases r with
 | error e => exact hx pins σ _ _ e s' I2 hq'
 | ok fl =>
  cases fl with
  | ret u =>
   obtain ⟨v, H', I3, rv, ev, q3⟩ := I2.after hq'
   subst ev
   exact ⟨rv, ⟨V.ref (s.heap.objs.size + 1), H', I3, rfl, q3⟩⟩
  | next => exact False.elim hq'
  | brk => exact False.elim hq'
  | cont => exact False.elim hq'
theorem Zkr (M : Mk X.K C f) (F : FnOk X.prog X.w X.K X.mg X.base CX k f fd ps sp) (hr : Room (k + 1) X.A) (hg : Gl X x) (hm : X.mg x = some (.ref C)) (hb : Binds X.K fd ps ds) (hd : Vals dvs ds) (hx : Passes CX X E)
 (ha : PA X (e :: es) t) (hdb : (x == ("__debug__" : Str)) = false := by decide) (he : starEach (e :: es) X.env = (false, eval e X.env) :: starEach es X.env := by rfl) (hpl : (backTo pos (starEach es X.env)).any (·.1) = false := by rfl) :
 PE X (.Call (.Name x p) (e :: es) [] pos) (ZjD C sp dvs E t) := by
 intro pins s σ H Q I h
 refine wpAny_Call_Name_kw (Zea I hg hm ?_ hdb)
 refine PySem.W.callWith_K (h₀ := X.base) I.ok.mod.kin M.kp (thn (ha pos pins s σ H _ I h) fun us s1 ⟨vs, H1, I1, r, q⟩ => ⟨I1.kIn, ?_⟩) he hpl
 exact ZiN M F hr hb hd hx I1 r q
end
structure FnScope (N P : List Str) (sc : Scope) : Prop where
 kind : sc.kind = .function
 co : sc.isCoroutine = false
 gen : sc.isGenerator = false
 nd : N.Nodup
 pre : N.take P.length = P
 par : ∀ x ∈ P, sc.names.lookup x = some .local \/ sc.names.lookup x = some .cell
 nofree : ∀ y ∈ sc.names, y.2 ≠ .free
theorem Zeu {kindOf : Str -> Option NameKind} {x : Str} : ∀ {binds : List (Str × Value)} {m : Str -> Option Value}, (∀ v, (x, v) ∉ binds) -> bindL kindOf binds m x = m x
 | [], _, _ => rfl
 | (n, v) :: r, m, h => by
  unfold bindL
  rw [Zeu fun w hw => h w (List.mem_cons_of_mem _ hw)]
  split
  . have : x ≠ n := by rintro rfl; exact h v List.mem_cons_self
    simp [this]
  . rfl
theorem Zev {kindOf : Str -> Option NameKind} {x : Str} : ∀ {binds : List (Str × Value)} {m : Str -> Option Value}, (∀ v, (x, v) ∉ binds) -> bindC kindOf binds m x = m x
 | [], _, _ => rfl
 | (n, v) :: r, m, h => by
  unfold bindC
  rw [Zev fun w hw => h w (List.mem_cons_of_mem _ hw)]
  split
  . rfl
  . have : x ≠ n := by rintro rfl; exact h v List.mem_cons_self
    simp [this]
theorem Zew {kindOf : Str -> Option NameKind} {x : Str} {v : Value} : ∀ {P : List Str} {vs : List Value} {i : Nat} {m : Str -> Option Value}, P.Nodup -> P[i]? = some x -> vs[i]? = some v -> kindOf x = some .local ->
 bindL kindOf (P.zip vs) m x = some v
 | [], _, _, _, _, h, _, _ => by simp at h
 | _ :: _, [], _, _, _, _, h, _ => by simp at h
 | p :: P, w :: vs, 0, m, nd, h1, h2, hk => by
  simp at h1 h2; subst h1; subst h2
  show bindL kindOf ((p, w) :: P.zip vs) m p = _
  unfold bindL
  rw [Zeu fun v hv => (List.nodup_cons.mp nd).1 (List.of_mem_zip hv).1, if_pos hk]
  simp
 | p :: P, w :: vs, i + 1, m, nd, h1, h2, hk => by
  show bindL kindOf ((p, w) :: P.zip vs) m x = _
  unfold bindL
  exact Zew (i := i) (List.nodup_cons.mp nd).2 (by simpa using h1) (by simpa using h2) hk
theorem Zex {kindOf : Str -> Option NameKind} {x : Str} {v : Value} : ∀ {P : List Str} {vs : List Value} {i : Nat} {m : Str -> Option Value}, P.Nodup -> P[i]? = some x -> vs[i]? = some v -> kindOf x ≠ some .local ->
 bindC kindOf (P.zip vs) m x = some v
 | [], _, _, _, _, h, _, _ => by simp at h
 | _ :: _, [], _, _, _, _, h, _ => by simp at h
 | p :: P, w :: vs, 0, m, nd, h1, h2, hk => by
  simp at h1 h2; subst h1; subst h2
  show bindC kindOf ((p, w) :: P.zip vs) m p = _
  unfold bindC
  rw [Zev fun v hv => (List.nodup_cons.mp nd).1 (List.of_mem_zip hv).1, if_neg hk]
  simp
 | p :: P, w :: vs, i + 1, m, nd, h1, h2, hk => by
  show bindC kindOf ((p, w) :: P.zip vs) m x = _
  unfold bindC
  exact Zex (i := i) (List.nodup_cons.mp nd).2 (by simpa using h1) (by simpa using h2) hk
noncomputable def start (N : List Str) (vs : List V) : St := vs.map some ++ List.replicate (N.length - vs.length) none
noncomputable def cxOf (CX : CXT) (P : Program) (w : World) (K : Fg) (mg : Str -> Option Value) (base : Heap) (N : List Str) (qual : Str) (scope : Scope) (f : Addr) (cd : Value) (A : Around) (outer : List Env) (s : Shared) (H : Hp) (E : XK) : Cx where
 prog := P
 w := w
 K := K
 mg := mg
 base := base
 A := A.deeper (envOfC qual scope s.heap.objs.size f cd)
 N := N
 s₀ := s
 H₀ := H
 env := envOfC qual scope s.heap.objs.size f cd
 outer := outer
 stack := envOfC qual scope s.heap.objs.size f cd :: outer
 ex := []
 calm := true
 fn := fun _ => true
 pn := []
 xe := fun e s' => wpAny (model P w) (A.deeper (envOfC qual scope s.heap.objs.size f cd)) (leaving (envOfC qual scope s.heap.objs.size f cd) e) (fun _ s'' => CX outer H s E e s'') (fun e' s'' => CX outer H s E e' s'') s'
theorem Zfi {sc : Scope} {n : Nat} {x : Str} (h : sc.names.lookup x = some .cell) : ∃ c, (cellsFrom n sc.names []).lookup x = some c := by
 have q := PySem.W.cellsFrom_some sc.names n [] (.inl h)
 exact Option.isSome_iff_exists.mp q
theorem ZhO {CX : CXT} {P : Program} {w : World} {K : Fg} {mg : Str -> Option Value} {base : Heap} {N ps : List Str} {qual : Str} {scope : Scope} {f : Addr} {cd : Value} {A : Around} {outer : List Env} {s s1 : Shared} {H : Hp} {E : XK} {us : List Value} {vs : List V}
 (S : FnScope N ps scope) (hd : A.handled = none) (e0 : Env0 P w K mg base A outer s H) (hl : vs.length = ps.length) (r : Vals vs us)
 (x : InCallC s s.heap.objs.size (bindL (envOfC qual scope s.heap.objs.size f cd).kindOf (ps.zip us) fun _ => none) (cellsFrom (s.heap.objs.size + 1) scope.names []) (bindC (envOfC qual scope s.heap.objs.size f cd).kindOf (ps.zip us) fun _ => none) s1) :
 Inv (cxOf CX P w K mg base N qual scope f cd A outer s H E) [] (start N vs) H s1 := by
 have hpl : ps.length <= N.length := by have := congrArg List.length S.pre; rw [List.length_take] at this; omega
 obtain ⟨h1, tk, rfl, hk⟩ := x.done
 have noA : ∀ b : Addr, b ∉ (cxOf CX P w K mg base N qual scope f cd A outer s H E).ex := fun b z => absurd (show b ∈ ([] : List Addr) from z) (by simp)
 refine ⟨⟨e0.mod, S.kind, rfl, rfl, Nat.le_refl _, fun y z c h1 h2 => ?_, fun y hy => ?_, fun y c _ h => ?_, fun _ => hd, Around.frames_deeper e0.frames, .inr ⟨rfl, rfl⟩, fun b z => absurd z (noA b), e0.bs, e0.bsz, fun b _ _ => noA b, fun b z => absurd z (noA b), e0.funs, e0.frf⟩,
  rfl, e0.bare, Un.kept hk, ⟨_, x.toInCall.ns, fun i y v h1 h2 h3 => ?_⟩, fun y c h => ⟨_, x.cell y c h⟩, e0.hok.fresh (Nat.le_refl _), fun y c h => ?_, fun p hp => absurd (show p ∈ ([] : List (Addr × Obj)) from hp) (by simp), e0.hok.kept hk, ?_⟩
 . exact name_of_addr x.apart (PySem.mem_of_lookup h1) (PySem.mem_of_lookup h2)
 . have hy : scope.names.lookup y = some .cell \/ scope.names.lookup y = some .free := hy
   rcases hy with hy | hy
   . exact Zfi hy
   . exact absurd rfl (S.nofree _ (PySem.mem_of_lookup hy))
 . exact Nat.le_of_lt (x.above y c (PySem.mem_of_lookup h))
 . have hi : i < vs.length := by
    unfold start at h2
    by_cases hi : i < vs.length
    . exact hi
    . rw [List.getElem?_append_right (by simpa using hi)] at h2
      rw [List.getElem?_replicate] at h2
      split at h2 <;> cases h2
   have ha : vs[i]? = some v := by
    unfold start at h2
    rw [List.getElem?_append_left (by simpa using hi), List.getElem?_map] at h2
    cases e : vs[i]? with
    | none => rw [e] at h2; cases h2
    | some a => rw [e] at h2; cases h2; rfl
   obtain ⟨u, hu, rv⟩ := r.get ha
   have hp : ps[i]? = some y := by
    rw [<- S.pre, List.getElem?_take_of_lt (by omega)]; exact h1
   have ndP : ps.Nodup := by rw [<- S.pre]; exact S.nd.sublist (List.take_sublist _ _)
   refine ⟨u, rv, ?_⟩
   rcases S.par y (List.mem_of_getElem? hp) with k | k
   . exact .inl ⟨k, Zew ndP hp hu k⟩
   . obtain ⟨c, e⟩ := Zfi (n := s.heap.objs.size + 1) k
     refine .inr ⟨.inl k, c, e, ?_⟩
     have q := x.cell y c e
     rw [Zex ndP hp hu (by show scope.names.lookup y ≠ _; rw [k]; decide)] at q
     exact q
 . exact e0.hok.fresh (Nat.le_of_lt (x.above y c (PySem.mem_of_lookup h)))
 . unfold start
   show _ = N.length
   rw [List.length_append, List.length_map, List.length_replicate]
   omega
theorem ZnE {CX : CXT} {P : Program} {w : World} {K : Fg} {mg : Str -> Option Value} {base : Heap} {k : Nat} {f : Addr} {name qual : Str} {params : Arguments} {body : List Stmt} {scope : Scope} {dV kV doc pm cdv ct oc : Value} {an od : Option Addr}
 {osl : Array (Option Value)} {N ps : List Str} {sp : Sp} (lk : K.lookup f = some ⟨oc, od, .func (PySem.W.fnOf name qual params body scope dV kV doc pm an cdv ct), osl⟩) (hcd : PySem.W.codeIn K cdv qual = true) (S : FnScope N ps scope)
 (len : ∀ vs H Q E, sp vs H Q E -> vs.length = ps.length)
 (hbody : ∀ (A : Around) (outer : List Env) (s : Shared) (H : Hp) (vs : List V) (Q : VK) (E : XK), Room k (A.deeper (envOfC qual scope s.heap.objs.size f cdv)) -> sp vs H Q E ->
  ∃ t, PSs (cxOf CX P w K mg base N qual scope f cdv A outer s H E) body t /\ t { nx := fun _ H' => Q .non H', rt := Q } (start N vs) H) :
 FnOk P w K mg base CX (k + 1) f (PySem.W.fnOf name qual params body scope dV kV doc pm an cdv ct) ps sp := by
 refine ⟨len, fun A outer s H args us vs Q E hr e0 hb r hsp => ?_⟩
 have hl := len _ _ _ _ hsp
 have KX : K.In s.heap := e0.mod.kin.keeps fun b o e => (e0.bs b o e).1
 have lim : s.heap.NoLimit := e0.mod.nolimit.keeps fun b o e => (e0.bs b o e).1
 have hkind : ∀ y ∈ ps.zip us, scope.names.lookup y.1 = some .local \/ (scope.names.lookup y.1 = some .cell /\ ((cellsFrom (s.heap.objs.size + 1) scope.names []).lookup y.1).isSome = true) := fun ⟨n, v⟩ hy => by
  rcases S.par n (List.of_mem_zip hy).1 with q | q
  . exact .inl q
  . exact .inr ⟨q, PySem.W.cellsFrom_some _ _ _ (.inl q)⟩
 refine codeAny_call_function hr.depth (KX _ _ lk) rfl S.co S.gen rfl (PySem.W.codeRec_of KX hcd) (hb _ _ _ _ ?_)
 refine wpAny_newFunctionEnv_cells S.kind hkind fun env he s1 x => ?_
 subst he
 refine ⟨lim.keeps x.toInCall.keep, codeAny_func ?_⟩
 obtain ⟨t, ht, hq⟩ := hbody A outer s H vs Q E (hr.deeper _) hsp
 have I : Inv (cxOf CX P w K mg base N qual scope f cdv A outer s H E) [] (start N vs) H s1 := ZhO S hr.hd e0 hl r x
 refine wpAny_mono (ht [] s1 (start N vs) H _ I hq) (fun fl s' hs => ?_) fun e s' hs => hs
 have fin : ∀ {σ' : St} {H' : Hp} {v : V} {u : Value}, Inv (cxOf CX P w K mg base N qual scope f cdv A outer s H E) [] σ' H' s' -> RelV v u -> Q v H' -> CE outer P w H s Q u s' :=
  fun {σ' H' v u} J rv q => ⟨v, H', J.os, J.bare, J.base, J.hok, rv, q⟩
 cases fl with
 | ret u =>
  obtain ⟨v, σ', H', J, rv, q⟩ := hs
  exact fin J rv q
 | next =>
  obtain ⟨σ', H', J, q⟩ := hs
  exact fin (v := V.non) (u := Value.none) J rfl q
 | brk =>
  obtain ⟨_, _, _, q⟩ := hs
  exact False.elim q
 | cont =>
  obtain ⟨_, _, _, q⟩ := hs
  exact False.elim q
end L2
namespace L2
open PySem PySem.Spec PyProof.Rows
section
variable {X : Cx} {x : Str} {p pos : Pos} {e : Expr} {es : List Expr} {t : TA} {id T : String} {r : List V -> Hp -> VK -> Prop}
def tCB (r : List V -> Hp -> VK -> Prop) (t : TA) : TE := fun σ H Q => t σ H fun vs H1 => r vs H1 Q
theorem Zfj (hc : ZG X (.builtin id) r) (hg : Gl X x) (hm : X.mg x = none) (hv : bootBuiltins x = some (.builtin id)) (ha : PA X (e :: es) t) (hn : x ≠ "__name__" := by decide) (hdb : (x == ("__debug__" : Str)) = false := by decide)
 (he : starEach (e :: es) X.env = (false, eval e X.env) :: starEach es X.env := by rfl) (hpl : (backTo pos (starEach es X.env)).any (·.1) = false := by rfl) : PE X (.Call (.Name x p) (e :: es) [] pos) (tCB r t) := by
 intro pins s σ H Q I h
 refine wpAny_Call_Name_kw (ZcF I hg hm hv ?_ hn hdb)
 exact PyProof.Rows.callWith_builtin1 (thn (ha pos pins s σ H _ I h) fun us s1 ⟨vs, H1, I1, r1, q1⟩ => hc pins s1 σ H1 vs us Q I1 r1 q1) he hpl
theorem ZhP (hc : ZG X (.type T) r) (hg : Gl X x) (hm : X.mg x = none) (hv : bootBuiltins x = some (.type T)) (ha : PA X (e :: es) t) (hn : x ≠ "__name__" := by decide) (hdb : (x == ("__debug__" : Str)) = false := by decide)
 (he : starEach (e :: es) X.env = (false, eval e X.env) :: starEach es X.env := by rfl) (hpl : (backTo pos (starEach es X.env)).any (·.1) = false := by rfl) : PE X (.Call (.Name x p) (e :: es) [] pos) (tCB r t) := by
 intro pins s σ H Q I h
 refine wpAny_Call_Name_kw (ZcF I hg hm hv ?_ hn hdb)
 exact PyProof.Rows.callWith_type1 (thn (ha pos pins s σ H _ I h) fun us s1 ⟨vs, H1, I1, r1, q1⟩ => hc pins s1 σ H1 vs us Q I1 r1 q1) he hpl
end
end L2
namespace HT
open PySem PyProof.Rows
section
variable {prog : Program} {w : World} {A : Around} {E : Value -> Shared -> Prop} {s : Shared}
noncomputable def sIx (n d : Nat) : Option Int -> Nat
 | none => d
 | some v => if v < 0 then (v + (n : Int)).toNat else min v.toNat n
theorem Zks (n d k : Nat) : sIx n d (some (k : Int)) = min k n := by
 show (if (k : Int) < 0 then ((k : Int) + (n : Int)).toNat else min (k : Int).toNat n) = min k n
 rw [if_neg (by omega), Int.toNat_natCast]
end
end HT
namespace L2
open PySem PySem.Spec PyProof.Rows
abbrev TO := St -> Hp -> (Option Int -> Hp -> Prop) -> Prop
def PO (X : Cx) (e : Option Expr) (t : TO) : Prop :=
 ∀ (pins : List (Addr × Obj)) (s : Shared) (σ : St) (H : Hp) (Q : Option Int -> Hp -> Prop), Inv X pins σ H s -> t σ H Q ->
  wpAny (model X.prog X.w) X.A (evalPart e X.env) (fun u s' => ∃ o H', Inv X pins σ H' s' /\ IsPart u o /\ Q o H') X.xe s
noncomputable def Zkt : TO := fun _ H Q => Q none H
noncomputable def ZnF (t : TE) : TO := fun σ H Q => t σ H fun x H1 => ∃ i, x = .int i /\ Q (some i) H1
section
variable {X : Cx} {e : Expr} {te : TE} {lo hi : Option Expr} {tl th : TO} {pos p2 : Pos}
theorem Zku : PO X none Zkt := by
 intro pins s σ H Q I h
 rw [evalPart_none]
 exact wpAny_pure ⟨none, H, I, .none, h⟩
theorem Zkv (h : PE X e te) : PO X (some e) (ZnF te) := by
 intro pins s σ H Q I hw
 rw [evalPart_some]
 refine thn (h pins s σ H _ I hw) fun u s1 z0 => ?_
 obtain ⟨x, H1, I1, r1, q1⟩ := z0
 obtain ⟨i, rfl, q⟩ := q1
 obtain ⟨t, rfl⟩ := r1
 exact ⟨some i, H1, I1, .int i t, q⟩
def SlR (X : Cx) (r : V -> Option Int -> Option Int -> Hp -> VK -> Prop) : Prop :=
 ∀ (pins : List (Addr × Obj)) (s : Shared) (σ : St) (H : Hp) (x : V) (v vl vu : Value) (lo hi : Option Int) (sl : Addr) (Q : VK), Inv X pins σ H s -> RelV x v -> s.heap.IsSliceOf sl vl vu .none -> IsPart vl lo -> IsPart vu hi -> r x lo hi H Q ->
  ∃ T id, typeLookup (.type T) "__getitem__" = pure (some (.builtin id)) /\ s.TypeIs v T /\ wpAny (model X.prog X.w) X.A (getItem v (.ref sl)) (EP X pins σ Q) X.xe s
def tSl (r : V -> Option Int -> Option Int -> Hp -> VK -> Prop) (te : TE) (tl th : TO) : TE := fun σ H Q => te σ H fun x H1 => tl σ H1 fun l H2 => th σ H2 fun u H3 => r x l u H3 Q
theorem ZiO (hr : SlR X r) (he : PE X e te) (hl : PO X lo tl) (hu : PO X hi th) : PE X (.Subscript e (.Slice lo hi none p2) pos) (tSl r te tl th) := by
 intro pins s σ H Q I h
 refine Subscript_ (thn (he pins s σ H _ I h) fun v s1 z0 => ?_)
 obtain ⟨x, H1, I1, r1, q1⟩ := z0
 refine wpAny_Slice (thn (hl pins s1 σ H1 _ I1 q1) fun vl s2 ⟨l, H2, I2, pl, q2⟩ => thn (hu pins s2 σ H2 _ I2 q2) fun vu s3 ⟨u, H3, I3, pu, q3⟩ => ?_)
 rw [evalPart_none]
 refine wpAny_pure ?_
 have I4 : Inv X pins σ H3 { s3 with heap := s3.heap.push { cls := .type "slice", data := .fields #[vl, vu, .none] } } := I3.kept (t' := s3.toks) fun b ob q => Heap.get?_push_of_some _ q
 obtain ⟨T, id, hT, ht, hg⟩ := hr pins { s3 with heap := s3.heap.push { cls := .type "slice", data := .fields #[vl, vu, .none] } } σ H3 x v vl vu l u s3.heap.objs.size Q I4 r1 (Heap.IsSliceOf.new ..) pl pu q3
 show wpAny (model X.prog X.w) X.A (subscriptTail e (.Slice lo hi none p2) v (.ref s3.heap.objs.size)) (EP X pins σ Q) X.xe { s3 with heap := s3.heap.push { cls := .type "slice", data := .fields #[vl, vu, .none] } }
 exact tail_any (ops := [.ref s3.heap.objs.size, v]) ht hT hg (by with_unfolding_all rfl)
noncomputable def cutV (xs : List V) (lo hi : Option Int) : List V := (xs.drop (HT.sIx xs.length 0 lo)).take (HT.sIx xs.length xs.length hi - HT.sIx xs.length 0 lo)
theorem Zgi (xs : List V) (lo hi : Option Int) : (cutV xs lo hi).length <= xs.length := by
 unfold cutV
 rw [List.length_take, List.length_drop]
 omega
end
end L2
namespace L2
open PySem PySem.Spec PyProof.Rows
noncomputable def ixN (n : Nat) (i : Int) : Option Nat := if 0 <= i then (if i < n then some i.toNat else none) else if -(n : Int) <= i then some (i + n).toNat else none
noncomputable def atI {α : Type} (xs : List α) (i : Int) : Option α := (ixN xs.length i).bind fun j => xs[j]?
theorem Zgy (h : ixN n i = some j) : seqIndex? i n = some j /\ j < n /\ -(n : Int) <= i /\ i < n := by
 unfold ixN at h
 by_cases h0 : 0 <= i
 . rw [if_pos h0] at h
   by_cases h1 : i < n
   . rw [if_pos h1] at h
     have e : i.toNat = j := Option.some.inj h
     exact ⟨by rw [seqIndex_of h0 h1, e], by omega, by omega, h1⟩
   . rw [if_neg h1] at h; cases h
 . rw [if_neg h0] at h
   by_cases h1 : -(n : Int) <= i
   . rw [if_pos h1] at h
     have e : (i + n).toNat = j := Option.some.inj h
     exact ⟨by rw [seqIndex_neg (by omega) h1, e], by omega, h1, by omega⟩
   . rw [if_neg h1] at h; cases h
theorem Zec (h : atI xs i = some v) : ∃ j, seqIndex? i xs.length = some j /\ xs[j]? = some v /\ j < xs.length /\ -(xs.length : Int) <= i /\ i < xs.length := by
 unfold atI at h
 cases e : ixN xs.length i with
 | none => rw [e] at h; cases h
 | some j =>
  rw [e] at h
  obtain ⟨h1, h2, h3, h4⟩ := Zgy e
  exact ⟨j, h1, h, h2, h3, h4⟩
def Zed (b : Expr) : Prop := ∀ o i, subscripted b false o i = operate [o, i] (getItem o i)
def IxR (X : Cx) (r : R2) : Prop :=
 ∀ (value slice : Expr) (pins : List (Addr × Obj)) (s : Shared) (σ : St) (H : Hp) (x y : V) (v u : Value) (Q : VK), Inv X pins σ H s -> RelV x v -> RelV y u -> r x y H Q ->
  subscripted slice false v u = operate [v, u] (getItem v u) -> wpAny (model X.prog X.w) X.A (subscriptTail value slice v u) (EP X pins σ Q) X.xe s
def MtR (X : Cx) (id : String) (r : V -> List V -> Hp -> VK -> Prop) : Prop :=
 ∀ (pins : List (Addr × Obj)) (s : Shared) (σ : St) (H : Hp) (x : V) (xs : List V) (v : Value) (us : List Value) (Q : VK), Inv X pins σ H s -> RelV x v -> Vals xs us -> r x xs H Q ->
  wpAny (model X.prog X.w) X.A (call (.builtin id) (v :: us)) (EP X pins σ Q) X.xe s
section
variable {X : Cx} {a b : Expr} {ta tb : TE} {pos : Pos}
theorem ZjE (hr : IxR X r) (ha : PE X a ta) (hb : PE X b tb) (hs : Zed b) : PE X (.Subscript a b pos) (tOp r ta tb) := by
 intro pins s σ H Q I h
 exact Subscript_ (binT ha hb I h fun v u s2 x y H2 I2 rx ry q => hr a b pins s2 σ H2 x y v u Q I2 rx ry q (hs _ _))
def rIxL (K : Fg) : R2 := fun x y H Q => ∃ p xs i v, x = .ref p /\ y = .int i /\ SqL K H p xs /\ atI xs i = some v /\ Q v H
def rIxT (K : Fg) : R2 := fun x y H Q => ∃ p xs i v, x = .ref p /\ y = .int i /\ SqT K H p xs /\ atI xs i = some v /\ Q v H
def rIxS : R2 := fun x y H Q => ∃ z i c, x = .str z /\ y = .int i /\ z.length <= sizeLine /\ atI z.cps.toList i = some c /\ Q (.str ⟨#[c]⟩) H
theorem Zee : IxR X (rIxL X.K) := by
 intro value slice pins s σ H x y v u Q I rx ry h hs
 obtain ⟨p, xs, i, z, rfl, rfl, hq, he, q⟩ := h
 cases rx
 obtain ⟨t, rfl⟩ := ry
 obtain ⟨its, r, pl, hz⟩ := I.list hq
 obtain ⟨j, h1, h2, h3, h4, h5⟩ := Zec he
 obtain ⟨w, ew, rw'⟩ := r.get h2
 have hl := r.length
 have hn := ZbE
 have fin : EP X pins σ Q w s := ⟨z, H, I, rw', q⟩
 by_cases h0 : 0 <= i
 . have hj : i.toNat = j := by
    rw [seqIndex_of h0 h5] at h1
    exact Option.some.inj h1
   exact item_listR pl.isList h0 (by omega) (by rw [hj]; simpa using ew) fin hs
 . have hj : (i + (its.toArray.size : Int)).toNat = j := by
    rw [seqIndex_neg (by omega) h4] at h1
    rw [List.size_toArray, <- hl]
    exact Option.some.inj h1
   exact subscriptTail_builtinR (x := w) pl.isList.typeIs slot_list_getitem.lookup
    (wpAny_getItem_list_neg (Q := fun r s' => r = w /\ EP X pins σ Q r s') pl.isList (by omega) (by rw [List.size_toArray] <;> omega) (by omega) (by rw [hj]; simpa using ew) ⟨rfl, fin⟩) hs
theorem ZhQ : IxR X (rIxT X.K) := by
 intro value slice pins s σ H x y v u Q I rx ry h hs
 obtain ⟨p, xs, i, z, rfl, rfl, hq, he, q⟩ := h
 cases rx
 obtain ⟨t, rfl⟩ := ry
 obtain ⟨its, r, pl, hz⟩ := I.tuple hq
 obtain ⟨j, h1, h2, h3, h4, h5⟩ := Zec he
 obtain ⟨w, ew, rw'⟩ := r.get h2
 have hl := r.length
 have hn := ZbE
 have fin : EP X pins σ Q w s := ⟨z, H, I, rw', q⟩
 exact subscriptTail_builtinR (x := w) pl.typeIs slot_tuple_getitem.lookup
  (getItem_tuple (j := j) (Q := fun r s' => r = w /\ EP X pins σ Q r s') pl (by omega) (by omega) (by rw [List.size_toArray, <- hl]; exact h1) (by simpa using ew) ⟨rfl, fin⟩) hs
theorem Zfk : IxR X rIxS := by
 intro value slice pins s σ H x y v u Q I rx ry h hs
 obtain ⟨z, i, c, rfl, rfl, hz, he, q⟩ := h
 obtain ⟨t, rfl⟩ := rx
 obtain ⟨t', rfl⟩ := ry
 obtain ⟨j, h1, h2, h3, h4, h5⟩ := Zec he
 have hl : z.cps.toList.length = z.length := by simp [Str.length]
 rw [hl] at h1 h4 h5
 have hn := ZbE
 exact tail_any (typeIs_str s z t) slot_str_getitem.lookup (getItem_str (c := c) (by
  have e1 : decide (i < -(2 ^ 63 : Int)) = false := decide_eq_false (by omega)
  have e2 : decide (i ≥ 2 ^ 63) = false := decide_eq_false (by omega)
  rw [e1, e2, Bool.or_false]) (by rw [h1]; simpa using h2) ⟨.str ⟨#[c]⟩, H, I.tok _, ⟨_, rfl⟩, q⟩) hs
theorem ZgX (its : List Value) (n j : Nat) (u : Value) : Obj.mapSeq (·.setIfInBounds j u) { cls := .type "list", data := .seq its.toArray n } = { cls := .type "list", data := .seq (its.set j u).toArray n } := by
 simp [Obj.mapSeq]
theorem Inv.lst (I : Inv X pins σ H s) (h : H p = some (.lst xs)) :
 ∃ (its : List Value) (n : Nat), Vals xs its /\ s.heap.get? p = some { cls := .type "list", data := .seq its.toArray n } /\ xs.length <= sizeLine := by
 obtain ⟨z, its, n, r, e⟩ := I.hok p _ h
 exact ⟨its, n, r, e, z⟩
theorem Inv.lstUpd {pins : List (Addr × Obj)} {σ : St} {H : Hp} {s : Shared} {p : Addr} {xs ys : List V} {its its' : List Value} {n n' : Nat} {f : Obj -> Obj} (I : Inv X pins σ H s) (h : H p = some (.lst xs))
 (ho : s.heap.get? p = some { cls := .type "list", data := .seq its.toArray n }) (hf : f { cls := .type "list", data := .seq its.toArray n } = { cls := .type "list", data := .seq its'.toArray n' }) (r : Vals ys its') (hz : ys.length <= sizeLine) (t : Nat) :
 Inv X pins σ (upd H p (.lst ys)) { s with heap := s.heap.update p f, toks := t } := by
 have e : (s.heap.update p f).get? p = some { cls := .type "list", data := .seq its'.toArray n' } := by
  rw [Heap.get?_update_self f ho (by rw [hf] <;> rfl), hf]
 refine I.write (x := p) (e := p) (by rw [h]; trivial) (.inl rfl) (fun b u hb q => (Heap.get?_update_other _ _ (Ne.symm hb)).trans q) ⟨_, e⟩ ?_
 exact ⟨hz, its', n', r, e⟩
def ZjF : V -> V -> V -> Hp -> (Hp -> Prop) -> Prop := fun o i v H Q => ∃ p xs k j, o = .ref p /\ i = .int k /\ H p = some (.lst xs) /\ ixN xs.length k = some j /\ Q (upd H p (.lst (xs.set j v)))
theorem Zfl : PSet X ZjF := by
 intro pins s σ H o i v ov iv u Q I ro ri rv h
 obtain ⟨p, xs, k, j, rfl, rfl, hp, hj, q⟩ := h
 cases ro
 obtain ⟨t, rfl⟩ := ri
 obtain ⟨its, n, r, ho, hz⟩ := I.lst hp
 obtain ⟨h1, h2, h3, h4⟩ := Zgy hj
 have hl := r.length
 have hn := ZbE
 have I' : Inv X pins σ (upd H p (.lst (xs.set j v))) { s with heap := s.heap.update p (Obj.mapSeq (·.setIfInBounds j u)) } :=
  I.lstUpd hp ho (ZgX its n j u) (r.set rv j) (by rw [List.length_set]; exact hz) s.toks
 by_cases h0 : 0 <= k
 . have hk : k.toNat = j := by
    rw [seqIndex_of h0 h4] at h1
    exact Option.some.inj h1
   exact PySem.W.ki_setAt ho h0 (by omega) (by rw [List.size_toArray, <- hl]; exact h4) (by rw [hk]; exact ⟨_, I', q⟩)
 . have hk : (k + (its.toArray.size : Int)).toNat = j := by
    rw [seqIndex_neg (by omega) h3] at h1
    rw [List.size_toArray, <- hl]
    exact Option.some.inj h1
   exact PySem.W.ki_setBack ho (by omega) (by rw [List.size_toArray, <- hl]; exact h3) (by omega) (by rw [hk]; exact ⟨_, I', q⟩)
theorem Zfm (lo hi : Option Int) (n : Nat) : (sliceBounds lo hi none n).1 = ((HT.sIx n 0 lo : Nat) : Int) /\ (sliceBounds lo hi none n).2.1 = ((HT.sIx n n hi : Nat) : Int) /\ (sliceBounds lo hi none n).2.2 = 1 := by
 refine ⟨?_, ?_, rfl⟩
 . cases lo with
   | none => simp [sliceBounds, HT.sIx]
   | some i =>
    simp only [sliceBounds, HT.sIx, Option.getD_none, show (1 : Int) > 0 by decide, if_true]
    by_cases h : i < 0
    . simp only [h, if_true] <;> omega
    . simp only [h, if_false] <;> omega
 . cases hi with
   | none => simp [sliceBounds, HT.sIx]
   | some i =>
    simp only [sliceBounds, HT.sIx, Option.getD_none, show (1 : Int) > 0 by decide, if_true]
    by_cases h : i < 0
    . simp only [h, if_true] <;> omega
    . simp only [h, if_false] <;> omega
theorem ZeH (its : List Value) (lo hi : Option Int) : slicePick its.toArray lo hi none = ((its.drop (HT.sIx its.length 0 lo)).take (HT.sIx its.length its.length hi - HT.sIx its.length 0 lo)).toArray := by
 obtain ⟨h1, h2, h3⟩ := Zfm lo hi its.toArray.size
 unfold slicePick
 rw [h1, h2, h3]
 simp only [sliceRange_one, pick_run, List.size_toArray] <;> rfl
def rSlL (K : Fg) : V -> Option Int -> Option Int -> Hp -> VK -> Prop := fun x lo hi H Q => ∃ a xs, x = .ref a /\ SqL K H a xs /\ ∀ p, H p = none -> Q (.ref p) (upd H p (.lst (cutV xs lo hi)))
theorem Zgz : SlR X (rSlL X.K) := by
 intro pins s σ H x v vl vu lo hi sl Q I rx hs pl pu h
 obtain ⟨a, xs, rfl, hx, q⟩ := h
 cases rx
 obtain ⟨its, r, ht, hz⟩ := I.list hx
 have hlen := r.length
 refine ⟨"list", _, slot_list_getitem.lookup, ht.isList.typeIs, ?_⟩
 refine wpAny_getItem_list_slice ht.isList hs pl pu .none (by simp) ?_ (by rw [List.size_toArray] <;> omega)
 rw [ZeH, <- hlen]
 refine ⟨.ref s.heap.objs.size, _, I.laid (t' := s.toks) (o := .lst (cutV xs lo hi)) (fun b ob q => Heap.get?_push_of_some _ q) (Nat.le_refl _) ?_, rfl, q _ (I.hok.fresh (Nat.le_refl _))⟩
 exact ⟨Nat.le_trans (Zgi xs lo hi) hz, _, 0, (r.drop (HT.sIx xs.length 0 lo)).take (HT.sIx xs.length xs.length hi - HT.sIx xs.length 0 lo), Heap.get?_push_size _ rfl⟩
noncomputable def ZnG : V -> Bool
 | .non => true
 | .bl _ => true
 | .int _ => true
 | .str _ => true
 | _ => false
noncomputable def eqV : V -> V -> Bool
 | .non, .non => true
 | .bl a, .bl b => a == b
 | .bl a, .int b => (if a then 1 else 0) == b
 | .int a, .bl b => a == (if b then 1 else 0)
 | .int a, .int b => a == b
 | .str a, .str b => a == b
 | _, _ => false
theorem Za2 : ZG X (.builtin "len") (fun xs H Q => ∃ p ys, xs = [.ref p] /\ (SqL X.K H p ys \/ SqT X.K H p ys) /\ Q (.int ys.length) H) := by
 intro pins s σ H xs us Q I r h
 obtain ⟨p, ys, rfl, hq, q⟩ := h
 obtain ⟨u, rfl, rx⟩ := Zcs r
 cases rx
 have hn := ZbE
 rcases hq with hq | hq
 . obtain ⟨its, r', pl, hz⟩ := I.list hq
   have hlen := r'.length
   exact Calls.call_len_list pl.isList (by simp only [List.size_toArray] <;> omega) ⟨.int ys.length, H, I.tok _, ⟨s.toks + 1, by rw [List.size_toArray, hlen]⟩, q⟩
 . obtain ⟨its, r', pl, hz⟩ := I.tuple hq
   have hlen := r'.length
   exact len_tuple pl (by simp only [List.size_toArray] <;> omega) ⟨.int ys.length, H, I.tok _, ⟨s.toks + 1, by rw [List.size_toArray, hlen]⟩, q⟩
theorem Zfn : ZG X (.builtin "len") (fun xs H Q => ∃ z, xs = [.str z] /\ z.length <= sizeLine /\ Q (.int z.length) H) := by
 intro pins s σ H xs us Q I r h
 obtain ⟨z, rfl, hz, q⟩ := h
 obtain ⟨u, rfl, t, rfl⟩ := Zcs r
 have hn := ZbE
 exact len_str (by omega) ⟨.int z.length, H, I.tok _, ⟨_, rfl⟩, q⟩
theorem Za3 : ZG X (.type "list") (fun xs H Q => ∃ p ys, xs = [.ref p] /\ (SqL X.K H p ys \/ SqT X.K H p ys) /\ ∀ l, H l = none -> Q (.ref l) (upd H l (.lst ys))) := by
 intro pins s σ H xs us Q I r h
 obtain ⟨p, ys, rfl, hq, q⟩ := h
 obtain ⟨u, rfl, rx⟩ := Zcs r
 cases rx
 have fin : ∀ (its : List Value), Vals ys its -> ys.length <= sizeLine -> ∀ (h' : Heap) (c' : Nat), (∀ b o', s.heap.get? b = some o' -> h'.get? b = some o') ->
  h'.get? s.heap.objs.size = some { cls := .type "list", dict := none, data := .seq its.toArray c', slots := #[] } -> EP X pins σ Q (.ref s.heap.objs.size) { s with heap := h' } := fun its r' hz h' c' kp e =>
  ⟨.ref s.heap.objs.size, _, I.laid (t' := s.toks) kp (Nat.le_refl _) (show Z6 X.prog X.w _ h' _ (.lst ys) from ⟨hz, its, c', r', e⟩), rfl, q _ (I.hok.fresh (Nat.le_refl _))⟩
 rcases hq with hq | hq
 . obtain ⟨its, r', pl, hz⟩ := I.list hq
   have hlen := r'.length
   obtain ⟨o, ho, hc, n, hd⟩ := pl.isList
   exact call_list_seq p (.inl rfl) ho hc hd (fun h' c' kp e => fin its r' hz h' c' kp e) (by simp only [List.size_toArray] <;> omega)
 . obtain ⟨its, r', pl, hz⟩ := I.tuple hq
   have hlen := r'.length
   obtain ⟨o, ho, hc, n, hd⟩ := pl
   exact call_list_seq p (.inr rfl) ho hc hd (fun h' c' kp e => fin its r' hz h' c' kp e) (by simp only [List.size_toArray] <;> omega)
def tyV (K : Fg) (T : String) (x : V) (H : Hp) : Prop := match x with
 | .str _ => T = "str"
 | .int _ => T = "int"
 | .ref p => (T = "list" /\ ∃ xs, SqL K H p xs) \/ (T = "tuple" /\ ∃ o, K.lookup p = some o /\ o.cls = .type "tuple" /\ o.dict = none) \/
  (T = "dict" /\ ((∃ kvs, H p = some (.dK kvs)) \/ ∃ S kvs, H p = some (.dT S kvs))) \/ (T = "set" /\ ∃ S n, H p = some (.set S n))
 | _ => False
theorem ZlN (I : Inv X pins σ H s) (r : RelV x v) (ty : tyV X.K T x H) :
 s.TypeIs v T /\ ∀ a, v = .ref a -> ∃ ob, s.heap.get? a = some ob /\ ob.dict = none := by
 cases x with
 | str z =>
  obtain ⟨t, rfl⟩ := r
  cases (show T = "str" from ty)
  exact ⟨typeIs_str s z t, fun _ e => nomatch e⟩
 | int i =>
  obtain ⟨t, rfl⟩ := r
  cases (show T = "int" from ty)
  exact ⟨typeIs_int s i t, fun _ e => nomatch e⟩
 | ref p =>
  cases r
  rcases ty with ⟨rfl, xs, hq⟩ | ⟨rfl, o, hk, hc, hd⟩ | ⟨rfl, hk⟩ | ⟨rfl, S, n, hk⟩
  . obtain ⟨its, _, pl, _⟩ := I.list hq
    refine ⟨pl.isList.typeIs, fun a e => ?_⟩
    cases e
    obtain ⟨o, n, e, c, hd, _⟩ := pl
    exact ⟨o, e, hd⟩
  . refine ⟨⟨o, I.kIn p o hk, hc⟩, fun a e => ?_⟩
    cases e
    exact ⟨o, I.kIn _ o hk, hd⟩
  . have z : ∃ o, s.heap.get? p = some o /\ o.ExactDict := by
     rcases hk with ⟨kvs, hk⟩ | ⟨S, kvs, hk⟩
     . obtain ⟨_, _, _, _, o, _, _, e, ex, _⟩ := I.hok p _ hk
       exact ⟨o, e, ex⟩
     . obtain ⟨_, _, _, _, o, _, _, e, ex, _⟩ := I.hok p _ hk
       exact ⟨o, e, ex⟩
    obtain ⟨o, e, ex⟩ := z
    refine ⟨⟨o, e, ex.1⟩, fun a e2 => ?_⟩
    cases e2
    exact ⟨o, e, ex.2.1⟩
  . obtain ⟨o, _, _, _, e, ex, _⟩ := I.hok p _ hk
    refine ⟨⟨o, e, ex.1⟩, fun a e2 => ?_⟩
    cases e2
    exact ⟨o, e, ex.2.1⟩
 | _ => exact False.elim ty
def tBM (K : Fg) (T : String) (r : V -> List V -> Hp -> VK -> Prop) (to : TE) (t : TA) : TE := fun σ H Q => to σ H fun x H1 => tyV K T x H1 /\ t σ H1 fun xs H2 => r x xs H2 Q
variable {o e : Expr} {es : List Expr} {to : TE} {t : TA} {name : Str} {apos cpos : Pos} {T id : String} {r : V -> List V -> Hp -> VK -> Prop}
theorem ZeQ (pa : PlainAttrs T) (slot : Slot T name id) (hty : typeOf (.builtin id) = pure (.type "method_descriptor")) (hm : MtR X id r) (ho : PE X o to) (ha : PA X (e :: es) t)
 (hbase : attributeBase o name X.env (eval o X.env) = eval o X.env := by rfl)
 (hfew : ((backTo cpos (starEach (e :: es) X.env)).all (fun x => !x.1) && (backToKw cpos (keywordEach [] X.env)).all (fun x => x.1.isSome)
  && decide ((e :: es).length + ([] : List Keyword).length + (if ([] : List Keyword).isEmpty then 0 else 1) < 30)) = true := by rfl)
 (hline : (apos.endLine == cpos.line) = true := by rfl) (hs : starEach (e :: es) X.env = (false, eval e X.env) :: starEach es X.env := by rfl) (hplain : (backTo cpos (starEach es X.env)).any (·.1) = false := by rfl) :
 PE X (.Call (.Attribute o name apos) (e :: es) [] cpos) (tBM X.K T r to t) := by
 intro pins s σ H Q I h
 refine wpAny_Call_method_late hbase hfew hline rfl (thn (ho pins s σ H _ I h) fun v s1 z0 => ?_)
 obtain ⟨x, H1, I1, r1, ty, q1⟩ := z0
 obtain ⟨h1, h2⟩ := ZlN I1 r1 ty
 refine ⟨T, id, pa, slot, hty, h1, h2, ?_⟩
 have hA := ha cpos pins s1 σ H1 _ I1 q1
 rw [hs] at hA ⊢
 refine Calls.callWith_builtin (by show (false || (backTo cpos (starEach es X.env)).any (·.1)) = false; rw [hplain] <;> rfl) (Calls.evalArgs_plain ?_)
 exact thn hA fun us s2 ⟨vs, H2, I2, r2, q2⟩ => hm pins s2 σ H2 x vs v us Q I2 r1 r2 q2
end
end L2
namespace L2
open PySem PySem.Spec PyProof.Rows
def MtM (X : Cx) (id : String) (r : V -> List V -> Hp -> VK -> Prop) : Prop :=
 ∀ (pins : List (Addr × Obj)) (s : Shared) (σ : St) (H : Hp) (x : V) (xs : List V) (v : Value) (us : List Value) (Q : VK), Inv X pins σ H s -> RelV x v -> Vals xs us -> r x xs H Q ->
  wpAny (model X.prog X.w) X.A (call (.builtin id) (v :: us)) (EP X pins σ Q) X.xe s
theorem Vals.one : ∀ {x : V} {us : List Value}, Vals [x] us -> ∃ u, us = [u] /\ RelV x u
 | _, _, .cons r .nil => ⟨_, rfl, r⟩
theorem Vals.two : ∀ {x y : V} {us : List Value}, Vals [x, y] us -> ∃ u v, us = [u, v] /\ RelV x u /\ RelV y v
 | _, _, _, .cons r (.cons q .nil) => ⟨_, _, rfl, r, q⟩
theorem Vals.eraseIdx : ∀ {xs : List V} {us : List Value} (i : Nat), Vals xs us -> Vals (xs.eraseIdx i) (us.eraseIdx i)
 | _, _, _, .nil => .nil
 | _, _, 0, .cons _ t => t
 | _, _, i + 1, .cons r t => .cons r (Vals.eraseIdx i t)
theorem Vals.reverse (h : Vals xs us) : Vals xs.reverse us.reverse := by
 induction h with
 | nil => exact .nil
 | cons r t ih => rw [List.reverse_cons, List.reverse_cons]; exact Vals.append ih (.cons r .nil)
theorem Vals.rep (h : Vals xs us) : ∀ k : Nat, Vals (List.replicate k xs).flatten (List.replicate k us).flatten
 | 0 => .nil
 | k + 1 => by
  rw [List.replicate_succ, List.replicate_succ, List.flatten_cons, List.flatten_cons]
  exact Vals.append h (Vals.rep h k)
theorem Zey : ∀ (l : List α) (i : Nat), (l.eraseIdx i).length <= l.length
 | [], _ => Nat.le_refl _
 | _ :: _, 0 => Nat.le_succ _
 | _ :: r, i + 1 => Nat.succ_le_succ (Zey r i)
theorem Zez (its : List Value) : ∀ (k : Nat) (acc : List Value),
 List.foldl (fun x1 x2 => x1 ++ x2) acc.toArray (List.replicate k its.toArray) = (acc ++ (List.replicate k its).flatten).toArray
 | 0, acc => by simp
 | k + 1, acc => by
  have e : acc.toArray ++ its.toArray = (acc ++ its).toArray := by simp
  have e2 : (acc ++ its) ++ (List.replicate k its).flatten = acc ++ (List.replicate (k + 1) its).flatten := by
   rw [List.replicate_succ, List.flatten_cons, List.append_assoc]
  rw [<- e2, <- Zez its k (acc ++ its), <- e, List.replicate_succ, List.foldl_cons]
section
variable {X : Cx} {pins : List (Addr × Obj)} {σ : St} {H : Hp} {s : Shared} {l b : Addr} {xs ys zs : List V}
theorem Inv.lset {its its' : List Value} {n : Nat} {f : Array Value -> Array Value} {t' : Nat} (I : Inv X pins σ H s) (hH : H l = some (.lst xs))
 (e : s.heap.get? l = some { cls := .type "list", data := .seq its.toArray n }) (hf : f its.toArray = its'.toArray) (hv : Vals ys its') (hz : ys.length <= sizeLine) :
 Inv X pins σ (upd H l (.lst ys)) { s with heap := s.heap.update l (Obj.mapSeq f), toks := t' } := by
 have q := PySem.IsL.update e f
 rw [hf] at q
 refine I.write (x := l) (e := l) (by rw [hH]; exact trivial) (.inl rfl) (fun b' u hb hu => (Heap.get?_update_other s.heap (Obj.mapSeq f) (Ne.symm hb)).trans hu) ⟨_, q⟩ ?_
 exact ⟨hz, its', _, hv, q⟩
theorem Inv.lnew (I : Inv X pins σ H s) (hv : Vals ys its) (hz : ys.length <= sizeLine) :
 Inv X pins σ (upd H s.heap.objs.size (.lst ys)) { s with heap := s.heap.push { cls := .type "list", data := .seq its.toArray }, toks := t' } :=
 I.laid (fun _ _ q => Heap.get?_push_of_some _ q) (Nat.le_refl _) ⟨hz, its, 0, hv, Heap.get?_push_size _ rfl⟩
theorem Inv.fresh (I : Inv X pins σ H s) : H s.heap.objs.size = none := I.hok.fresh (Nat.le_refl _)
theorem Inv.lstM (I : Inv X pins σ H s) (hH : H l = some (.lst xs)) : xs.length <= sizeLine /\ ∃ (its : List Value) (n : Nat), Vals xs its /\ xs.length = its.length /\ s.heap.get? l = some { cls := .type "list", data := .seq its.toArray n } := by
 obtain ⟨z, its, n, r, e⟩ := I.hok l _ hH
 exact ⟨z, its, n, r, r.length, e⟩
theorem ZiP (h : n <= sizeLine) : Builtin.List.listTooLong n = false := by
 unfold Builtin.List.listTooLong
 exact decide_eq_false (by omega)
end
section
variable {X : Cx}
def Zkw : V -> List V -> Hp -> VK -> Prop := fun x vs H Q => ∃ l xs y, x = .ref l /\ vs = [y] /\ H l = some (.lst xs) /\ xs.length < sizeLine /\ Q .non (upd H l (.lst (xs ++ [y])))
theorem Ze0 : MtM X "list.append" Zkw := by
 intro pins s σ H x vs v us Q I rx rv h
 obtain ⟨l, xs, y, rfl, rfl, hH, hz, q⟩ := h
 cases rx
 obtain ⟨u, rfl, ru⟩ := rv.one
 obtain ⟨z, its, n, r, hl, e⟩ := I.lstM hH
 refine call_meets F.slot_list_append ⟨_, e, rfl⟩ F.entry_list_append (F.args_list_append_2 _ _) (PySem.list_append l its.toArray n u (by rw [List.size_toArray]; omega)) ⟨e, ?_⟩
 refine ⟨.non, _, I.lset (its' := its ++ [u]) hH e (by simp) (r.append (.cons ru .nil)) ?_, rfl, q⟩
 rw [List.length_append, List.length_singleton]
 omega
def ZlO : V -> List V -> Hp -> VK -> Prop := fun x vs H Q => ∃ l xs i k y, x = .ref l /\ vs = [.int i] /\ H l = some (.lst xs) /\ -(2 ^ 63) <= i /\ i < 2 ^ 63 /\ seqIndex? i xs.length = some k /\ xs[k]? = some y /\ Q y (upd H l (.lst (xs.eraseIdx k)))
theorem ZiQ : MtM X "list.pop" ZlO := by
 intro pins s σ H x vs v us Q I rx rv h
 obtain ⟨l, xs, i, k, y, rfl, rfl, hH, h1, h2, hk, hy, q⟩ := h
 cases rx
 obtain ⟨u, rfl, ru⟩ := rv.one
 obtain ⟨t, rfl⟩ := ru
 obtain ⟨z, its, n, r, hl, e⟩ := I.lstM hH
 obtain ⟨w, hw, rw'⟩ := r.get hy
 refine call_meets F.slot_list_pop ⟨_, e, rfl⟩ F.entry_list_pop (F.args_list_pop_2 _ _)
  (MeetsSeq.list_pop_at l its.toArray n i t k w (fitsIndex_both h1 h2) (by rw [List.size_toArray, <- hl]; exact hk) (by rw [<- Array.getElem?_toList]; exact hw) (by rw [List.size_toArray]; omega)) ⟨e, ?_⟩
 refine ⟨y, _, I.lset (its' := its.eraseIdx k) hH e ?_ (r.eraseIdx k) ?_, rw', q⟩
 . show its.toArray.eraseIdxIfInBounds k = (its.eraseIdx k).toArray
   rw [List.eraseIdxIfInBounds_toArray]
 . have := Zey xs k
   omega
def rCat : R2 := fun x y H Q => ∃ l b xs zs, x = .ref l /\ y = .ref b /\ H l = some (.lst xs) /\ H b = some (.lst zs) /\ xs.length + zs.length <= sizeLine /\ ∀ p, H p = none -> Q (.ref p) (upd H p (.lst (xs ++ zs)))
theorem ZlP : OpR X (binaryOp .Add) rCat := by
 intro pins s σ H x y v u Q I rx ry h
 obtain ⟨l, b, xs, zs, rfl, rfl, hH, hB, hz, q⟩ := h
 cases rx
 cases ry
 obtain ⟨z, its, n, r, hl, e⟩ := I.lstM hH
 obtain ⟨z2, its2, n2, r2, hl2, e2⟩ := I.lstM hB
 refine PySem.P.add_list e e2 ?_ (by rw [List.size_toArray, List.size_toArray]; omega)
 have ea : its.toArray ++ its2.toArray = (its ++ its2).toArray := by simp
 rw [ea]
 exact ⟨.ref _, _, I.lnew (t' := s.toks) (r.append r2) (by rw [List.length_append]; omega), rfl, q _ I.fresh⟩
def rRep : R2 := fun x y H Q => ∃ l k xs, x = .ref l /\ y = .int k /\ H l = some (.lst xs) /\ -(2 ^ 63) <= k /\ k < 2 ^ 63 /\ xs.length * k.toNat <= sizeLine /\
 ∀ p, H p = none -> Q (.ref p) (upd H p (.lst (List.replicate k.toNat xs).flatten))
theorem Zkx (xs : List α) (k : Nat) : (List.replicate k xs).flatten.length = k * xs.length := by
 induction k with
 | zero => simp
 | succ k ih => rw [List.replicate_succ, List.flatten_cons, List.length_append, ih, Nat.succ_mul, Nat.add_comm]
theorem ZlQ : OpR X (binaryOp .Mult) rRep := by
 intro pins s σ H x y v u Q I rx ry h
 obtain ⟨l, k, xs, rfl, rfl, hH, h1, h2, hz, q⟩ := h
 cases rx
 obtain ⟨t, rfl⟩ := ry
 obtain ⟨z, its, n, r, hl, e⟩ := I.lstM hH
 have hlen : its.toArray.size * k.toNat <= sizeLine := by rw [List.size_toArray, <- hl]; exact hz
 have hcap : ¬ its.toArray.size * k.toNat > (2 ^ 63 - 1) / 8 := by
  have : (sizeLine : Nat) <= (2 ^ 63 - 1) / 8 := by decide
  omega
 have hfit : ¬ (!Builtin.List.listFitsIndex k) = true := by
  rw [fitsIndex_both h1 h2]
  exact Bool.false_ne_true
 have hlong : ¬ Builtin.List.listTooLong (its.toArray.size * k.toNat) = true := by
  rw [ZiP hlen]
  exact Bool.false_ne_true
 have hnew : List.foldl (fun x1 x2 => x1 ++ x2) #[] (List.replicate (if its.toArray.isEmpty = true then 0 else k.toNat) its.toArray) = (List.replicate k.toNat its).flatten.toArray := by
  have f0 : ∀ m : Nat, List.foldl (fun x1 x2 => x1 ++ x2) #[] (List.replicate m its.toArray) = (List.replicate m its).flatten.toArray := fun m => by
   have := Zez its m []
   rw [List.nil_append] at this
   exact this
  rw [f0]
  cases its with
  | nil => simp
  | cons a r' => rw [if_neg (by simp)]
 refine wpAny_binaryOp_repeat_ref (T := "list") (U := "int") (by decide) ⟨_, e, rfl⟩ (fun s' => typeIs_int s' k t) noFill_list_mul F.fills_int_mul F.slot_int_rmul repeat_list F.slot_int_index.lookup
  (call_meets F.slot_int_rmul (typeIs_int s k t) F.entry_int_rmul (F.args_int_rmul_2 _ _) (int___rmul___int_list k t l its.toArray n)
   ⟨e, rfl, ⟨_, e, rfl⟩, call_meets F.slot_list_mul ⟨_, e, rfl⟩ F.entry_list_mul (F.args_list_mul_2 _ _) (AutoListH.list___mul___list_int_3 l its.toArray n k t hfit hcap hlong) ⟨e, ?_⟩⟩)
 rw [hnew]
 exact ⟨.ref _, _, I.lnew (t' := s.toks) (r.rep k.toNat) (by rw [Zkx, Nat.mul_comm]; exact hz), rfl, q _ I.fresh⟩
end
end L2
namespace L2
open PySem PySem.Spec PyProof.Rows
section
variable {κ : Type} [DecidableEq κ]
noncomputable def valV (kvs : List (κ × V)) (k : κ) : Option V := (kvs.find? fun kv => decide (kv.1 = k)).map (·.2)
noncomputable def putK (kvs : List (κ × V)) (k : κ) (v : V) : List (κ × V) :=
 if (kvs.any fun kv => decide (kv.1 = k)) = true then kvs.map (fun kv => if kv.1 = k then (kv.1, v) else kv) else kvs ++ [(k, v)]
theorem Zfo : valV ([] : List (κ × V)) k = none := rfl
theorem Zct {p : κ × V} {r : List (κ × V)} {k : κ} (e : p.1 = k) : valV (p :: r) k = some p.2 := by simp [valV, List.find?_cons, e]
theorem Zcu {p : κ × V} {r : List (κ × V)} {k : κ} (e : ¬ p.1 = k) : valV (p :: r) k = valV r k := by simp [valV, List.find?_cons, e]
theorem Zfp (k : κ) : ∀ kvs : List (κ × V), (kvs.any fun kv => decide (kv.1 = k)) = (valV kvs k).isSome
 | [] => rfl
 | p :: r => by
  rw [List.any_cons]
  by_cases e : p.1 = k
  . simp only [Zct e, decide_eq_true e, Bool.true_or, Option.isSome_some]
  . rw [Zcu e, decide_eq_false e, Bool.false_or]; exact Zfp k r
theorem ZbY (kvs : List (κ × V)) (k : κ) (v : V) : (putK kvs k v).length <= kvs.length + 1 := by
 unfold putK
 split
 . rw [List.length_map]; omega
 . rw [List.length_append, List.length_cons, List.length_nil]; omega
theorem RelO.isSome_eq (r : RelO o u) : o.isSome = u.isSome := by
 cases o with
 | none => cases u with
  | none => rfl
  | some _ => exact (show False from r).elim
 | some _ => cases u with
  | none => exact (show False from r).elim
  | some _ => rfl
theorem KV.val (r : KV kvs vs) (k : κ) : RelO (valV kvs k) (valueAt vs k) := by
 unfold KV at r
 induction r with
 | nil => exact True.intro
 | @cons p q ps qs h t ih =>
  obtain ⟨h1, h2⟩ := h
  by_cases e : p.1 = k
  . have e' : q.1 = k := h1.symm.trans e
    have b : valueAt (q :: qs) k = some q.2 := by simp [valueAt, List.find?_cons, e']
    rw [Zct e, b]; exact h2
  . have e' : ¬ q.1 = k := fun z => e (h1.trans z)
    have b : valueAt (q :: qs) k = valueAt qs k := by simp [valueAt, List.find?_cons, e']
    rw [Zcu e, b]; exact ih
theorem KV.any (r : KV kvs vs) (k : κ) : (kvs.any fun kv => decide (kv.1 = k)) = vs.any fun kv => decide (kv.1 = k) := by
 unfold KV at r
 induction r with
 | nil => rfl
 | cons h t ih => rw [List.any_cons, List.any_cons, ih, h.1]
theorem KV.repl (r : KV kvs vs) (k : κ) (ry : RelV y u) :
 KV (kvs.map fun kv => if kv.1 = k then (kv.1, y) else kv) (vs.map fun kv => if kv.1 = k then (kv.1, u) else kv) := by
 unfold KV at r ⊢
 induction r with
 | nil => exact .nil
 | @cons p q ps qs h t ih =>
  rw [List.map_cons, List.map_cons]
  refine .cons ?_ ih
  obtain ⟨h1, h2⟩ := h
  by_cases e : p.1 = k
  . rw [if_pos e, if_pos (h1.symm.trans e)]; exact ⟨h1, ry⟩
  . rw [if_neg e, if_neg (fun z => e (h1.trans z))]; exact ⟨h1, h2⟩
theorem KV.put (r : KV kvs vs) (k : κ) (ry : RelV y u) : KV (putK kvs k y) (stored vs k u) := by
 unfold putK stored
 rw [r.any k]
 by_cases e : (vs.any fun kv => decide (kv.1 = k)) = true
 . rw [if_pos e, if_pos e]; exact r.repl k ry
 . rw [if_neg e, if_neg e]; exact Paired.snoc r ⟨rfl, ry⟩
theorem KV.length (r : KV kvs vs) : kvs.length = vs.length := Paired.length r
end
theorem ZdD (r : RelV (kV k) u) : (Zaw P w).is k u = true := by
 cases k with
 | inl i => obtain ⟨t, e⟩ := (show ∃ t, u = Value.int i t from r); subst e; exact Zgg P w i t
 | inr x => obtain ⟨t, e⟩ := (show ∃ t, u = Value.str x t from r); subst e; exact Zgh P w x t
abbrev KT (S : Addr -> Prop) (H : Hp) : List ((Pl × Pl) × V) -> List ((Pl × Pl) × Addr × Value) -> Prop := Paired fun p q => p.1 = q.1 /\ PKH S H p.1 q.2.1 /\ RelV p.2 q.2.2
theorem KT.val (r : KT S H kvs xs) (k : Pl × Pl) : RelO (valV kvs k) ((atKey xs k).map (·.2)) := by
 induction r with
 | nil => exact True.intro
 | @cons p q ps qs h t ih =>
  obtain ⟨h1, _, h2⟩ := h
  by_cases e : p.1 = k
  . have e' : q.1 = k := h1.symm.trans e
    have b : atKey (q :: qs) k = some q.2 := by simp [atKey, List.find?_cons, e']
    rw [Zct e, b]; exact h2
  . have e' : ¬ q.1 = k := fun z => e (h1.trans z)
    have b : atKey (q :: qs) k = atKey qs k := by simp [atKey, List.find?_cons, e']
    rw [Zcu e, b]; exact ih
theorem KT.repl (r : KT S H kvs xs) (k : Pl × Pl) (ry : RelV y u) :
 KT S H (kvs.map fun kv => if kv.1 = k then (kv.1, y) else kv) (xs.map (putAt k u)) := by
 induction r with
 | nil => exact .nil
 | @cons p q ps qs h t ih =>
  rw [List.map_cons, List.map_cons]
  refine .cons ?_ ih
  obtain ⟨h1, h2, h3⟩ := h
  unfold putAt
  by_cases e : p.1 = k
  . rw [if_pos e, if_pos (h1.symm.trans e)]; exact ⟨h1, h2, ry⟩
  . rw [if_neg e, if_neg (fun z => e (h1.trans z))]; exact ⟨h1, h2, h3⟩
theorem KT.put (r : KT S H kvs xs) (k : Pl × Pl) (hb : PKH S H k b) (ry : RelV y u) :
 KT S H (putK kvs k y) (storedH xs k b u) := by
 have e : (kvs.any fun kv => decide (kv.1 = k)) = (atKey xs k).isSome := by
  rw [Zfp, (r.val k).isSome_eq, Option.isSome_map]
 unfold putK storedH
 rw [e]
 by_cases q : (atKey xs k).isSome = true
 . rw [if_pos q, if_pos q]; exact r.repl k ry
 . rw [if_neg q, if_neg q]; exact Paired.snoc r ⟨rfl, hb, ry⟩
theorem KT.keeps (r : KT S H kvs xs) (ht : ∀ b ys, H b = some (.tup ys) -> H' b = some (.tup ys)) : KT S H' kvs xs :=
 Paired.mapP r fun _ _ z => ⟨z.1, z.2.1.keep ht, z.2.2⟩
section
theorem ZjG (ok : HOk P w H h) (e : Rd H a u) : Z6 P w H h a u := e.ok ok
theorem Zda (ok : HOk P w H h) (e : Rd H a (.dK kvs)) : kvs.length <= sizeLine /\ (a == sysModules) = false /\ ∃ vs, KV kvs vs /\ h.DictOf (Zaw P w) a vs :=
 show Z6 P w H h a (.dK kvs) from ZjG ok e
theorem ZjH (ok : HOk P w H h) (e : H a = some (.dK kvs)) : kvs.length <= sizeLine /\ (a == sysModules) = false /\ ∃ vs, KV kvs vs /\ h.DictOf (Zaw P w) a vs := Zda ok (.inl e)
theorem ZhR (ok : HOk P w H h) (e : H a = some (.tup xs)) : ∃ its : List Value, Vals xs its /\ h.IsTuple a its.toArray := by
 obtain ⟨_, its, r, o, h1, h2, n, h3⟩ := (show Z6 P w H h a (.tup xs) from ok a _ e)
 exact ⟨its, r, o, h1, h2, n, h3⟩
theorem ZjI (ok : HOk P w H h) (hS : ∀ b, S b -> ∃ t, h.IsTuple b #[.int 0 t, .none]) (e : PlH S H k v) (r : RelV v u) : PlIs h k u := by
 cases k with
 | none => cases e; exact r
 | some p =>
  obtain ⟨b, rfl, e⟩ := e
  obtain rfl : u = Value.ref b := r
  refine ⟨b, rfl, ?_⟩
  rcases e with e | ⟨e, rfl⟩
  . obtain ⟨its, rv, ht⟩ := ZhR ok e
    obtain ⟨p1, p2⟩ := p
    cases rv with
    | cons r1 rr =>
     cases rr with
     | cons r2 rr =>
      cases rr
      obtain ⟨t, rfl⟩ := r1
      refine ⟨t, _, ht, ?_⟩
      cases p2 with
      | none => exact r2
      | some j => exact r2
  . obtain ⟨t, ht⟩ := hS b e
    exact ⟨t, _, ht, rfl⟩
theorem Zcc (ok : HOk P w H h) (hS : ∀ b, S b -> ∃ t, h.IsTuple b #[.int 0 t, .none]) (e : PKH S H k a) : (Zbi P w).is h k a := by
 obtain ⟨v1, v2, e, x1, x2⟩ := e
 obtain ⟨its, rv, ht⟩ := ZhR ok e
 cases rv with
 | cons r1 rr =>
  cases rr with
  | cons r2 rr =>
   cases rr
   exact ⟨_, _, ht, ZjI ok hS x1 r1, ZjI ok hS x2 r2⟩
theorem ZdE (ok : HOk P w H h) (hS : ∀ b, S b -> ∃ t, h.IsTuple b #[.int 0 t, .none]) (e : Rd H a (.dT S kvs)) : kvs.length <= sizeLine /\ (a == sysModules) = false /\
 ∃ xs, KT S H kvs xs /\ h.DictOfH (Zbi P w) a xs := by
 obtain ⟨z, y, xs, r, o, es, ep, h1, h2, h3, h4, h5⟩ := (show Z6 P w H h a (.dT S kvs) from ZjG ok e)
 refine ⟨z, y, xs, r, o, es, ep, h1, h2, h3, h4, fun x hx => ?_, h5⟩
 have all : ∀ {l : List ((Pl × Pl) × V)} {m : List ((Pl × Pl) × Addr × Value)}, KT S H l m -> ∀ x ∈ m, (Zbi P w).is h x.1 x.2.1 := by
  intro l m q
  induction q with
  | nil => intro x hx; exact nomatch hx
  | @cons p q ps qs hq t ih =>
   intro x hx
   rcases List.mem_cons.mp hx with e | hx
   . subst e
     exact Zcc ok hS (by rw [<- hq.1]; exact hq.2.1)
   . exact ih x hx
 exact all r x hx
theorem ZjJ (ok : HOk P w H h) (hS : ∀ b, S b -> ∃ t, h.IsTuple b #[.int 0 t, .none]) (e : H a = some (.dT S kvs)) : kvs.length <= sizeLine /\ (a == sysModules) = false /\
 ∃ xs, KT S H kvs xs /\ h.DictOfH (Zbi P w) a xs := ZdE ok hS (.inl e)
end
def KT0 (K : Fg) (b : Addr) : Prop := ∃ o t n, K.lookup b = some o /\ o.cls = .type "tuple" /\ o.data = .seq #[.int 0 t, .none] n
def DGet (K : Fg) (H : Hp) (a : Addr) (y : V) (r : Option V) : Prop :=
 (∃ kvs k, Rd H a (.dK kvs) /\ y = kV k /\ r = valV kvs k) \/ ∃ kvs k b, Rd H a (.dT (KT0 K) kvs) /\ y = .ref b /\ PKH (KT0 K) H k b /\ r = valV kvs k
def DPut (K : Fg) (H : Hp) (a : Addr) (y v : V) (H' : Hp) : Prop :=
 (∃ kvs k, H a = some (.dK kvs) /\ y = kV k /\ kvs.length < sizeLine /\ H' = upd H a (.dK (putK kvs k v))) \/
 ∃ kvs k b, H a = some (.dT (KT0 K) kvs) /\ y = .ref b /\ PKH (KT0 K) H k b /\ kvs.length < sizeLine /\ H' = upd H a (.dT (KT0 K) (putK kvs k v))
theorem DGet.k {K : Fg} {H : Hp} {a : Addr} {kvs : List (Key × V)} {k : Key} (e : H a = some (.dK kvs)) : DGet K H a (kV k) (valV kvs k) := .inl ⟨kvs, k, .inl e, rfl, rfl⟩
theorem DGet.t {K : Fg} {H : Hp} {a b : Addr} {kvs : List ((Pl × Pl) × V)} {k : Pl × Pl} (e : H a = some (.dT (KT0 K) kvs)) (eb : PKH (KT0 K) H k b) : DGet K H a (.ref b) (valV kvs k) := .inr ⟨kvs, k, b, .inl e, rfl, eb, rfl⟩
theorem DPut.k {K : Fg} {H : Hp} {a : Addr} {kvs : List (Key × V)} {k : Key} {v : V} (e : H a = some (.dK kvs)) (hl : kvs.length < sizeLine) : DPut K H a (kV k) v (upd H a (.dK (putK kvs k v))) := .inl ⟨kvs, k, e, rfl, hl, rfl⟩
theorem DPut.t {K : Fg} {H : Hp} {a b : Addr} {kvs : List ((Pl × Pl) × V)} {k : Pl × Pl} {v : V} (e : H a = some (.dT (KT0 K) kvs)) (eb : PKH (KT0 K) H k b) (hl : kvs.length < sizeLine) :
 DPut K H a (.ref b) v (upd H a (.dT (KT0 K) (putK kvs k v))) := .inr ⟨kvs, k, b, e, rfl, eb, hl, rfl⟩
section
theorem Inv.big (I : Inv X pins σ H s) : sysModules < s.heap.objs.size := by
 have h : mainGlobals < s.heap.objs.size := (I.mod.glob.keeps I.bk).lt
 exact Nat.lt_trans (by decide) h
theorem Inv.kt0 (I : Inv X pins σ H s) : ∀ b, KT0 X.K b -> ∃ t, s.heap.IsTuple b #[.int 0 t, .none] := fun b ⟨o, t, n, e, c, d⟩ => ⟨t, o, I.kIn _ _ e, c, n, d⟩
theorem ZbN {A : Around} (hu : A.units + 2 < cLine) : A.in1.units + 1 < cLine := hu
theorem ZhS (hu : A.units + 2 < cLine) (I : Inv X pins σ H s) (g : DGet X.K H a y (some v)) (ry : RelV y u) (h : ∀ w' s', Inv X pins σ H s' -> RelV v w' -> Q w' s') :
 wpAny (model X.prog X.w) A (getItem (.ref a) u) Q E s := by
 rcases g with ⟨kvs, k, e, ey, l⟩ | ⟨kvs, k, b, e, ey, eb, l⟩
 . subst ey
   obtain ⟨z, hd, vs, rel, dd⟩ := Zda I.hok e
   obtain ⟨w', hw, rw'⟩ := RelO.some_of (v := v) (o := valueAt vs k) (by rw [l]; exact rel.val k)
   exact wpAny_getItem_of (ZdD ry) dd.mapOf hw (h w' _ (I.tok _) rw')
 . subst ey
   cases (show u = Value.ref b from ry)
   obtain ⟨z, hd, xs, rel, dd⟩ := ZdE I.hok I.kt0 e
   obtain ⟨w', hw, rw'⟩ := RelO.some_of (v := v) (o := (atKey xs k).map (·.2)) (by rw [l]; exact rel.val k)
   obtain ⟨p, hp, hp2⟩ := Option.map_eq_some_iff.mp hw
   refine wpAny_getItem_heap (ZbN hu) (Zcc I.hok I.kt0 eb) dd hp ?_
   rw [hp2]
   exact h w' _ (I.tok _) rw'
theorem d_in (hu : A.units + 2 < cLine) (I : Inv X pins σ H s) (g : DGet X.K H a y o) (ry : RelV y u) (h : ∀ s', Inv X pins σ H s' -> Q (.bool o.isSome) s') :
 wpAny (model X.prog X.w) A (compareOp .In u (.ref a)) Q E s := by
 rcases g with ⟨kvs, k, e, ey, l⟩ | ⟨kvs, k, b, e, ey, eb, l⟩
 . subst ey
   obtain ⟨z, hd, vs, rel, dd⟩ := Zda I.hok e
   refine wpAny_in_of (ZdD ry) hd dd.mapOf ?_
   rw [<- (rel.val k).isSome_eq, <- l]
   exact h _ (I.tok _)
 . subst ey
   cases (show u = Value.ref b from ry)
   obtain ⟨z, hd, xs, rel, dd⟩ := ZdE I.hok I.kt0 e
   refine wpAny_in_heap (ZbN hu) (Zcc I.hok I.kt0 eb) hd dd ?_
   have q := (rel.val k).isSome_eq
   rw [Option.isSome_map] at q
   rw [<- q, <- l]
   exact h _ (I.tok _)
theorem Zg0 (hu : A.units + 2 < cLine) (I : Inv X pins σ H s) (g : DGet X.K H a y o) (ry : RelV y u) (h : ∀ s', Inv X pins σ H s' -> Q (.bool (!o.isSome)) s') :
 wpAny (model X.prog X.w) A (compareOp .NotIn u (.ref a)) Q E s := by
 rcases g with ⟨kvs, k, e, ey, l⟩ | ⟨kvs, k, b, e, ey, eb, l⟩
 . subst ey
   obtain ⟨z, hd, vs, rel, dd⟩ := Zda I.hok e
   refine wpAny_notIn_of (ZdD ry) hd dd.mapOf ?_
   rw [<- (rel.val k).isSome_eq, <- l]
   exact h _ (I.tok _)
 . subst ey
   cases (show u = Value.ref b from ry)
   obtain ⟨z, hd, xs, rel, dd⟩ := ZdE I.hok I.kt0 e
   refine wpAny_notIn_heap (ZbN hu) (Zcc I.hok I.kt0 eb) hd dd ?_
   have q := (rel.val k).isSome_eq
   rw [Option.isSome_map] at q
   rw [<- q, <- l]
   exact h _ (I.tok _)
theorem Zdb (I : Inv X pins σ H s) (mu : Mut (H a)) (hs : Heap.SameBut a s.heap h') (he : ∃ q, h'.get? a = some q) (new : Z6 X.prog X.w (upd H a ob) h' a ob) :
 Inv X pins σ (upd H a ob) { s with heap := h', toks := t' } :=
 I.write (x := a) (e := a) mu (.inl rfl) (fun b q hb z => (hs.2 b hb).trans z) he new
theorem ZhT (z : kvs.length <= sizeLine) (hd : (a == sysModules) = false) (rel : KV kvs vs) (dd : h'.DictOf (Zaw P w) a vs) :
 Z6 P w H' h' a (.dK kvs) := ⟨z, hd, vs, rel, dd⟩
theorem ZhU (hu : A.units + 2 < cLine) (I : Inv X pins σ H s) (g : DPut X.K H a y v H') (ry : RelV y u) (rv : RelV v r) (h : ∀ s', Inv X pins σ H' s' -> Q () s') :
 wpAny (model X.prog X.w) A (setItem (.ref a) u r) Q E s := by
 rcases g with ⟨kvs, k, e, ey, l, eH⟩ | ⟨kvs, k, b, e, ey, eb, l, eH⟩
 . subst ey eH
   obtain ⟨z, hd, vs, rel, dd⟩ := ZjH I.hok e
   have hz : vs.length <= sizeLine := by rw [<- rel.length]; exact z
   have hl : (putK kvs k v).length <= sizeLine := by have := ZbY kvs k v; omega
   refine wpAny_setItem_pairs (hsz := hz) (ZdD ry) dd fun h' dd' hs => h _ ?_
   have he : ∃ q, h'.get? a = some q := let ⟨q, _, _, hq, _⟩ := dd'; ⟨q, hq⟩
   exact Zdb I (by rw [e]; exact True.intro) hs he (ZhT hl hd (rel.put k rv) dd')
 . subst ey eH
   cases (show u = Value.ref b from ry)
   obtain ⟨z, hd, xs, rel, dd⟩ := ZjJ I.hok I.kt0 e
   have hz : xs.length <= sizeLine := by rw [<- Paired.length rel]; exact z
   have hl : (putK kvs k v).length <= sizeLine := by have := ZbY kvs k v; omega
   refine wpAny_setItem_heap (hsz := hz) (ZbN hu) (Zcc I.hok I.kt0 eb) dd fun h' dd' hs => h _ ?_
   obtain ⟨q, es, ep, hq, h2, h3, h4, _, h5⟩ := dd'
   refine Zdb I (by rw [e]; exact True.intro) hs ⟨q, hq⟩ ⟨hl, hd, _, (rel.put k eb rv).keeps fun c ys ec => ?_, q, es, ep, hq, h2, h3, h4, h5⟩
   rw [Zm (ZjA ec e (fun z => nomatch z))]
   exact ec
end
section
theorem ZnH (I : Inv X pins σ H s) (e : Rd H a (.dK kvs)) (h : ∀ t s', Inv X pins σ H s' -> Q (.int kvs.length t) s') : wpAny (model X.prog X.w) A (call (.builtin "len") [.ref a]) Q E s := by
 obtain ⟨z, hd, vs, rel, dd⟩ := Zda I.hok e
 refine call_len_dict hd dd (by rw [<- rel.length]; rw [sizeLine_eq] at z; omega) ?_
 rw [<- rel.length]
 exact h _ _ (I.tok _)
end
def NoSl (i : Expr) : Prop := ∀ ov iv, subscripted i false ov iv = operate [ov, iv] (getItem ov iv)
theorem Zky {prog : Program} {w : World} {A : Around} {E : Value -> Shared -> Prop} {s : Shared} {env : Env} {value slice : Expr} {pos : Pos} {T id : String} {Q : Value -> Shared -> Prop}
 (hl : typeLookup (.type T) "__getitem__" = pure (some (.builtin id))) (hs : NoSl slice)
 (h : wpAny (model prog w) A (eval value env) (fun o s₁ => wpAny (model prog w) A (eval slice env) (fun i s₂ => s₂.TypeIs o T /\ wpAny (model prog w) A (getItem o i) Q E s₂) E s₁) E s) :
 wpAny (model prog w) A (eval (.Subscript value slice pos) env) Q E s := by
 refine Subscript_ (wpAny_mono h (fun o s₁ h₁ => wpAny_mono h₁ (fun i s₂ h₂ => ?_) fun _ _ x => x) fun _ _ x => x)
 obtain ⟨hT, h₂⟩ := h₂
 unfold subscriptTail
 refine wpAny_bind ?_
 rw [getitemInPython_of_ne hT.not_modules]
 refine wpAny_bind (wpAny_specialOf hT hl ?_)
 have fin : wpAny (model prog w) A (subscripted slice false o i) (fun r s₃ => wpAny (model prog w) A (letTemporaryGo value o r >>= fun _ => pure r) Q E s₃) E s₂ := by
  rw [hs o i]
  exact wpAny_operating (wpAny_mono h₂ (fun r s₃ h₃ => wpAny_bind (wpAny_letTemporaryGo (wpAny_pure h₃))) fun _ _ x => x)
 first
  | exact wpAny_pure (wpAny_bind fin)
  | exact wpAny_bind (wpAny_pure (wpAny_bind fin))
  | exact wpAny_bind fin
theorem Zgj (I : Inv X pins σ H s) (g : DGet X.K H a y o) : s.TypeIs (.ref a) "dict" := by
 rcases g with ⟨kvs, k, e, _, _⟩ | ⟨kvs, k, b, e, _, _, _⟩
 . obtain ⟨_, _, vs, _, dd⟩ := Zda I.hok e
   exact dd.typeIs
 . obtain ⟨_, _, xs, _, dd⟩ := ZdE I.hok I.kt0 e
   exact dd.typeIs
def ZnI (K : Fg) (td ty : TE) : TE := fun σ H Q => td σ H fun x H1 => ty σ H1 fun y H2 => ∃ a v, x = .ref a /\ DGet K H2 a y (some v) /\ Q v H2
section
theorem Zkz (hu : X.A.units + 2 < cLine) (ho : PE X o td) (hi : PE X i ty) (hs : NoSl i) : PE X (.Subscript o i pos) (ZnI X.K td ty) := by
 intro pins s σ H Q I h
 refine Zky PySem.F.slot_dict_getitem.lookup hs (thn (ho pins s σ H _ I h) fun u s1 ⟨x, H1, I1, rx, q1⟩ => thn (hi pins s1 σ H1 _ I1 q1) fun iv s2 ⟨y, H2, I2, ry, a, v, ex, g, q2⟩ => ?_)
 subst ex
 obtain rfl : u = Value.ref a := rx
 exact ⟨Zgj I2 g, ZhS hu I2 g ry fun w' s3 I3 rw' => ⟨v, H2, I3, rw', q2⟩⟩
end
theorem ZiR (h : Heap) (hb : sysModules < h.objs.size) : Z6 P w H (h.push { cls := .type "dict", data := .dict #[] }) h.objs.size (.dK []) :=
 ⟨Nat.zero_le _, beq_eq_false_iff_ne.mpr (Ne.symm (Nat.ne_of_lt hb)), [], .nil, Heap.DictOf.new h⟩
theorem ZiS (h : Heap) (hb : sysModules < h.objs.size) : Z6 P w H (h.push { cls := .type "dict", data := .dict #[] }) h.objs.size (.dT S []) :=
 ⟨Nat.zero_le _, beq_eq_false_iff_ne.mpr (Ne.symm (Nat.ne_of_lt hb)), [], .nil, _, #[], 0, Heap.get?_push_size _ rfl, ⟨rfl, rfl, rfl⟩, rfl, rfl, List.nodup_nil⟩
def Zfq : List (TE × TE) -> St -> Hp -> (List (V × V) -> Hp -> Prop) -> Prop
 | [], _, H, Q => Q [] H
 | (tk, tv) :: r, σ, H, Q => tk σ H fun x H1 => tv σ H1 fun y H2 => Zfq r σ H2 fun ps H3 => Q ((x, y) :: ps) H3
abbrev VV : List (V × V) -> List (Value × Value) -> Prop := Paired fun p q => RelV p.1 q.1 /\ RelV p.2 q.2
def PPs (X : Cx) (pos : Pos) (keys : List (Option Expr)) (values : List Expr) (trs : List (TE × TE)) : Prop :=
 ∀ (pins : List (Addr × Obj)) (s : Shared) (σ : St) (H : Hp) (Q : List (V × V) -> Hp -> Prop), Inv X pins σ H s -> Zfq trs σ H Q ->
  wpAny (model X.prog X.w) X.A (evalPairs (pairTrees keys values X.env pos)) (fun vs s' => ∃ ps H', Inv X pins σ H' s' /\ VV ps vs /\ Q ps H') X.xe s
theorem Zk0 : PPs X pos [] [] [] := fun pins s σ H Q I h => pairTrees_nil_walk ⟨[], H, I, .nil, h⟩
theorem ZiT (hk : PE X k tk) (hv : PE X v tv) (hr : PPs X pos ks vs trs) :
 PPs X pos (some k :: ks) (v :: vs) ((tk, tv) :: trs) := fun pins s σ H Q I h =>
 pairTrees_cons_walk (thn (hk pins s σ H _ I h) fun u s1 ⟨x, H1, I1, rx, q1⟩ => thn (hv pins s1 σ H1 _ I1 q1) fun w2 s2 ⟨y, H2, I2, ry, q2⟩ =>
  thn (hr pins s2 σ H2 _ I2 q2) fun ws s3 ⟨ps, H3, I3, rel, q3⟩ => ⟨(x, y) :: ps, H3, I3, .cons ⟨rx, ry⟩ rel, q3⟩)
noncomputable def ZcI (kvs more : List (Key × V)) : List (Key × V) := more.foldl (fun acc kv => putK acc kv.1 kv.2) kvs
theorem KV.merge : ∀ {more : List (Key × V)} {rs : List (Key × Value)} {kvs : List (Key × V)} {vs : List (Key × Value)}, KV more rs -> KV kvs vs -> KV (ZcI kvs more) (merged vs rs) := by
 intro more rs kvs vs r
 unfold KV at r
 induction r generalizing kvs vs with
 | nil => intro q; exact q
 | @cons p q ps qs h t ih =>
  intro r0
  have e : KV (putK kvs p.1 p.2) (stored vs q.1 q.2) := by
   have := r0.put p.1 h.2
   rw [<- h.1]; exact this
  exact ih e
theorem Zc8 : ∀ (more kvs : List (Key × V)), (ZcI kvs more).length <= kvs.length + more.length
 | [], kvs => by show kvs.length <= kvs.length + 0; omega
 | p :: r, kvs => by
  have h1 := Zc8 r (putK kvs p.1 p.2)
  have h2 := ZbY kvs p.1 p.2
  show (ZcI (putK kvs p.1 p.2) r).length <= _
  rw [List.length_cons]; omega
theorem ZdF : ∀ {kvs : List (Key × V)} {ws : List (Value × Value)}, VV (kvs.map fun kv => (kV kv.1, kv.2)) ws -> ∃ rs, Carries (Zaw P w) ws rs /\ KV kvs rs
 | [], _, r => by rw [List.map_nil] at r; cases r; exact ⟨[], True.intro, .nil⟩
 | p :: kvs, _, r => by
  rw [List.map_cons] at r
  cases r with
  | @cons a b as bs h t =>
   obtain ⟨rs, c, q⟩ := ZdF (P := P) (w := w) t
   obtain ⟨b1, b2⟩ := b
   exact ⟨(p.1, b2) :: rs, ⟨ZdD h.1, rfl, c⟩, .cons ⟨rfl, h.2⟩ q⟩
def ZnJ (trs : List (TE × TE)) : TE := fun σ H Q => ∀ p, H p = none -> Zfq trs σ (upd H p (.dK [])) fun ps H2 => H2 p = some (.dK []) /\ ∃ kvs : List (Key × V), ps = kvs.map (fun kv => (kV kv.1, kv.2)) /\ kvs.length <= 15 /\ Q (.ref p) (upd H2 p (.dK (ZcI [] kvs)))
theorem Zk1 (h : PPs X pos keys values trs) (hall : keys.all (·.isSome) = true) (hl : keys.length = values.length) (h0 : keys ≠ [])
 (h15 : keys.length <= 15) : PE X (.Dict keys values pos) (ZnJ trs) := by
 intro pins s σ H Q I q
 have hn := I.hok.fresh (Nat.le_refl s.heap.objs.size)
 have I1 := I.laid (a := s.heap.objs.size) (o := .dK []) (h' := s.heap.push { cls := .type "dict", data := .dict #[] }) (t' := s.toks) (fun _ _ q => Heap.get?_push_of_some _ q) (Nat.le_refl _) (ZiR s.heap I.big)
 refine wpAny_Dict_walk (knd := Zaw X.prog X.w) hall hl h0 h15 (thn (h pins _ σ _ _ I1 (q _ hn)) fun ws s2 z0 => ?_)
 obtain ⟨ps, H2, I2, rel, e, kvs, ep, lk, q2⟩ := z0
 subst ep
 obtain ⟨rs, c, rk⟩ := ZdF (P := X.prog) (w := X.w) rel
 obtain ⟨z, hd, vs0, r0, dd⟩ := ZjH I2.hok e
 cases r0
 refine ⟨rs, c, dd, fun h' dd' hs => ⟨.ref s.heap.objs.size, _, ?_, rfl, q2⟩⟩
 have hz : (ZcI [] kvs).length <= sizeLine := by
  have h1 := Zc8 kvs []
  rw [List.length_nil] at h1
  rw [sizeLine_eq]; omega
 have he : ∃ q, h'.get? s.heap.objs.size = some q := let ⟨q, _, _, hq, _⟩ := dd'; ⟨q, hq⟩
 exact Zdb I2 (by rw [e]; exact True.intro) hs he (ZhT hz hd (rk.merge .nil) dd')
structure M1 (X : Cx) (o : Expr) (m : Str) (apos : Pos) (e : Expr) (cpos : Pos) : Prop where
 base : attributeBase o m X.env (eval o X.env) = eval o X.env
 few : ((backTo cpos (starEach [e] X.env)).all (fun x => !x.1) && (backToKw cpos (keywordEach [] X.env)).all (fun x => x.1.isSome)
  && decide (([e] : List Expr).length + ([] : List Keyword).length + (if ([] : List Keyword).isEmpty then 0 else 1) < 30)) = true
 line : (apos.endLine == cpos.line) = true
 trees : backTo cpos (starEach [e] X.env) = [(false, eval e X.env)]
structure M2 (X : Cx) (o : Expr) (m : Str) (apos : Pos) (e f : Expr) (cpos : Pos) : Prop where
 base : attributeBase o m X.env (eval o X.env) = eval o X.env
 few : ((backTo cpos (starEach [e, f] X.env)).all (fun x => !x.1) && (backToKw cpos (keywordEach [] X.env)).all (fun x => x.1.isSome)
  && decide (([e, f] : List Expr).length + ([] : List Keyword).length + (if ([] : List Keyword).isEmpty then 0 else 1) < 30)) = true
 line : (apos.endLine == cpos.line) = true
 trees : backTo cpos (starEach [e, f] X.env) = [(false, eval e X.env), (false, eval f X.env)]
end L2
namespace Att
open PySem PySem.W PySem.Calls PyProof.Rows
theorem ZdG : ∀ (ns : List Int) (vs : List Value), WellAll P h vs (ns.map WData.int) -> IntsAre vs ns := by
 intro ns
 induction ns with
 | nil =>
  intro vs w
  rw [List.map_nil] at w
  cases w
  exact .nil
 | cons n ns ih =>
  intro vs w
  rw [List.map_cons] at w
  cases w with
  | cons a b =>
   cases a
   exact .cons _ _ (ih _ b)
theorem ZhV {l : OpenLaw} {n : Nat} (hn : l.most = some n) {P : Params} {h : Heap} {args : List WData} {vals : List Value}
 (hpre : l.row.toRowW.claim.pre args = true) (hwl : WellAll P h vals args) :
 ∃ a vs ns, vals = [Value.ref a] /\ args = [WData.list (ns.map WData.int)] /\ h.get? a = some { cls := .type "list", data := .seq vs.toArray } /\ IntsAre vs ns /\ ns.length <= n := by
 have hsh : WShape.hasAll [] args [.list .int] = true := (pre_splitW hpre).1
 have hc : l.pre.holds [] { args := args } = true := (pre_splitW hpre).2
 obtain ⟨d, r, rfl, h1, h2⟩ := hasAllW_cons hsh
 obtain rfl := hasAllW_nil h2
 obtain ⟨xs, rfl, h3⟩ := hasW_list h1
 obtain ⟨ns, rfl⟩ := items_int h3
 have hlen : ns.length <= n := by
  unfold OpenLaw.pre at hc
  have h4 : (WTm.not (.lt (.lit (.int (n : Int))) (.len (.arg 0)))).holds [] { args := [.list (ns.map .int)] } = true := by
   have h4 := (holds_andW hc).1
   rw [hn] at h4
   exact h4
  have h5 := condW_of h4 (w_not (w_lt w_lit (w_len_list (w_arg rfl))))
  rw [List.length_map] at h5
  refine Nat.le_of_not_lt fun q => ?_
  have q' : (n : Int) < ((ns.length : Nat) : Int) := by omega
  first
   | (rw [decide_eq_true q'] at h5; exact absurd h5 (by decide))
   | (simp at h5; omega)
 cases hwl with
 | cons w1 w2 =>
  cases w2
  cases w1 with
  | list ho hall => exact ⟨_, _, ns, rfl, rfl, ho, ZdG ns _ hall, hlen⟩
theorem ZhW (l : OpenLaw) (args : List WData) : l.row.toRowW.claim.post args (.bool true) args = true :=
 postW_of (r := l.row.toRowW) (X := (true == true))
  (show WShape.has [] (.bool true) .bool = true by first | rfl | decide | simp [WShape.has, WShape.arms, WShape.armsAll])
  (show (WTm.eq .res (.lit (.bool true))).value [] { args := args, res := some (.bool true), after := args } = some (.bool (true == true)) from w_eq_bool (w_res rfl) w_lit) rfl
theorem Zgk {l : OpenLaw} {n : Nat} {q : Program} {loose : List Str} {XP : (Str -> Option Value) -> Heap -> Prop} {YP : World -> Heap -> Prop} {d : DefRec}
 (hn : l.most = some n) (hdf : d.params.defaults = [])
 (call : ∀ (w : World) (s₀ s₁ : Shared) (mg mb : Str -> Option Value) (fa : Addr) (o : Obj) (pm cd doc : Value) (a : Addr) (vs : List Value) (ns : List Int),
  Ground q loose [] XP w s₀ mg mb s₁.heap -> YP w s₁.heap ->
  s₁.heap.get? fa = some o -> o.data = .func (docDef d.name d.params d.body d.scope pm cd doc) -> s₁.heap.CodeRec cd d.name -> mg d.name = some (.ref fa) ->
  s₁.heap.get? a = some { cls := .type "list", data := .seq vs.toArray } -> IntsAre vs ns -> ns.length <= n -> s₁.gens = #[] ->
  codeAny (model l.prog w) callerA (.call (.ref fa) ⟨[.ref a], []⟩) (fun r s' => r = .ok (.ret (.bool true)) /\ OldK s₁.heap s'.heap /\ s'.os = s₁.os /\ AllBare s'.gens) s₁) :
 WalkO q loose XP YP l.row.toRowW d [] (fun f vs => PySem.call f vs) := by
 intro w s₀ s₁ mg mb G Y fa o pm cd doc dV kV ho hd hcd hD hmg hg args vals as hpre hlay hrd hwl hlo
 obtain rfl : dV = .none := Dflts.none hD hdf
 obtain rfl : kV = .none := Dflts.noKw hD
 obtain ⟨a, vs, ns, rfl, rfl, hobj, hints, hlen⟩ := ZhV hn hpre hwl
 refine enter_call (codeAny_mono (call w s₀ s₁ mg mb fa o pm cd doc a vs ns G Y ho (fd_plain hd) hcd hmg hobj hints hlen hg) fun r s' hq => ?_)
 obtain ⟨rfl, h2, h3, h4⟩ := hq
 exact ⟨.inl ⟨.bool true, .bool true, [], rfl, fun _ => rfl, .bool true, ZhW l _, fun _ => ⟨List.Pairwise.nil, fun _ hm => (nomatch hm)⟩⟩, h2, h3, h4⟩
end Att
namespace L2
open PySem PySem.Spec PyProof.Rows
theorem ZbO : ∀ {vs : List Value} {ns : List Int}, IntsAre vs ns -> Vals (ns.map V.int) vs
 | _, _, .nil => .nil
 | _, _, .cons n t h => .cons ⟨t, rfl⟩ (ZbO h)
def Only (H : Hp) : Prop := ∀ b, H b = none \/ ∃ o xs, H b = some (.frz o (.lst xs))
theorem ZiU {P : Program} {w : World} {K : Fg} {mg mb : Str -> Option Value} {CX : CXT} {k : Nat} {fa a : Addr} {fd : FuncData} {x : Str} {sp : Sp} {s₁ : Shared} {vs : List Value} {ns : List Int}
 (KX : K.In s₁.heap) (hns : s₁.heap.Ns mainGlobals mg) (hb : s₁.heap.Ns builtinsNs mb) (hbb : ∀ x : Str, x ≠ "__name__" -> mb x = bootBuiltins x) (hlim : s₁.heap.NoLimit) (hg : s₁.gens = #[])
 (ha : s₁.heap.get? a = some { cls := .type "list", data := .seq vs.toArray }) (hi : IntsAre vs ns) (hl : ns.length <= sizeLine) (hr : Room k callerA)
 (F : ∀ base : Heap, K.In base -> base.Ns mainGlobals mg -> FnOk P w K mg base CX k fa fd [x] sp) (hbind : ∀ (s : Shared) (u : Value), BindsTo s fd ⟨[u], []⟩ [(x, u)])
 (hsp : ∀ H : Hp, Only H -> SqL K H a (ns.map V.int) -> sp [.ref a] H (fun v _ => v = .bl true) fun _ _ _ => False)
 (hCX : ∀ H e s', CX [] H s₁ (fun _ _ _ => False) e s' -> False) :
 codeAny (model P w) callerA (.call (.ref fa) ⟨[.ref a], []⟩) (fun r s' => r = .ok (.ret (.bool true)) /\ OldK s₁.heap s'.heap /\ s'.os = s₁.os /\ AllBare s'.gens) s₁ := by
 have rv := ZbO hi
 have lenV := hi.length
 have core : ∀ H : Hp, Only H -> SqL K H a (ns.map V.int) -> HOk P w H s₁.heap -> (∀ b, H b ≠ none -> b = a) -> (H a ≠ none -> K.lookup a = none) ->
  codeAny (model P w) callerA (.call (.ref fa) ⟨[.ref a], []⟩) (fun r s' => r = .ok (.ret (.bool true)) /\ OldK s₁.heap s'.heap /\ s'.os = s₁.os /\ AllBare s'.gens) s₁ := by
  intro H hO hS hok hA hK
  have base_of : ∀ {b : Addr} {o : Obj}, s₁.heap.get? b = some o -> H b = none -> (hidT s₁.heap H).get? b = some o := fun e n => ZiE e n
  have noA : ∀ {b : Addr} {o : Obj} {es : Array DictEntry} {ep : Nat}, s₁.heap.get? b = some o -> o.data = .dict es ep -> H b = none := fun {b o es ep} e d => by
   cases q : H b with
   | none => rfl
   | some u =>
    have e' : b = a := hA b (by rw [q]; simp)
    subst e'
    rw [ha] at e; cases e
    have d' : Data.seq vs.toArray _ = Data.dict es ep := d
    cases d'
  have nsK : ∀ {b : Addr} {m : Str -> Option Value}, s₁.heap.Ns b m -> (hidT s₁.heap H).Ns b m := fun {b m} ⟨o, es, ep, e, d, r⟩ => ⟨o, es, ep, base_of e (noA e d), d, r⟩
  have hKb : K.In (hidT s₁.heap H) := fun b o e => base_of (KX b o e) (by
   cases q : H b with
   | none => rfl
   | some u =>
    have e' : b = a := hA b (by rw [q]; simp)
    subst e'
    rw [hK (by rw [q]; simp)] at e; cases e)
  have hM : Mod K mg (hidT s₁.heap H) := ⟨hKb, nsK hns, ⟨mb, nsK hb, hbb⟩, let ⟨mc, h1, h2⟩ := hlim; ⟨mc, nsK h1, h2⟩⟩
  have e0 : Env0 P w K mg (hidT s₁.heap H) callerA [] s₁ H := ⟨rfl, hM, fun b o e => Zkd e, Nat.le_of_eq (Zh6 _ _), trivial, fun b hb => absurd (show b ∈ ([] : List Addr) from hb) (by simp), hok, .of_eq hg⟩
  refine codeAny_mono ((F _ hKb (nsK hns)).run callerA [] s₁ H ⟨[.ref a], []⟩ [.ref a] [.ref a] _ _ hr e0 (hbind s₁ (.ref a)) (.cons rfl .nil) (hsp H hO hS)) fun r s' h => ?_
  cases r with
  | error e => exact (hCX H e s' h).elim
  | ok fl =>
   cases fl with
   | next => exact False.elim h
   | brk => exact False.elim h
   | cont => exact False.elim h
   | ret u =>
    obtain ⟨v, H', os, bare, un, hok', r', q⟩ := h
    have q' : v = .bl true := q
    subst q'
    obtain rfl : u = Value.bool true := r'
    refine ⟨rfl, OldK.of_keep fun b o e => ?_, os, bare⟩
    cases q : H b with
    | none => exact un.keep b o e q (by intro z; exact absurd (show b ∈ ([] : List Addr) from z) (by simp)) (by simp)
    | some u =>
     rcases hO b with z | ⟨ob, xs, z⟩
     . rw [q] at z; cases z
     . have z2 := un.frzs b ob _ z
       obtain ⟨e1, _⟩ := hok b _ z
       obtain ⟨e2, _⟩ := hok' b _ z2
       rw [e] at e1; cases e1
       exact e2
 cases hk : K.lookup a with
 | some o =>
  have e := KX a o hk
  rw [ha] at e
  cases e
  refine core (fun _ => none) (fun _ => .inl rfl) (.inr ⟨_, vs.toArray, _, hk, rfl, rfl, rfl, by rw [List.size_toArray, lenV]; exact hl, by simpa using rv⟩) (fun b u z => by have z' : (none : Option HO) = some u := z; cases z') (fun b z => absurd rfl z) fun z => absurd rfl z
 | none =>
  refine core (fun b => if b = a then some (.frz { cls := .type "list", data := .seq vs.toArray } (.lst (ns.map V.int))) else none) (fun b => ?_) (.inl (.inr ⟨{ cls := .type "list", data := .seq vs.toArray }, if_pos rfl⟩)) (fun b u z => ?_) (fun b z => ?_) fun _ => hk
  . by_cases hb : b = a
    . exact .inr ⟨_, _, if_pos hb⟩
    . exact .inl (if_neg hb)
  . by_cases hb : b = a
    . have z' := (if_pos hb).symm.trans z
      cases z'
      subst hb
      exact ⟨ha, by rw [List.length_map]; exact hl, vs, _, rv, ha⟩
    . have z' := (if_neg hb).symm.trans z
      cases z'
  . by_cases hb : b = a
    . exact hb
    . exact absurd (if_neg hb) z
end L2
namespace L2
open PySem PySem.Spec PyProof.Rows
theorem Zk2 {l : PySem.W.OpenLaw} {n k : Nat} {q : Program} {loose : List Str} {XP : (Str -> Option Value) -> Heap -> Prop} {YP : World -> Heap -> Prop} {d : DefRec} {K : Params -> Fg} {CX : World -> CXT} {sp : World -> Sp} {x : Str}
 (hn : l.most = some n) (hn2 : n <= sizeLine) (hdf : d.params.defaults = []) (hr : Room k callerA)
 (hY : ∀ (w : World) (h : Heap), YP w h -> (K w.params).In h)
 (F : ∀ (w : World) (mg : Str -> Option Value) (fa : Addr) (h : Heap), (K w.params).In h -> h.Ns mainGlobals mg -> mg d.name = some (.ref fa) ->
  ∃ fd : FuncData, (∀ (s : Shared) (u : Value), BindsTo s fd ⟨[u], []⟩ [(x, u)]) /\
   ∀ base : Heap, (K w.params).In base -> base.Ns mainGlobals mg -> FnOk l.prog w (K w.params) mg base (CX w) k fa fd [x] (sp w))
 (hsp : ∀ (w : World) (H : Hp) (a : Addr) (ns : List Int), ns.length <= n -> Only H -> SqL (K w.params) H a (ns.map V.int) -> sp w [.ref a] H (fun v _ => v = .bl true) fun _ _ _ => False)
 (hCX : ∀ (w : World) (H : Hp) (s : Shared) (e : Value) (s' : Shared), CX w [] H s (fun _ _ _ => False) e s' -> False) :
 PySem.W.WalkO q loose XP YP l.row.toRowW d [] (fun f vs => PySem.call f vs) := by
 refine Att.Zgk hn hdf fun w s₀ s₁ mg mb fa o pm cd doc a vs ns G Y ho hd hcd hmg hobj hints hlen hg => ?_
 have KX := hY w _ Y
 obtain ⟨fd, hb, hF⟩ := F w mg fa _ KX G.T.g hmg
 exact ZiU KX G.T.g G.T.b G.T.builtins G.T.nolimit hg hobj hints (Nat.le_trans hlen hn2) hr hF hb (fun H hO hS => hsp w H a ns hlen hO hS) fun H e s' => hCX w H s₁ e s'
theorem ZiV {l : PySem.W.OpenLaw} {n k : Nat} {q : Program} {loose : List Str} {XP : (Str -> Option Value) -> Heap -> Prop} {YP : World -> Heap -> Prop} {d : DefRec} {K : Params -> Fg} {CX : CXT} {sp : Fg -> Sp} {x : Str}
 (hn : l.most = some n) (hn2 : n <= sizeLine) (hdf : d.params.defaults = []) (hr : Room k callerA)
 (hY : ∀ (w : World) (h : Heap), YP w h -> (K w.params).In h)
 (F : ∀ (w : World) (mg : Str -> Option Value) (fa : Addr) (h : Heap), (K w.params).In h -> h.Ns mainGlobals mg -> mg d.name = some (.ref fa) ->
  ∃ fd : FuncData, (∀ (s : Shared) (u : Value), BindsTo s fd ⟨[u], []⟩ [(x, u)]) /\
   ∀ base : Heap, (K w.params).In base -> base.Ns mainGlobals mg -> FnOk l.prog w (K w.params) mg base CX k fa fd [x] (sp (K w.params)))
 (hsp : ∀ (K : Fg) (H : Hp) (a : Addr) (ns : List Int), ns.length <= n -> Only H -> SqL K H a (ns.map V.int) -> sp K [.ref a] H (fun v _ => v = .bl true) fun _ _ _ => False)
 (hCX : ∀ (H : Hp) (s : Shared) (e : Value) (s' : Shared), CX [] H s (fun _ _ _ => False) e s' -> False) :
 PySem.W.WalkO q loose XP YP l.row.toRowW d [] (fun f vs => PySem.call f vs) :=
 Zk2 (K := K) (CX := fun _ => CX) (sp := fun w => sp (K w.params)) hn hn2 hdf hr hY F (fun w H a ns h1 h2 h3 => hsp (K w.params) H a ns h1 h2 h3) fun _ H s e s' => hCX H s e s'
end L2
namespace L2
open PySem PySem.Spec PyProof.Rows
noncomputable def ZaA (s : Stmt) (j : Nat) : Stmt := match s with
 | .ClassDef _ _ _ body _ _ _ _ _ _ _ => body.getD j (.Pass ⟨0, 0, 0, 0⟩)
 | _ => .Pass ⟨0, 0, 0, 0⟩
noncomputable def Zbj (s : Stmt) : Arguments := match s with
 | .FunctionDef _ a _ _ _ _ _ _ _ _ => a
 | _ => { posonlyargs := [], args := [], vararg := none, kwonlyargs := [], kw_defaults := [], kwarg := none, defaults := [] }
noncomputable def Zan (s : Stmt) : List Stmt := match s with
 | .FunctionDef _ _ b _ _ _ _ _ _ _ => b
 | _ => []
noncomputable def Zy (s : Stmt) : Scope := match s with
 | .FunctionDef _ _ _ _ _ _ sc _ _ _ => sc
 | _ => { kind := .function, names := [], isGenerator := false, isCoroutine := false }
noncomputable abbrev CX0 : CXT := fun _ _ _ _ _ _ => False
noncomputable abbrev E0 : XK := fun _ _ _ => False
theorem ZeR : Passes CX0 X E0 := fun _ _ _ _ _ _ _ h => h.elim
structure FunV (dV : Value) (K : Fg) (x qual : Str) (st : Stmt) (f : Addr) (fd : FuncData) : Prop where
 ex : ∃ (oc : Value) (od : Option Addr) (kV doc pm : Value) (an : Option Addr) (cdv ct : Value) (osl : Array (Option Value)),
  fd = PySem.W.fnOf x qual (Zbj st) (Zan st) (Zy st) dV kV doc pm an cdv ct /\ K.lookup f = some ⟨oc, od, .func fd, osl⟩ /\ PySem.W.codeIn K cdv qual = true
 kp : PySem.W.keepIn K (.ref f) = true
noncomputable abbrev Fun := FunV .none
section
variable {P : Program} {w : World} {K : Fg} {mg : Str -> Option Value} {base : Heap}
theorem FunV.ok {dV : Value} {x qual : Str} {st : Stmt} {f : Addr} {fd : FuncData} {N ps : List Str} {k : Nat} {sp : Sp} (F : FunV dV K x qual st f fd) (S : FnScope N ps (Zy st)) (len : ∀ vs H Q E, sp vs H Q E -> vs.length = ps.length)
 (hbody : ∀ (cdv : Value) (A : Around) (outer : List Env) (s : Shared) (H : Hp) (vs : List V) (Q : VK) (E : XK), Room k (A.deeper (envOfC qual (Zy st) s.heap.objs.size f cdv)) -> sp vs H Q E ->
  ∃ t, PSs (cxOf CX0 P w K mg base N qual (Zy st) f cdv A outer s H E).nox (Zan st) t /\ t { nx := fun _ H' => Q .non H', rt := Q } (start N vs) H) : FnOk P w K mg base CX0 (k + 1) f fd ps sp := by
 obtain ⟨oc, od, kV, doc, pm, an, cdv, ct, osl, rfl, lk, hcd⟩ := F.ex
 refine ZnE lk hcd S len fun A outer s H vs Q E hr hsp => ?_
 obtain ⟨t, h, q⟩ := hbody cdv A outer s H vs Q E hr hsp
 exact ⟨t, h.nox, q⟩
theorem FunV.binds {x qual : Str} {st : Stmt} {f : Addr} {fd : FuncData} {ps : List Str} (F : Fun K x qual st f fd)
 (h : ∀ (kV doc pm : Value) (an : Option Addr) (cdv ct : Value) (us : List Value), us.length = ps.length -> bindArgs (PySem.W.fnOf x qual (Zbj st) (Zan st) (Zy st) .none kV doc pm an cdv ct) ⟨us, []⟩ = pure (ps.zip us)) : Binds K fd ps [] := by
 obtain ⟨oc, od, kV, doc, pm, an, cdv, ct, osl, rfl, lk, hcd⟩ := F.ex
 exact .all (h kV doc pm an cdv ct)
theorem ZhX {x qual : Str} {st : Stmt} {f : Addr} {oc : Value} {od an : Option Addr} {osl : Array (Option Value)} {kV doc pm cdv ct : Value} (l : K.lookup f = some ⟨oc, od, .func (PySem.W.fnOf x qual (Zbj st) (Zan st) (Zy st) .none kV doc pm an cdv ct), osl⟩)
 (c : PySem.W.codeIn K cdv qual = true) (k : PySem.W.keepIn K (.ref f) = true) : Fun K x qual st f (PySem.W.fnOf x qual (Zbj st) (Zan st) (Zy st) .none kV doc pm an cdv ct) := ⟨⟨oc, od, kV, doc, pm, an, cdv, ct, osl, rfl, l, c⟩, k⟩
end
def Same (H H' : Hp) : Prop := ∀ b o, H b = some o -> H' b = some o
theorem Same.refl (H : Hp) : Same H H := fun _ _ h => h
theorem Same.trans (a : Same H H1) (b : Same H1 H2) : Same H H2 := fun c o h => b c o (a c o h)
theorem Same.seq {K : Fg} {H H' : Hp} {a : Addr} {xs : List V} (e : Same H H') (h : SqL K H a xs) : SqL K H' a xs := by
 rcases h with (h | ⟨o, h⟩) | h
 . exact .inl (.inl (e _ _ h))
 . exact .inl (.inr ⟨o, e _ _ h⟩)
 . exact .inr h
section
theorem ZhY : ZG X (.builtin "len") (fun xs H Q => ∃ a kvs, xs = [V.ref a] /\ H a = some (.dK kvs) /\ Q (.int kvs.length) H) := by
 intro pins s σ H xs us Q I r h
 obtain ⟨a, kvs, rfl, ha, q⟩ := h
 obtain ⟨u, rfl, ru⟩ := Zcs r
 cases ru
 exact ZnH I (.inl ha) fun t s' I' => ⟨.int kvs.length, H, I', ⟨t, rfl⟩, q⟩
end
end L2
namespace L2
open PySem PySem.Spec PyProof.Rows
noncomputable def TB (T : Addr) : HO := .ext fun h => ∃ o ts, h.get? T = some o /\ o.data = .fields ts /\ 3 < ts.size
structure FlyT (φ : Value -> Prop) (H : Hp) (h : Heap) (ea : Addr) : Prop where
 ex : ∃ (C : Addr) (dx : Option Addr) (fs : List (Str × V)) (oe : Obj) (vs : Array Value) (T : Addr) (oT : Obj) (ts : Array Value) (fl : Value), H ea = some (.exc C dx false fs) /\ h.get? ea = some oe /\ oe.data = .fields vs /\ vs.size = 6 /\ vs[1]? = some (.ref T) /\
  H T = some (TB T) /\ h.get? T = some oT /\ oT.data = .fields ts /\ ts[3]? = some fl /\ φ fl
structure FlyN (H : Hp) (h : Heap) (ea : Addr) : Prop where
 ex : ∃ (C : Addr) (dx : Option Addr) (fs : List (Str × V)) (oe : Obj) (vs : Array Value), H ea = some (.exc C dx false fs) /\ h.get? ea = some oe /\ oe.data = .fields vs /\ vs.size = 6 /\ vs[1]? = some .none
def Fly (X : Cx) (H : Hp) (h : Heap) (ea : Addr) : Prop := FlyN H h ea \/ FlyT (fun fl => fl = .none \/ fl = rawInt X.env.locals) H h ea
section
variable {X : Cx} {A : Around} {M : Model} {E : Value -> Shared -> Prop} {pins : List (Addr × Obj)} {σ : St} {H : Hp} {s : Shared} {ea : Addr}
structure EndX extends Ends where
 xc : Addr -> St -> Hp -> Prop
abbrev TX := EndX -> St -> Hp -> Prop
def XP (X : Cx) (pins : List (Addr × Obj)) (xc : Addr -> St -> Hp -> Prop) (e : Value) (s' : Shared) : Prop :=
 X.xe e s' \/ ∃ ea σ' H', e = .ref ea /\ Inv X pins σ' H' s' /\ Fly X H' s'.heap ea /\ ∀ H'', Same H' H'' -> xc ea σ' H''
def PX (X : Cx) (st : Stmt) (t : TX) : Prop :=
 ∀ (pins : List (Addr × Obj)) (s : Shared) (σ : St) (H : Hp) (D : EndX), Inv X pins σ H s -> t D σ H -> wpAny (model X.prog X.w) X.A (exec st X.env) (SP X pins D.toEnds) (XP X pins D.xc) s
def PXs (X : Cx) (st : List Stmt) (t : TX) : Prop :=
 ∀ (pins : List (Addr × Obj)) (s : Shared) (σ : St) (H : Hp) (D : EndX), Inv X pins σ H s -> t D σ H -> wpAny (model X.prog X.w) X.A (execs st X.env) (SP X pins D.toEnds) (XP X pins D.xc) s
end
end L2
namespace L2
open PySem PySem.Spec PyProof.Rows
section
variable {X : Cx} {A : Around} {pins : List (Addr × Obj)} {σ : St} {H : Hp} {s : Shared} {pos : Pos}
noncomputable def CXx (P : Program) (w : World) : CXT := fun outer H s E e s' => ∃ ea H', e = .ref ea /\ s'.os = s.os /\ AllBare s'.gens /\ Un (frs outer) [] H H' s.heap s'.heap /\ HOk P w H' s'.heap /\ FlyT (fun fl => fl = Value.none) H' s'.heap ea /\
 ∀ H'', Same H' H'' -> E (.ref ea) none H''
def EXP (X : Cx) (pins : List (Addr × Obj)) (σ : St) (Ex : Addr -> Hp -> Prop) (e : Value) (s' : Shared) : Prop :=
 X.xe e s' \/ ∃ ea H', e = .ref ea /\ Inv X pins σ H' s' /\ Fly X H' s'.heap ea /\ ∀ H'', Same H' H'' -> Ex ea H''
abbrev TEX := St -> Hp -> VK -> (Addr -> Hp -> Prop) -> Prop
def PEx (X : Cx) (e : Expr) (t : TEX) : Prop :=
 ∀ (pins : List (Addr × Obj)) (s : Shared) (σ : St) (H : Hp) (Q : VK) (Ex : Addr -> Hp -> Prop), Inv X pins σ H s -> t σ H Q Ex -> wpAny (model X.prog X.w) X.A (eval e X.env) (EP X pins σ Q) (EXP X pins σ Ex) s
end
end L2
namespace L2
open PySem PySem.Spec PyProof.Rows
noncomputable def bmV : List Value := [.type "ValueError", .type "Exception", .type "BaseException", .type "object"]
noncomputable def ZjK : List Value -> Bool
 | .ref _ :: l => ZjK l
 | l => l == bmV
structure XC (K : Fg) (C : Addr) : Prop where
 obj : ∃ (nm q : Str) (N : Addr) (bs bm : List Value) (sn : List Str) (sub : List Value) (ab : Bool) (col : Option Bool) (dd : Option Addr) (k0 k1 k2 k3 k5 : Option Value),
  K.lookup C = some (excClassObj nm q C N bs bm true sn sub ab col dd k0 k1 k2 k3 k5 "ValueError.__new__") /\ PySem.W.tailIn K bmV bm = true /\ ZjK bm = true
 sa : PySem.W.findIn K (.ref C) (Str.ofString "__setattr__") = some (some (.builtin "object.__setattr__"))
 ga : PySem.W.findIn K (.ref C) (Str.ofString "__getattribute__") = some (some (.builtin "BaseException.__getattribute__"))
 kp : PySem.W.keepIn K (.ref C) = true
end L2
namespace L2
open PySem PySem.Spec PyProof.Rows
section
variable {prog : Program} {w : World} {A : Around} {E : Value -> Shared -> Prop} {K : Fg} {C f a : Addr} {h : Heap} {g : Array GenState} {d : Drawn} {t : Nat} {os : OsState} {rest : List Value} {oe : Obj} {od : Option Obj} {name : Str} {v : Value}
structure XD (K : Fg) (C : Addr) : Prop extends XC K C where
 hk : PySem.W.findIn K (.ref C) (Str.ofString "__getattr__") = some none
 hc : PySem.W.findIn K (.ref C) "__class__" = some (some (.builtin "object.__class__"))
 hn : PySem.W.specialIn K (.builtin "object.__class__") "__get__" = some (some (.builtin "getset_descriptor.__get__"))
 ht : PySem.W.takesIn K (.builtin "object.__class__") = some true
end
end L2
namespace L2
open PySem PySem.Spec PyProof.Rows
def GX (K : Fg) (n : Str) (C : Addr) : Prop := PySem.W.nsIn K mainGlobals n = some (some (.ref C)) /\ (PySem.W.clsIn K C).map (·.name) = some n
def bmOf (K : Fg) : List Str -> List Value -> Prop
 | [], bm => bm = bmV
 | n :: ns, bm => ∃ L bm', bm = .ref L :: bm' /\ GX K n L /\ bmOf K ns bm'
noncomputable def Zef : List Str := ["row", "number", "length", "numbers"]
structure XN (K : Fg) (ns : List Str) (C : Addr) : Prop extends XD K C where
 nms : ∃ cd, PySem.W.clsIn K C = some cd /\ bmOf K ns cd.mro
 nof : ∀ f ∈ Zef, Zad K C f
end L2
namespace L2
open PySem PySem.Spec PyProof.Rows
section
variable {X : Cx} {pins : List (Addr × Obj)} {σ : St} {H : Hp} {s : Shared} {A : Around} {M : Model} {E : Value -> Shared -> Prop} {i : Nat} {x : Str}
structure HS where
 c : Str
 nm : Option Nat
 ts : TS
noncomputable def HS.put (h : HS) (ea : Addr) (σ : St) : St := match h.nm with
 | none => σ
 | some i => σ.set i (some (.ref ea))
end
end L2
namespace L2
open PySem PySem.Spec PyProof.Rows
section
variable {X : Cx}
def Zk3 (K : Fg) (tk tv : TE) : TE := fun σ H Q => ∀ p, H p = none -> tk σ (upd H p (.dT (KT0 K) [])) fun y H1 => tv σ H1 fun x H2 => ∃ b key, H2 p = some (.dT (KT0 K) []) /\ y = .ref b /\ PKH (KT0 K) H2 key b /\ Q (.ref p) (upd H2 p (.dT (KT0 K) [(key, x)]))
theorem ZhZ {k v : Expr} {tk tv : TE} {pos : Pos} (hu : X.A.units + 2 < cLine) (hk : PE X k tk) (hv : PE X v tv) : PE X (.Dict [some k] [v] pos) (Zk3 X.K tk tv) := by
 intro pins s σ H Q I q
 have hn := I.hok.fresh (Nat.le_refl s.heap.objs.size)
 have I1 := I.laid (a := s.heap.objs.size) (o := .dT (KT0 X.K) []) (h' := s.heap.push { cls := .type "dict", data := .dict #[] }) (t' := s.toks) (fun _ _ q => Heap.get?_push_of_some _ q) (Nat.le_refl _) (ZiS s.heap I.big)
 refine wpAny_Dict_any rfl rfl (by simp) (by simp) (pairTrees_cons_walk (thn (hk pins _ σ _ _ I1 (q _ hn)) fun kv s1 z0 => ?_))
 obtain ⟨y, H1, I1', ry, q1⟩ := z0
 refine thn (hv pins s1 σ H1 _ I1' q1) fun vv s2 z0 => pairTrees_nil_walk ?_
 obtain ⟨x, H2, I2, rx, b, key, e, ey, hb, q2⟩ := z0
 subst ey
 obtain rfl : kv = Value.ref b := ry
 obtain ⟨z, hd, xs, rel, dd⟩ := ZjJ I2.hok I2.kt0 e
 cases rel
 unfold storeAll
 (simp only [List.forIn_cons, List.forIn_nil])
 refine wpAny_bind (wpAny_bind (wpAny_dictSet_heap (hsz := by simp) (knd := Zbi X.prog X.w) (by show X.A.units + 1 < cLine; omega) (Zcc I2.hok I2.kt0 hb) dd fun h' dd' hs => wpAny_pure (wpAny_pure ?_)))
 obtain ⟨o, es, ep, hq, h2, h3, h4, _, h5⟩ := dd'
 refine ⟨.ref s.heap.objs.size, _, Zdb (ob := .dT (KT0 X.K) [(key, x)]) I2 (by rw [e]; exact True.intro) hs ⟨o, hq⟩ ⟨by show 1 <= sizeLine; rw [sizeLine_eq]; decide, hd, _, (KT.put (S := KT0 X.K) (H := H2) (kvs := []) (xs := []) .nil key hb rx).keeps fun c ys ec => ?_, o, es, ep, hq, h2, h3, h4, h5⟩, rfl, q2⟩
 rw [Zm (ZjA ec e (fun z => nomatch z))]
 exact ec
end
end L2
namespace L2
open PySem PySem.Spec PyProof.Rows
noncomputable def cxC (X : Cx) (N' : List Str) (scope : Scope) (cl : List (Str × Addr)) (C : Addr) (s₀ : Shared) (H₀ : Hp) (ex : List Addr) : Cx where
 prog := X.prog
 w := X.w
 K := X.K
 mg := X.mg
 base := X.base
 A := X.A
 N := N'
 s₀ := s₀
 H₀ := H₀
 env := compEnvC scope cl C X.env
 outer := X.stack
 stack := X.stack
 ex := ex
 fn := fun _ => false
 calm := X.calm
 pn := []
 xe := fun _ _ => False
theorem ZdH (h : ∀ y ∈ scope.names, y.2 = .free -> ∃ c, env.cells.lookup y.1 = some c) :
 ∃ cl, closureFor scope env = pure cl /\ (∀ y c, cl.lookup y = some c -> env.cells.lookup y = some c) /\ ∀ y ∈ scope.names, y.2 = .free -> ∃ c, cl.lookup y.1 = some c := by
 have go : ∀ (names : List (Str × NameKind)) (acc : List (Str × Addr)), (∀ y ∈ names, y.2 = .free -> ∃ c, env.cells.lookup y.1 = some c) -> (∀ y c, acc.lookup y = some c -> env.cells.lookup y = some c) ->
  ∃ cl, (forIn names acc fun x r => if (x.2 == NameKind.free) = true then do let c <- cellOf env x.1; pure (ForInStep.yield ((x.1, c) :: r)) else pure (ForInStep.yield r) : Sem _) = pure cl /\
   (∀ y c, cl.lookup y = some c -> env.cells.lookup y = some c) /\ (∀ y c, acc.lookup y = some c -> ∃ c, cl.lookup y = some c) /\ ∀ y ∈ names, y.2 = .free -> ∃ c, cl.lookup y.1 = some c := by
  intro names
  induction names with
  | nil => intro acc _ h2; exact ⟨acc, rfl, h2, fun y c e => ⟨c, e⟩, fun y hy => nomatch hy⟩
  | cons z r ih =>
   intro acc h1 h2
   obtain ⟨n, k⟩ := z
   rw [List.forIn_cons]
   by_cases hk : k = .free
   . subst hk
     obtain ⟨c, hc⟩ := h1 (n, .free) List.mem_cons_self rfl
     obtain ⟨cl, e, a1, a2, a3⟩ := ih ((n, c) :: acc) (fun y hy => h1 y (List.mem_cons_of_mem _ hy)) (fun y d hd => by
      rw [List.lookup_cons] at hd
      cases hb : y == n with
      | true => rw [hb] at hd; simp only at hd; cases hd; rw [eq_of_beq hb]; exact hc
      | false => rw [hb] at hd; exact h2 y d hd)
     refine ⟨cl, ?_, a1, fun y d hd => ?_, fun y hy hf => ?_⟩
     . rw [<- e]
       have e1 : cellOf env n = pure c := by
        unfold cellOf
        rw [hc]
       simp only [beq_self_eq_true, if_true, e1, pure_bind]
     . by_cases hyn : y = n
       . exact a2 y c (by rw [hyn, List.lookup_cons, beq_self_eq_true])
       . exact a2 y d (by rw [List.lookup_cons, show (y == n) = false by simpa using hyn]; exact hd)
     . (rcases List.mem_cons.mp hy with rfl | hy)
       . exact a2 n c (by rw [List.lookup_cons, beq_self_eq_true])
       . exact a3 y hy hf
   . have hb : (k == NameKind.free) = false := by simpa using hk
     obtain ⟨cl, e, a1, a2, a3⟩ := ih acc (fun y hy => h1 y (List.mem_cons_of_mem _ hy)) h2
     refine ⟨cl, ?_, a1, a2, fun y hy hf => ?_⟩
     . rw [<- e]
       simp only [hb, Bool.false_eq_true, if_false, pure_bind]
     . (rcases List.mem_cons.mp hy with rfl | hy)
       . exact absurd hf hk
       . exact a3 y hy hf
 obtain ⟨cl, e, a1, _, a3⟩ := go scope.names [] h (fun y c e => nomatch e)
 refine ⟨cl, ?_, a1, a3⟩
 unfold closureFor
 simp only [] at e ⊢
 rw [e]
 rfl
theorem ZcJ {env : Env} : ∀ {names : List (Str × NameKind)} {x : Str}, names.lookup x = some .free ->
 (names.map fun (n, k) => if (k == NameKind.free && env.scope.kind == .function && env.kindOf n == some .cell) then (n, NameKind.cell) else (n, k)).lookup x = some .cell \/
 (names.map fun (n, k) => if (k == NameKind.free && env.scope.kind == .function && env.kindOf n == some .cell) then (n, NameKind.cell) else (n, k)).lookup x = some .free
 | [], _, h => by simp at h
 | (n, k) :: r, x, h => by
  have ih := @ZcJ env r x
  show List.lookup x ((if (k == NameKind.free && env.scope.kind == .function && env.kindOf n == some .cell) = true then (n, NameKind.cell) else (n, k)) :: _) = _ \/ List.lookup x ((if (k == NameKind.free && env.scope.kind == .function && env.kindOf n == some .cell) = true then (n, NameKind.cell) else (n, k)) :: _) = _
  cases hx : x == n with
  | true =>
   (simp only [List.lookup_cons, hx] at h)
   cases h
   by_cases hc : (NameKind.free == NameKind.free && env.scope.kind == .function && env.kindOf n == some .cell) = true
   . rw [if_pos hc]; left; simp only [List.lookup_cons, hx]
   . rw [if_neg hc]; right; simp only [List.lookup_cons, hx]
  | false =>
   (simp only [List.lookup_cons, hx] at h)
   (by_cases hc : (k == NameKind.free && env.scope.kind == .function && env.kindOf n == some .cell) = true)
   . (rw [if_pos hc]; simp only [List.lookup_cons, hx]; exact ih h)
   . (rw [if_neg hc]; simp only [List.lookup_cons, hx]; exact ih h)
noncomputable def Zfr (osc : Scope) (oN : List Str) (k : Nat) (js : List Nat) (N' : List Str) (scope : Scope) : Bool :=
 scope.kind == .function && scope.names.all (fun y => y.2 != .cell) && scope.names.all (fun y => y.2 != .local || scope.names.lookup y.1 == some .local) &&
 scope.names.all (fun y => y.2 != .free || osc.names.lookup y.1 == some .cell || osc.names.lookup y.1 == some .free) &&
 N'.length == k + js.length && decide N'.Nodup &&
 (List.range js.length).all fun i => match js[i]? with
  | none => false
  | some j => match oN[j]? with
   | none => false
   | some y => N'[k + i]? == some y && scope.names.lookup y == some .free
structure CompScope (X : Cx) (k : Nat) (js : List Nat) (N' : List Str) (scope : Scope) : Prop where
 kind : scope.kind = .function
 nocell : ∀ y ∈ scope.names, y.2 ≠ .cell
 names : ∀ y ∈ scope.names, y.2 = .local -> scope.names.lookup y.1 = some .local
 free : ∀ y ∈ scope.names, y.2 = .free -> X.env.kindOf y.1 = some .cell \/ X.env.kindOf y.1 = some .free
 len : N'.length = k + js.length
 nd : N'.Nodup
 idx : ∀ i j : Nat, js[i]? = some j -> ∃ y, X.N[j]? = some y /\ N'[k + i]? = some y /\ scope.names.lookup y = some .free
theorem CompScope.of (h : Zfr osc oN k js N' scope = true) (e : X.env.scope = osc) (eN : X.N = oN) : CompScope X k js N' scope := by
 subst e eN
 unfold Zfr at h
 (simp only [Bool.and_eq_true] at h)
 obtain ⟨⟨⟨⟨⟨⟨h1, h2⟩, h3⟩, h4⟩, h5⟩, h6⟩, h7⟩ := h
 refine ⟨eq_of_beq h1, fun y hy => by simpa using List.all_eq_true.mp h2 y hy, fun y hy hl => ?_, fun y hy hf => ?_, eq_of_beq h5, of_decide_eq_true h6, fun i j hj => ?_⟩
 . have q := List.all_eq_true.mp h3 y hy
   rw [hl] at q
   simpa using q
 . have q := List.all_eq_true.mp h4 y hy
   rw [hf] at q
   simp at q
   exact q
 . have hi : i < js.length := (List.getElem?_eq_some_iff.mp hj).1
   have q := List.all_eq_true.mp h7 i (List.mem_range.mpr hi)
   rw [hj] at q
   simp only at q
   cases hN : X.N[j]? with
   | none => rw [hN] at q; cases q
   | some y =>
    rw [hN] at q
    simp only [Bool.and_eq_true] at q
    exact ⟨y, rfl, eq_of_beq q.1, eq_of_beq q.2⟩
noncomputable def ZaW (js : List Nat) (σ : St) : St := js.map fun j => (σ[j]?).join
noncomputable def ZaH (k : Nat) (js : List Nat) (σ : St) : St := List.replicate k none ++ ZaW js σ
section
variable {X : Cx}
theorem ZiW
 (I : Inv X pins σ H s) (S : CompScope X k js N' scope) (hf : ∀ b ∈ fp, FpOk X pins H b) (hfo : ∀ b ∈ fp, b < s.heap.objs.size)
 (c1 : ∀ y c, cl.lookup y = some c -> X.env.cells.lookup y = some c) (c2 : ∀ y ∈ scope.names, y.2 = .free -> ∃ c, cl.lookup y.1 = some c)
 (ns : ∃ m, h1.Ns (s.heap.objs.size + 1) m) (kp : ∀ b o, s.heap.get? b = some o -> h1.get? b = some o) (hD : h1.get? s.heap.objs.size = some { cls := .type "list", data := .seq #[] }) :
 Inv (cxC X N' scope cl (s.heap.objs.size + 1) s H fp) [] (ZaH k js σ) (upd H s.heap.objs.size (.lst [])) { s with heap := h1, toks := tk } := by
 have hfr : H s.heap.objs.size = none := I.hok.fresh (Nat.le_refl _)
 have hfr1 : H (s.heap.objs.size + 1) = none := I.hok.fresh (Nat.le_succ _)
 have cells : ∀ y c, cl.lookup y = some c -> c < s.heap.objs.size := fun y c e => by
  obtain ⟨v, q⟩ := I.cell y c (c1 y c e)
  exact q.lt
 have exb : ∀ b ∈ fp, ∀ o, X.base.get? b = some o -> False := fun b hb o e => by
  rcases (hf b hb).2.2.2.1 with z | z
  . exact I.ok.noex b o e z
  . exact absurd (Nat.lt_of_lt_of_le (Heap.lt_size (I.ok.bs b o e).1) z) (Nat.lt_irrefl _)
 have exs : ∀ b ∈ fp, b ∉ frs X.stack := fun b hb z => by
  rcases List.mem_cons.mp (I.stkSub b z) with q | q
  . exact (hf b hb).2.1 q
  . exact (hf b hb).2.2.1 q
 obtain ⟨m1, hn1⟩ := ns
 have upk : ∀ y, scope.names.lookup y = some .free -> ((cxC X N' scope cl (s.heap.objs.size + 1) s H fp).env.kindOf y = some .cell \/ (cxC X N' scope cl (s.heap.objs.size + 1) s H fp).env.kindOf y = some .free) := fun y hy => ZcJ hy
 have memf : ∀ y, scope.names.lookup y = some .free -> ∃ c, cl.lookup y = some c := fun y hy => c2 (y, .free) (PySem.mem_of_lookup hy) rfl
 have back : ∀ y, ((cxC X N' scope cl (s.heap.objs.size + 1) s H fp).env.kindOf y = some .cell \/ (cxC X N' scope cl (s.heap.objs.size + 1) s H fp).env.kindOf y = some .free) -> scope.names.lookup y = some .free := by
  intro y hy
  have key : ∀ names : List (Str × NameKind), (∀ z ∈ names, z.2 ≠ .cell) ->
   ((names.map fun (n, k) => if (k == NameKind.free && X.env.scope.kind == .function && X.env.kindOf n == some .cell) then (n, NameKind.cell) else (n, k)).lookup y = some .cell \/
   (names.map fun (n, k) => if (k == NameKind.free && X.env.scope.kind == .function && X.env.kindOf n == some .cell) then (n, NameKind.cell) else (n, k)).lookup y = some .free) -> names.lookup y = some .free := by
   intro names
   induction names with
   | nil => intro _ h; simp at h
   | cons z r ih =>
    intro hz h
    obtain ⟨n, kd⟩ := z
    have ih' := ih fun z hz' => hz z (List.mem_cons_of_mem _ hz')
    have hkd : kd ≠ .cell := hz (n, kd) List.mem_cons_self
    have h' : List.lookup y ((if (kd == NameKind.free && X.env.scope.kind == .function && X.env.kindOf n == some .cell) = true then (n, NameKind.cell) else (n, kd)) :: r.map _) = _ \/
     List.lookup y ((if (kd == NameKind.free && X.env.scope.kind == .function && X.env.kindOf n == some .cell) = true then (n, NameKind.cell) else (n, kd)) :: r.map _) = _ := h
    rw [List.lookup_cons]
    cases hx : y == n with
    | true =>
     by_cases hc : (kd == NameKind.free && X.env.scope.kind == .function && X.env.kindOf n == some .cell) = true
     . have : (kd == NameKind.free) = true := by
        (simp only [Bool.and_eq_true] at hc)
        exact hc.1.1
       rw [eq_of_beq this]
     . rw [if_neg hc] at h'
       simp only [List.lookup_cons, hx] at h'
       rcases h' with q | q
       . exact absurd (Option.some.inj q) hkd
       . exact q
    | false =>
     simp only
     by_cases hc : (kd == NameKind.free && X.env.scope.kind == .function && X.env.kindOf n == some .cell) = true
     . rw [if_pos hc] at h'
       simp only [List.lookup_cons, hx] at h'
       exact ih' h'
     . rw [if_neg hc] at h'
       simp only [List.lookup_cons, hx] at h'
       exact ih' h'
  exact key scope.names S.nocell hy
 refine ⟨⟨I.mod, S.kind, I.ok.glob, I.ok.blt, Nat.le_succ _, fun x y c e1 e2 => I.ok.inj x y c (c1 x c e1) (c1 y c e2), fun y hy => memf y (back y hy), fun x c hx => (nomatch hx), I.ok.hd, I.ok.frames, .inl rfl,
  fun b hb => ⟨Nat.ne_of_lt (Nat.lt_succ_of_lt (hfo b hb)), fun x c e => (hf b hb).2.2.2.2.1 x c (c1 x c e)⟩, I.bs, Nat.le_trans I.ok.bsz I.sz, fun b o e hb => exb b hb o e, exs, I.stack, I.stkFree⟩,
  rfl, I.bare, Un.laid kp (Nat.le_refl _) hfr, ⟨m1, hn1, fun i x v e1 e2 e3 => ?_⟩, fun x c e => ?_, ?_, fun x c e => ?_, fun p hp => (nomatch hp), I.hok.laid kp (Nat.le_refl _) ⟨by simp, [], 0, .nil, hD⟩, ?_⟩
 . -- a name's value within the block
   have hi : ¬ i < k := fun hi => by
    unfold ZaH at e2
    rw [List.getElem?_append_left (by simpa using hi), List.getElem?_replicate, if_pos hi] at e2
    cases e2
   have hik : k <= i := Nat.le_of_not_lt hi
   have e2' : (ZaW js σ)[i - k]? = some (some v) := by
    unfold ZaH at e2
    rw [List.getElem?_append_right (by simpa using hik), List.length_replicate] at e2
    exact e2
   unfold ZaW at e2'
   rw [List.getElem?_map] at e2'
   cases hj : js[i - k]? with
   | none => rw [hj] at e2'; cases e2'
   | some j =>
    rw [hj] at e2'
    have e4 : (σ[j]?).join = some v := Option.some.inj e2'
    obtain ⟨y, n1, n2, n3⟩ := S.idx (i - k) j hj
    rw [Nat.add_sub_cancel' hik] at n2
    have e1' : N'[i]? = some x := e1
    rw [e1'] at n2
    obtain rfl : x = y := Option.some.inj n2
    have e5 : σ[j]? = some (some v) := by
     cases q : σ[j]? with
     | none => rw [q] at e4; cases e4
     | some o => rw [q] at e4; exact congrArg some e4
    obtain ⟨m, hn, hl⟩ := I.loc
    have hk := S.free (x, .free) (PySem.mem_of_lookup n3) rfl
    have hv : Vis X.env.scope x := .inr hk
    obtain ⟨u, r, l⟩ := hl j x v n1 e5 hv
    refine ⟨u, r, .inr ⟨upk x n3, ?_⟩⟩
    rcases l with ⟨q, _⟩ | ⟨_, c, hc, hcell⟩
    . rcases hk with z | z <;> (rw [show X.env.kindOf x = some NameKind.local from q] at z; cases z)
    . obtain ⟨c', hc'⟩ := memf x n3
      have : c' = c := Option.some.inj ((c1 x c' hc').symm.trans hc)
      subst this
      obtain ⟨o, ho, hd⟩ := hcell
      exact ⟨c', hc', o, kp _ _ ho, hd⟩
 . obtain ⟨v, o, ho, hd⟩ := I.cell x c (c1 x c e)
   exact ⟨v, o, kp _ _ ho, hd⟩
 . show upd H s.heap.objs.size (.lst []) (s.heap.objs.size + 1) = none
   rw [Zm (Nat.succ_ne_self _)]
   exact hfr1
 . show upd H s.heap.objs.size (.lst []) c = none
   rw [Zm (Nat.ne_of_lt (cells x c e))]
   exact I.freeC x c (c1 x c e)
 . show (ZaH k js σ).length = N'.length
   unfold ZaH ZaW
   rw [List.length_append, List.length_replicate, List.length_map, S.len]
def PIf (X : Cx) (ifs : List Expr) (t : TT) : Prop :=
 ∀ (pins : List (Addr × Obj)) (s : Shared) (σ : St) (H : Hp) (Q : Bool -> Hp -> Prop), Inv X pins σ H s -> t σ H Q ->
  wpAny (model X.prog X.w) X.A (forIn ifs true fun c r => if r = true then do let ok <- isTrue c X.env (eval c X.env); pure (ForInStep.yield ok) else pure (ForInStep.yield r)) (TP X pins σ Q) X.xe s
def tIf0 : TT := fun _ H Q => Q true H
theorem Zk4 : PIf X [] tIf0 := fun _ _ _ H _ I h => wpAny_tests_nil ⟨H, I, h⟩
def ZgY (J : It) (g : TG) (tif : TT) (te : TE) (D : Addr) (Q : VK) (W : Nat -> Nat -> St -> List V -> Hp -> Prop) : Prop :=
 ∀ i m σ ys H, W i m σ ys H -> H D = some (.lst ys) -> (J.stop i H /\ Q (.ref D) H) \/ (J.go i H /\ ∀ x H', J.yld i H x H' -> g x σ H' fun σ2 H2 => tif σ2 H2 fun b H3 =>
  if b = true then te σ2 H3 fun y H4 => H4 D = some (.lst ys) /\ ys.length < sizeLine /\ ∃ m', m' < m /\ W (i + 1) m' σ2 (ys ++ [y]) (upd H4 D (.lst (ys ++ [y])))
  else H3 D = some (.lst ys) /\ ∃ m', m' < m /\ W (i + 1) m' σ2 ys H3)
theorem Zia
 (hx : ∀ e s', X.xe e s' -> False) (hc : X.calm = true) (T : Turn X.prog X.w X.K tg J fp it tn) (hg : PG X tg g) (hif : PIf X ifs tif) (he : PE X elt te)
 (stat : ∀ {H' : Hp}, (∀ b ∈ fp, H' b = none) -> ∀ b ∈ fp, FpOk X [] H' b)
 (turn : ZgY J g tif te D Q W)
 (hR : ∀ σ' H' s', Inv X [] σ' H' s' -> Q (.ref D) H' -> R (.ok .next) s')
 (I : Inv X [] σ H s) (st : tn 0 s.heap) (fr : ∀ b ∈ fp, H b = none) (hD : H D = some (.lst [])) (w0 : W 0 m σ [] H) :
 codeAny (model X.prog X.w) X.A (.compLoop (.ListComp elt [⟨tg, iter, ifs, 0⟩] scope pos) 0 (.ref it) (.ref D) X.env) R s := by
 refine codeAny_loop rfl (fun n s' => ∃ i ys σ' H', Inv X [] σ' H' s' /\ tn i s'.heap /\ (∀ b ∈ fp, H' b = none) /\ H' D = some (.lst ys) /\ W i n σ' ys H') (fun n s3 hI => ?_) m ⟨0, [], σ, H, I, st, fr, hD, w0⟩
 obtain ⟨i, ys, σ3, H3, I3, st3, fr3, d3, w3⟩ := hI
 show wpAny _ X.A ((compTurn (.ListComp elt [⟨tg, iter, ifs, 0⟩] scope pos) 0 (.ref it) (.ref D) X.env).onRaise (fun x => do noteFrame x X.env; theTreesLotGoes x)) _ _ s3
 refine wpAny_noted ?_
 rw [compTurn_list]
 (refine wpAny_bind (wpAny_standAt (wpAny_bind ?_)))
 have sub : ∀ {α : Type} {t : Sem α} {P : α -> Shared -> Prop} {E' : Value -> Shared -> Prop} {s : Shared}, wpAny (model X.prog X.w) X.A t P X.xe s -> wpAny (model X.prog X.w) X.A t P E' s := fun h => wpAny_mono h (fun _ _ q => q) fun e s' q => (hx e s' q).elim
 rcases turn i n σ3 ys H3 w3 d3 with ⟨stop, q⟩ | ⟨go, step⟩
 . refine sub (thn (T.done X rfl rfl rfl hc i [] s3 σ3 H3 X.xe I3 (stat fr3) st3 stop) fun r s4 z0 => ?_)
   obtain ⟨hr, I4⟩ := z0
   subst hr
   exact wpAny_pure (hR σ3 H3 s4 I4 q)
 . refine sub (thn (T.item X rfl rfl rfl hc i [] s3 σ3 H3 X.xe I3 (stat fr3) st3 go) fun r s4 z0 => ?_)
   obtain ⟨u, hr, h4⟩ := z0
   subst hr
   refine wpAny_bind (sub (thn h4 fun _ s5 z0 => ?_))
   obtain ⟨x, H5, I5, r5, y5, st5, fr5⟩ := z0
   have I5' := I5.pinned (stat fr5) (T.obj _ _ st5)
   refine wpAny_bind (sub (thn (hg _ s5 σ3 H5 x u _ I5' r5 (step x H5 y5)) fun _ s6 z0 => ?_))
   obtain ⟨σ6, H6, I6, q6⟩ := z0
   have again : ∀ {s7 : Shared} {H7 : Hp} {ys7 : List V}, Inv X ([] ++ ZcG fp s5.heap) σ6 H7 s7 -> H7 D = some (.lst ys7) -> (∃ m', m' < n /\ W (i + 1) m' σ6 ys7 H7) ->
    ∃ m, m < n /\ ∃ i ys σ' H', Inv X [] σ' H' s7 /\ tn i s7.heap /\ (∀ b ∈ fp, H' b = none) /\ H' D = some (.lst ys) /\ W i m σ' ys H' := fun {s7 H7 ys7} I7 d7 w7 => by
    obtain ⟨m', hm, w7⟩ := w7
    refine ⟨m', hm, i + 1, ys7, σ6, H7, I7.unpinned, T.keep _ _ _ st5 fun b hb o e => (I7.pin (b, o) (List.mem_append_right _ (List.mem_append_right _ (Zb0 hb e)))).1, fun b hb => ?_, d7, w7⟩
    obtain ⟨o, e, d⟩ := T.obj _ _ st5 b hb
    exact (I7.pin (b, o) (List.mem_append_right _ (List.mem_append_right _ (Zb0 hb e)))).2.1
   refine wpAny_bind (sub (thn (hif _ s6 σ6 H6 _ I6 q6) fun ok s7 z0 => ?_))
   obtain ⟨H7, I7, q7⟩ := z0
   cases ok with
   | false =>
    rw [if_neg Bool.false_ne_true] at q7
    exact wpAny_pure ⟨rfl, again I7 q7.1 q7.2⟩
   | true =>
    rw [if_pos rfl] at q7
    refine wpAny_bind (wpAny_bind (sub (thn (he _ s7 σ6 H7 _ I7 q7) fun y s8 z0 => ?_)))
    obtain ⟨v, H8, I8, r8, d8, z8, w8⟩ := z0
    have ap := Ze0 (X := X) _ s8 σ6 H8 (.ref D) [v] (.ref D) [y] (fun _ H9 => H9 = upd H8 D (.lst (ys ++ [v]))) I8 rfl (.cons r8 .nil) ⟨D, ys, v, rfl, rfl, d8, z8, rfl⟩
    refine wpAny_bind (sub (thn ap fun _ s9 z0 => ?_))
    obtain ⟨_, H9, I9, _, e9⟩ := z0
    subst e9
    exact wpAny_pure (wpAny_pure ⟨rfl, again I9 Zl w8⟩)
def ZeS (k : Nat) (js : List Nat) (wi : TI) (g : TG) (tif : TT) (te : TE) : TE := fun σ H Q => wi σ H fun J H1 => ∀ D, H1 D = none -> ∃ W : Nat -> Nat -> St -> List V -> Hp -> Prop,
 (∃ m, W 0 m (ZaH k js σ) [] (upd H1 D (.lst []))) /\ ZgY J g tif te D Q W
theorem ZdI {elt tg iter : Expr} {ifs : List Expr} {scope : Scope} {pos : Pos} {k : Nat} {js : List Nat} {N' : List Str} {J : It} {fp : List Addr} {tn : Nat -> Heap -> Prop} {it : Addr} {g : TG} {tif : TT} {te : TE} {Q : VK} {E : Value -> Shared -> Prop}
 {pins : List (Addr × Obj)} {s : Shared} {σ : St} {H : Hp} {cl : List (Str × Addr)} {RR : Value -> Addr -> Result -> Shared -> Prop}
 (hc : X.calm = true) (S : CompScope X k js N' scope) (T : Turn X.prog X.w X.K tg J fp it tn) (st : tn 0 s.heap) (hf : ∀ b ∈ fp, FpOk X pins H b)
 (c1 : ∀ y c, cl.lookup y = some c -> X.env.cells.lookup y = some c) (c2 : ∀ y ∈ scope.names, y.2 = .free -> ∃ c, cl.lookup y.1 = some c)
 (hin : ∀ (cl : List (Str × Addr)) (C : Addr) (s₀ : Shared) (H₀ : Hp) (ex : List Addr), PG (cxC X N' scope cl C s₀ H₀ ex) tg g /\ PIf (cxC X N' scope cl C s₀ H₀ ex) ifs tif /\ PE (cxC X N' scope cl C s₀ H₀ ex) elt te)
 (I : Inv X pins σ H s) (q : ∀ D, H D = none -> ∃ W : Nat -> Nat -> St -> List V -> Hp -> Prop, (∃ m, W 0 m (ZaH k js σ) [] (upd H D (.lst []))) /\ ZgY J g tif te D Q W)
 (hRR : ∀ (D C : Addr) (s' : Shared) (H' : Hp), s.heap.get? C = none -> (∃ m, s'.heap.Ns C m) -> Inv X pins σ H' s' -> FpOk X pins H' C -> Q (.ref D) H' -> RR (.ref D) C (.ok .next) s') :
 wpAny (model X.prog X.w) X.A (newList []) (fun acc s₃ => wpAny (model X.prog X.w) X.A (newFunctionEnv scope X.env.globals cl [] X.env.qual none .none (some X.env)) (fun cenv s₄ =>
  codeAny (model X.prog X.w) X.A (.compStart (.ListComp elt [⟨tg, iter, ifs, 0⟩] scope pos) 0 (.ref it) acc { cenv with scope := relabel scope X.env }) (RR acc cenv.locals) s₄) E s₃) E s := by
 refine wpAny_newObj_type (wpAny_newFunctionEnv S.nocell (by intro y hy; simp at hy) (fun h₁ hns₁ hsb₁ => ?_) S.kind)
 dsimp only at hns₁ hsb₁ ⊢
 generalize hH2 : s.heap.push { cls := .type "list", dict := none, data := .seq ([] : List Value).toArray } = H2 at hns₁ hsb₁ ⊢
 have hC : H2.objs.size = s.heap.objs.size + 1 := by rw [<- hH2, Heap.size_push]
 rw [hC] at hns₁ hsb₁ ⊢
 have kp : ∀ b o, s.heap.get? b = some o -> h₁.get? b = some o := fun b o e => hsb₁.extBut b o (Nat.ne_of_lt (Nat.lt_succ_of_lt (Heap.lt_size e))) (Heap.get?_push_of_some _ (hH2 ▸ Heap.get?_push_of_some _ e))
 have hD : h₁.get? s.heap.objs.size = some { cls := .type "list", data := .seq #[] } := hsb₁.extBut _ _ (Nat.ne_of_lt (Nat.lt_succ_self _)) (Heap.get?_push_of_some _ (hH2 ▸ Heap.get?_push_size _ rfl))
 have hfo : ∀ b ∈ fp, b < s.heap.objs.size := fun b hb => by obtain ⟨o, e, _⟩ := T.obj _ _ st b hb; exact Heap.lt_size e
 obtain ⟨W, ⟨m0, w0⟩, turn⟩ := q s.heap.objs.size (I.hok.fresh (Nat.le_refl _))
 obtain ⟨gG, gI, gE⟩ := hin cl (s.heap.objs.size + 1) s H fp
 have fresh1 : s.heap.get? (s.heap.objs.size + 1) = none := by
  cases e : s.heap.get? (s.heap.objs.size + 1) with
  | none => rfl
  | some o => exact absurd (Heap.lt_size e) (Nat.not_lt.mpr (Nat.le_succ _))
 have I1 : ∀ tk, Inv (cxC X N' scope cl (s.heap.objs.size + 1) s H fp) [] (ZaH k js σ) (upd H s.heap.objs.size (.lst [])) { s with heap := h₁, toks := tk } := fun tk => ZiW I S hf hfo c1 c2 ⟨_, hns₁⟩ kp hD
 have ffr : ∀ b ∈ fp, upd H s.heap.objs.size (.lst []) b = none := fun b hb => by
  rw [Zm (Nat.ne_of_lt (hfo b hb))]
  exact (hf b hb).1
 have exs : ∀ b ∈ fp, b ∉ frs X.stack := (I1 0).ok.exfs
 have stat : ∀ {H' : Hp}, (∀ b ∈ fp, H' b = none) -> ∀ b ∈ fp, FpOk (cxC X N' scope cl (s.heap.objs.size + 1) s H fp) [] H' b := fun hn b hb =>
  ⟨hn b hb, ((I1 0).ok.exf b hb).1, exs b hb, .inl hb, ((I1 0).ok.exf b hb).2, fun p hp => (nomatch hp)⟩
 have st1 : tn 0 h₁ := T.keep _ _ _ st fun b _ o e => kp b o e
 have loop : ∀ tk, codeAny (model X.prog X.w) X.A (.compLoop (.ListComp elt [⟨tg, iter, ifs, 0⟩] scope pos) 0 (.ref it) (.ref s.heap.objs.size) (compEnvC scope cl (s.heap.objs.size + 1) X.env))
  (RR (.ref s.heap.objs.size) (s.heap.objs.size + 1)) { s with heap := h₁, toks := tk } := fun tk => by
  refine Zia (X := cxC X N' scope cl (s.heap.objs.size + 1) s H fp) (fun _ _ z => z) hc T gG gI gE stat turn (fun σ' H' s' J q' => ?_) (I1 tk) st1 ffr Zl w0
  have u : Un (frs X.stack) fp H H' s.heap s'.heap := J.base
  have J1 : Inv X pins σ H' s' := I.call' J.os u J.hok J.bare fun b hb => ⟨(hf b hb).2.2.2.1, (hf b hb).2.1, (hf b hb).2.2.2.2.1, (hf b hb).2.2.2.2.2⟩
  obtain ⟨m', hn', _⟩ := J.loc
  refine hRR _ _ s' H' fresh1 ⟨m', hn'⟩ J1 ⟨J.free, Nat.ne_of_gt (Nat.lt_succ_of_lt I.lt), I.nofs (Nat.le_succ _), .inr (Nat.le_trans I.sz (Nat.le_succ _)), fun x c e z => ?_, fun p hp z => ?_⟩ q'
  . obtain ⟨v, qc⟩ := I.cell x c e
    have h1 := qc.lt
    rw [z] at h1
    exact absurd h1 (Nat.not_lt.mpr (Nat.le_succ _))
  . have h1 := Heap.lt_size (I.pin p hp).1
    rw [z] at h1
    exact absurd h1 (Nat.not_lt.mpr (Nat.le_succ _))
 exact codeAny_compStart_list (loop _) (T.self X.A 0 _ _ _ st1 (loop _))
theorem Zk5
 (hc : X.calm = true) (S : CompScope X k js N' scope) (hi : PI X tg iter wi)
 (hin : ∀ (cl : List (Str × Addr)) (C : Addr) (s₀ : Shared) (H₀ : Hp) (ex : List Addr), PG (cxC X N' scope cl C s₀ H₀ ex) tg g /\ PIf (cxC X N' scope cl C s₀ H₀ ex) ifs tif /\ PE (cxC X N' scope cl C s₀ H₀ ex) elt te)
 (hs : ∀ x, foldedSetIterable iter X.env x = pure x := by intro _; rfl) : PE X (.ListComp elt [⟨tg, iter, ifs, 0⟩] scope pos) (ZeS k js wi g tif te) := by
 intro pins s σ H Q I h
 obtain ⟨cl, ec, c1, c2⟩ := ZdH (scope := scope) (env := X.env) fun y hy hf => I.ok.has y.1 (S.free y hy hf)
 rw [eval_ListComp]
 refine wpAny_comprehension_free (use := none) rfl hs ec S.kind S.names (thn (hi pins s σ H _ I h) fun xv s1 h1 => thn h1 fun itv s2 h2 => ?_)
 obtain ⟨it, fp, tn, J, H2, e, I2, T, st2, f2, q⟩ := h2
 subst e
 refine ZdI (RR := fun acc C => compPost (model X.prog X.w) X.A X.xe none (EP X pins σ Q) acc C) hc S T st2 f2 c1 c2 hin I2 q ?_
 intro D C s' H' _ hn J1 fC q'
 obtain ⟨m', hn⟩ := hn
 obtain ⟨f0, f1, f2, f3, f4, f5⟩ := fC
 exact ⟨m', hn, fun h' hs' => ⟨.ref D, H', J1.turned (t' := s'.toks) (fun b o hb e => hs'.extBut b o hb e) f0 f1 f3 f4 f5, rfl, q'⟩⟩
theorem Zk6
 (hN : X.N.Nodup) (hi : X.N[i]? = some x) (hx : Loc X.env.scope x)
 (hc : X.calm = true) (S : CompScope X k js N' scope) (hit : PI X tg iter wi)
 (hin : ∀ (cl : List (Str × Addr)) (C : Addr) (s₀ : Shared) (H₀ : Hp) (ex : List Addr), PG (cxC X N' scope cl C s₀ H₀ ex) tg g /\ PIf (cxC X N' scope cl C s₀ H₀ ex) ifs tif /\ PE (cxC X N' scope cl C s₀ H₀ ex) elt te)
 (hsw : swapsWith (.ListComp elt [⟨tg, iter, ifs, 0⟩] scope pos) (some (.Name x pos')) spos.line X.env = pure true := by rfl)
 (hf : X.fn x = true \/ X.env.scope.names.lookup x = some .local := by first | exact .inl rfl | exact .inr rfl | assumption)
 (hs : ∀ x, foldedSetIterable iter X.env x = pure x := by intro _; rfl) : PS X (.Assign [.Name x pos'] (.ListComp elt [⟨tg, iter, ifs, 0⟩] scope pos) spos) (tAsg (ZeS k js wi g tif te) (ZbM i)) := by
 intro pins s σ H D I h
 obtain ⟨cl, ec, c1, c2⟩ := ZdH (scope := scope) (env := X.env) fun y hy hf => I.ok.has y.1 (S.free y hy hf)
 (rw [exec_Assign_Name_used _ _ _ _ hsw])
 (refine wpAny_bind (wpAny_standAt (wpAny_bind ?_)))
 show wpAny _ X.A (do let _ <- comprehension (.ListComp elt [⟨tg, iter, ifs, 0⟩] scope pos) scope X.env _ (newList []) false (eval iter X.env) (some (assign (.Name x pos') X.env))) _ _ s
 refine wpAny_bind (wpAny_mono (wpAny_comprehension_free (use := some (assign (.Name x pos') X.env)) (Q := fun _ s' => SP X pins D .next s') rfl hs ec S.kind S.names
  (thn (hit pins s σ H _ I h) fun xv s1 h1 => thn h1 fun itv s2 h2 => ?_)) (fun _ s' hq => wpAny_pure (wpAny_pure hq)) fun _ _ e => e)
 obtain ⟨it, fp, tn, J, H2, e, I2, T, st2, f2, q⟩ := h2
 subst e
 refine ZdI (Q := fun v H' => ZbM i v σ H' D.nx) (RR := fun acc C => compPost (model X.prog X.w) X.A X.xe (some (assign (.Name x pos') X.env)) (fun _ s' => SP X pins D .next s') acc C) hc S T st2 f2 c1 c2 hin I2 q ?_
 intro Da C s' H' fr hn J1 fC q'
 obtain ⟨m', hn⟩ := hn
 obtain ⟨f0, f1, f2, f3, f4, f5⟩ := fC
 obtain ⟨oC, es, ep, hoC, hdC, hkC, hmC⟩ := id hn
 show wpAny _ X.A (assign (.Name x pos') X.env (.ref Da)) _ _ _
 have J2 : Inv X (pins ++ [(C, oC)]) σ H' s' := J1.pins_of fun p hp => by
  (rcases List.mem_append.mp hp with z | z)
  . exact J1.pin p (List.mem_append_right _ z)
  . have z' : p = (C, oC) := by simpa using z
    subst z'
    exact ⟨hoC, f0, f1, f2, fun v e => by rw [hdC] at e; cases e⟩
 refine wpAny_assign_Name (Zd4 J2 hN hi hx (v := .ref Da) rfl (fun s'' I'' => ?_) hf)
 have hC'' := (I''.pin (C, oC) (List.mem_append_right _ (List.mem_append_right _ (by simp)))).1
 refine ⟨m', ⟨oC, es, ep, hC'', hdC, hkC, hmC⟩, fun h' hs' => ?_⟩
 have I3 : Inv X pins (σ.set i (some (.ref Da))) H' s'' := I''.unpinned
 exact ⟨_, H', I3.turned (t' := s''.toks) (fun b o hb e => hs'.extBut b o hb e) f0 f1 f3 f4 f5, q'⟩
end
end L2
namespace L2
open PySem PySem.Spec PyProof.Rows
mutual
inductive Den (K : Fg) (H : Hp) : V -> PyData -> Prop
 | non : Den K H .non .none
 | bl (b : Bool) : Den K H (.bl b) (.bool b)
 | int (i : Int) : Den K H (.int i) (.int i)
 | str (x : Str) : Den K H (.str x) (.str x)
 | lst {a : Addr} {vs : List V} {ds : List PyData} : SqL K H a vs -> DenL K H vs ds -> Den K H (.ref a) (.list ds)
 | tup {a : Addr} {vs : List V} {ds : List PyData} : SqT K H a vs -> DenL K H vs ds -> Den K H (.ref a) (.tuple ds)
inductive DenL (K : Fg) (H : Hp) : List V -> List PyData -> Prop
 | nil : DenL K H [] []
 | cons {v : V} {d : PyData} {vs : List V} {ds : List PyData} : Den K H v d -> DenL K H vs ds -> DenL K H (v :: vs) (d :: ds)
end
theorem Same.tupq {K : Fg} {H H' : Hp} {a : Addr} {xs : List V} (e : Same H H') (h : SqT K H a xs) : SqT K H' a xs := by
 rcases h with (h | ⟨o, h⟩) | h
 . exact .inl (.inl (e _ _ h))
 . exact .inl (.inr ⟨o, e _ _ h⟩)
 . exact .inr h
mutual
theorem Den.same {K : Fg} {H H' : Hp} (e : Same H H') : ∀ {v : V} {d : PyData}, Den K H v d -> Den K H' v d
 | _, _, .non => .non
 | _, _, .bl b => .bl b
 | _, _, .int i => .int i
 | _, _, .str x => .str x
 | _, _, .lst h r => .lst (e.seq h) (DenL.same e r)
 | _, _, .tup h r => .tup (e.tupq h) (DenL.same e r)
theorem DenL.same {K : Fg} {H H' : Hp} (e : Same H H') : ∀ {vs : List V} {ds : List PyData}, DenL K H vs ds -> DenL K H' vs ds
 | _, _, .nil => .nil
 | _, _, .cons h r => .cons (Den.same e h) (DenL.same e r)
end
section
mutual
theorem Den.reads (I : Inv X pins σ H s) : ∀ {v : V} {d : PyData} {u : Value}, Den X.K H v d -> RelV v u -> ∃ as, Reads s.heap u d as
 | _, _, _, .non, r => by cases (show _ = Value.none from r); exact ⟨_, .none⟩
 | _, _, _, .bl b, r => by cases (show _ = Value.bool b from r); exact ⟨_, .bool b⟩
 | _, _, _, .int i, r => by obtain ⟨t, q⟩ := (show ∃ t, _ = Value.int i t from r); cases q; exact ⟨_, .int i t⟩
 | _, _, _, .str x, r => by obtain ⟨t, q⟩ := (show ∃ t, _ = Value.str x t from r); cases q; exact ⟨_, .str x t⟩
 | _, _, _, .lst (a := a) h q, r => by
  cases (show _ = Value.ref a from r)
  obtain ⟨its, rv, p, hz⟩ := I.list h
  obtain ⟨as, ra⟩ := DenL.reads I q rv
  obtain ⟨o, ho, hc, n, hd⟩ := p.isList
  exact ⟨_, .list ho hc hd (by simpa using ra)⟩
 | _, _, _, .tup (a := a) h q, r => by
  cases (show _ = Value.ref a from r)
  obtain ⟨its, rv, p, hz⟩ := I.tuple h
  obtain ⟨as, ra⟩ := DenL.reads I q rv
  obtain ⟨o, ho, hc, n, hd⟩ := (show s.heap.IsTuple a its.toArray from p)
  exact ⟨_, .tuple ho hc hd (by simpa using ra)⟩
theorem DenL.reads (I : Inv X pins σ H s) : ∀ {vs : List V} {ds : List PyData} {us : List Value}, DenL X.K H vs ds -> Vals vs us -> ∃ as, ReadsAll s.heap us ds as
 | _, _, _, .nil, r => by cases r; exact ⟨_, .nil⟩
 | _, _, _, .cons h q, r => by
  cases r with
  | cons r1 r2 =>
   obtain ⟨as, ra⟩ := Den.reads I h r1
   obtain ⟨bs, rb⟩ := DenL.reads I q r2
   exact ⟨_, .cons ra rb⟩
end
end
section
variable {X : Cx}
def rEqD (K : Fg) : R2 := fun x y H Q => ∃ d e, Den K H x d /\ Den K H y e /\ SeqAt.shaped d = true /\ SeqAt.shaped e = true /\ Q (.bl (PyData.eqv d e)) H
def rNeD (K : Fg) : R2 := fun x y H Q => ∃ d e, Den K H x d /\ Den K H y e /\ SeqAt.shaped d = true /\ SeqAt.shaped e = true /\ Q (.bl (!PyData.eqv d e)) H
theorem ZlR (hu : X.A.units + 64 < cLine) : OpR X (compareOp .Eq) (rEqD X.K) := by
 intro pins s σ H x y v u Q I rx ry h
 obtain ⟨d, e, hd, he, s1, s2, q⟩ := h
 obtain ⟨as, ra⟩ := hd.reads I rx
 obtain ⟨bs, rb⟩ := he.reads I ry
 exact eq_dataH ra rb s1 s2 hu ⟨.bl _, H, I, rfl, q⟩
theorem ZlS (hu : X.A.units + 64 < cLine) : OpR X (compareOp .NotEq) (rNeD X.K) := by
 intro pins s σ H x y v u Q I rx ry h
 obtain ⟨d, e, hd, he, s1, s2, q⟩ := h
 obtain ⟨as, ra⟩ := hd.reads I rx
 obtain ⟨bs, rb⟩ := he.reads I ry
 exact ne_dataH ra rb s1 s2 hu ⟨.bl _, H, I, rfl, q⟩
theorem Ze1 : ∀ (l : List (Str × Tok)), Vals ((l.map (·.1)).map V.str) (strValues l)
 | [] => .nil
 | (x, t) :: l => .cons ⟨t, rfl⟩ (Ze1 l)
theorem Ze2 : ∀ (ts : List Str) (us : List Value), Vals (ts.map V.str) us -> ∃ l : List (Str × Tok), us = strValues l /\ l.map (·.1) = ts
 | [], us, r => by cases r; exact ⟨[], rfl, rfl⟩
 | x :: ts, us, r => by
  cases r with
  | cons r1 r2 =>
   obtain ⟨t, rfl⟩ := r1
   obtain ⟨l, e1, e2⟩ := Ze2 ts _ r2
   exact ⟨(x, t) :: l, by rw [e1]; rfl, by rw [List.map_cons, e2]⟩
theorem ZiX (x : Str) (c : Nat) : (Txt.split x ⟨#[c]⟩).length <= x.length + 2 := by
 unfold Txt.split
 split
 . show 1 <= _
   omega
 . split
   . show 1 <= _
     omega
   . have e1 := StrLaws.occ_length_le x ⟨#[c]⟩ 0 x.length (x.length + 1)
     rw [length_partsBetween]
     omega
def ZlT : V -> List V -> Hp -> VK -> Prop := fun x vs H Q => ∃ z c, x = .str z /\ vs = [.str ⟨#[c]⟩] /\ z.length + 2 <= sizeLine /\ ∀ p, H p = none -> Q (.ref p) (upd H p (.lst ((Txt.split z ⟨#[c]⟩).map V.str)))
theorem ZiY : MtR X "str.split" ZlT := by
 intro pins s σ H x vs v us Q I rx rv h
 obtain ⟨z, c, rfl, rfl, hz, q⟩ := h
 obtain ⟨t, rfl⟩ := rx
 obtain ⟨u0, rfl, ru⟩ := rv.one
 obtain ⟨u, rfl⟩ := ru
 have hy : ((⟨#[c]⟩ : Str).length == 0) = false := rfl
 have fin : ∀ (l : List (Str × Tok)) (tk : Nat), l.map (·.1) = Txt.split z ⟨#[c]⟩ -> EP X pins σ Q (.ref s.heap.objs.size) { s with heap := s.heap.push { cls := .type "list", data := .seq (strValues l).toArray }, toks := tk } := fun l tk e => by
  have rv := Ze1 l
  rw [e] at rv
  refine ⟨.ref s.heap.objs.size, _, I.lnew rv ?_, rfl, q _ I.fresh⟩
  rw [List.length_map]
  have := ZiX z c
  omega
 have hn : (Builtin.Str.partsBetween z (Builtin.Str.occurrences z ⟨#[c]⟩ 0 z.length (z.length + 1)) (⟨#[c]⟩ : Str).length).length <= sizeLine := by
  have e1 := StrLaws.occ_length_le z ⟨#[c]⟩ 0 z.length (z.length + 1)
  rw [length_partsBetween]
  omega
 cases h1 : (decide (z.length < (⟨#[c]⟩ : Str).length) || decide (Builtin.Str.strKind z < Builtin.Str.strKind ⟨#[c]⟩))
 . cases hf : (Builtin.Str.occurrences z ⟨#[c]⟩ 0 z.length (z.length + 1)).isEmpty
   . refine call_meets F.slot_str_split (typeIs_str _ _ _) F.entry_str_split (F.args_str_split_2 _ _) (meets_str_split_sep z ⟨#[c]⟩ t u h1 hy hf (by omega) hn) ?_
     show wants (EP X pins σ Q) X.xe _ { s with toks := _, heap := s.heap.push { cls := .type "list", data := .seq (strsFrom s.toks (Builtin.Str.partsBetween z (Builtin.Str.occurrences z ⟨#[c]⟩ 0 z.length (z.length + 1)) (⟨#[c]⟩ : Str).length)).toArray } }
     rw [strsFrom_eq]
     exact fin (numbered s.toks _) _ ((numbered_texts _ _).trans ((if_neg (ne_true_of_eq_false h1)).trans (if_neg (ne_true_of_eq_false hf))).symm)
   . exact call_meets F.slot_str_split (typeIs_str _ _ _) F.entry_str_split (F.args_str_split_2 _ _) (meets_str_split_not_found z ⟨#[c]⟩ t u h1 hy hf)
      (fin [(z, t)] s.toks ((if_neg (ne_true_of_eq_false h1)).trans (if_pos hf)).symm)
 . exact call_meets F.slot_str_split (typeIs_str _ _ _) F.entry_str_split (F.args_str_split_2 _ _) (meets_str_split_cannot_occur z ⟨#[c]⟩ t u h1)
    (fin [(z, t)] s.toks (if_pos h1).symm)
def ZnK (K : Fg) : V -> List V -> Hp -> VK -> Prop := fun x vs H Q => ∃ sep l ts, x = .str sep /\ vs = [.ref l] /\ SqL K H l (ts.map V.str) /\ JoinOk sep ts = true /\ Q (.str (Txt.join sep ts)) H
theorem Zk7 : MtR X "str.join" (ZnK X.K) := by
 intro pins s σ H x vs v us Q I rx rv h
 obtain ⟨sep, l, ts, rfl, rfl, hl, hj, q⟩ := h
 obtain ⟨t, rfl⟩ := rx
 obtain ⟨u0, rfl, ru⟩ := rv.one
 cases (show u0 = Value.ref l from ru)
 obtain ⟨its, r, p, hz⟩ := I.list hl
 obtain ⟨ll, rfl, e⟩ := Ze2 ts its r
 exact SC.join p.isList e hj fun t' k => ⟨.str _, H, I.tok k, ⟨t', rfl⟩, q⟩
def rSlS : V -> Option Int -> Option Int -> Hp -> VK -> Prop := fun x lo hi H Q => ∃ z, x = .str z /\ z.length <= sizeLine /\ Q (.str (Txt.slice z lo hi)) H
theorem ZlU : SlR X rSlS := by
 intro pins s σ H x v vl vu lo hi sl Q I rx hs pl pu h
 obtain ⟨z, rfl, hz, q⟩ := h
 obtain ⟨t, rfl⟩ := rx
 refine ⟨"str", _, F.slot_str_getitem.lookup, typeIs_str _ _ _, ?_⟩
 have fin : ∀ t' k, EP X pins σ Q (.str (Txt.slice z lo hi) t') { s with toks := k } := fun t' k => ⟨.str _, H, I.tok k, ⟨t', rfl⟩, q⟩
 have hle := Nat.le_trans (Txt.slice_le z lo hi) hz
 cases pl with
 | none =>
  cases pu with
  | none => exact wpAny_getItem_str_slice (l := none) (u := none) (st := none) hs rfl (post_val_or_str ⟨hle, fin⟩)
  | int j tj => exact wpAny_getItem_str_slice (l := none) (u := some (j, tj)) (st := none) hs rfl (post_val_or_str ⟨hle, fin⟩)
 | int i ti =>
  cases pu with
  | none => exact wpAny_getItem_str_slice (l := some (i, ti)) (u := none) (st := none) hs rfl (post_val_or_str ⟨hle, fin⟩)
  | int j tj => exact wpAny_getItem_str_slice (l := some (i, ti)) (u := some (j, tj)) (st := none) hs rfl (post_val_or_str ⟨hle, fin⟩)
theorem Zfs : ZG X (.type "int") (fun xs H Q => ∃ z n, xs = [.str z] /\ intText? z = some n /\ z.length <= 640 /\ Q (.int n) H) := by
 intro pins s σ H xs us Q I r h
 obtain ⟨z, n, rfl, hn, hl, q⟩ := h
 obtain ⟨u, rfl, ru⟩ := r.one
 obtain ⟨t, rfl⟩ := ru
 exact PySem.W.KIN.call_text hn hl ⟨.int n, H, I.tok _, ⟨_, rfl⟩, q⟩
theorem ZiZ (c : V) (cu : Value) (rc : RelV c cu) (huniq : ∀ u, RelV c u -> u = cu) : ZG X (.builtin "isinstance") (fun xs H Q => ∃ x t b, xs = [x, c] /\ TyOf X.K H x t /\ PySem.W.kitOne X.K t cu = some b /\ Q (.bl b) H) := by
 intro pins s σ H xs us Q I r h
 obtain ⟨x, t, b, rfl, ty, e, q⟩ := h
 obtain ⟨u, w', rfl, ru, rw'⟩ := r.two
 obtain rfl := huniq w' rw'
 exact ZhM I ru ty e fun tk => ⟨.bl b, H, I.tok tk, rfl, q⟩
theorem ZdJ : ∀ (bs : List Bool) (us : List Value), Vals (bs.map V.bl) us -> us = bs.map Value.bool
 | [], us, r => by cases r; rfl
 | b :: bs, us, r => by
  cases r with
  | cons r1 r2 => rw [ZdJ bs _ r2, show _ = Value.bool b from r1]; rfl
theorem ZgZ (bs : List Bool) : ((List.range bs.length).all fun i => (bs[i]?).getD true) = bs.all id := by
 (rw [Bool.eq_iff_iff, List.all_eq_true, List.all_eq_true])
 constructor
 . intro h b hb
   obtain ⟨i, hi, e⟩ := List.mem_iff_getElem.mp hb
   have q := h i (List.mem_range.mpr hi)
   rw [List.getElem?_eq_getElem hi, Option.getD_some, e] at q
   exact q
 . intro h i hi
   (have hi' := List.mem_range.mp hi)
   rw [List.getElem?_eq_getElem hi', Option.getD_some]
   (exact h _ (List.getElem_mem hi'))
theorem Zg1 {h h' : Heap} {o : Obj} (hk : ∀ b x, b ∉ [h.objs.size] -> (h.push o).get? b = some x -> h'.get? b = some x) : ∀ b x, h.get? b = some x -> h'.get? b = some x :=
 fun c o e => hk c o (fun hm => by rw [List.mem_singleton.mp hm] at e; exact Nat.lt_irrefl _ (Heap.lt_size e)) (Heap.get?_push_of_some _ e)
theorem Zja (hc : X.calm = true) : ZG X (.builtin "all") (fun xs H Q => ∃ (l : Addr) (bs : List Bool), xs = [.ref l] /\ SqL X.K H l (bs.map V.bl) /\ Q (.bl (bs.all id)) H) := by
 intro pins s σ H xs us Q I r h
 obtain ⟨l, bs, rfl, hl, q⟩ := h
 obtain ⟨u, rfl, ru⟩ := r.one
 cases (show u = Value.ref l from ru)
 obtain ⟨its, rv, p, hz⟩ := I.list hl
 have ei := ZdJ bs its rv
 have hlt : l < s.heap.objs.size := by obtain ⟨_, e, _⟩ := p.isList; exact Heap.lt_size e
 refine call_all_walk (wpAny_pyIter_list p.isList ?_)
 refine ⟨s.heap.objs.size, [s.heap.objs.size, l], [s.heap.objs.size], its.toArray.size, _, _, fun i => (bs[i]?).getD true, rfl, Walks.list (A := X.A.in1) (I.ok.hd hc) _ l (Nat.ne_of_lt hlt) its.toArray,
  ⟨⟨_, Heap.get?_push_size _ rfl, rfl, rfl⟩, p.isList.push _⟩, fun i v s' Q' E' hP hQ => ?_, fun h' tk hk => ?_⟩
 . have hP' : its[i]? = some v := by simpa using hP
   rw [ei, List.getElem?_map] at hP'
   cases e : bs[i]? with
   | none => rw [e] at hP'; cases hP'
   | some b =>
    rw [e] at hP'
    cases hP'
    (simp only [e, Option.getD_some] at hQ)
    exact wpAny_truthy_bool hQ
 . have e : ((List.range its.toArray.size).all fun i => (bs[i]?).getD true) = bs.all id := by
    rw [List.size_toArray, <- rv.length, List.length_map]
    exact ZgZ bs
   rw [e]
   exact ⟨.bl _, H, I.kept (t' := tk) (Zg1 hk), rfl, q⟩
noncomputable def fmtV : V -> Option Str
 | .int i => if i.natAbs.log2 < 1920 then some (toString i : String) else none
 | .str x => some x
 | .non => some ("None" : String)
 | _ => none
def tFmt (te : TE) : TE := fun σ H Q => te σ H fun x H1 => ∃ z, fmtV x = some z /\ z.length <= sizeLine /\ Q (.str z) H1
theorem ZlV (h : PE X e te) : PE X (.FormattedValue e (-1) none pos) (tFmt te) := by
 intro pins s σ H Q I hw
 refine PyProof.Rows.FormattedValue_plain (thn (h pins s σ H _ I hw) fun v s1 z0 => ?_)
 obtain ⟨x, H1, I1, r1, z, e1, hz, q⟩ := z0
 have fin : ∀ t' k, EP X pins σ Q (.str z t') { s1 with toks := k } := fun t' k => ⟨.str _, H1, I1.tok k, ⟨t', rfl⟩, q⟩
 cases x with
 | int i =>
  obtain ⟨t, rfl⟩ := r1
  unfold fmtV at e1
  simp only at e1
  split at e1
  . rename_i hl
    cases e1
    exact PyProof.Rows.formatField_int_small hl (fin _ _)
  . cases e1
 | str y =>
  obtain ⟨t, rfl⟩ := r1
  cases e1
  exact PyProof.Rows.formatField_str (fun t' k => fin t' k) hz
 | non =>
  cases (show v = Value.none from r1)
  cases e1
  exact wpAny_formatField_none (fin _ _)
 | _ => cases e1
noncomputable def ZeT : List TE -> Str -> TE
 | [], acc => fun _ H Q => Q (.str acc) H
 | t :: r, acc => fun σ H Q => t σ H fun x H1 => ∃ z, x = .str z /\ (acc ++ z).length <= sizeLine /\ ZeT r (acc ++ z) σ H1 Q
def PEs (X : Cx) : List Expr -> List TE -> Prop := Paired (PE X)
theorem ZdK : ∀ {es : List Expr} {ts : List TE} (acc : Str) (pins : List (Addr × Obj)) (s : Shared) (σ : St) (H : Hp) (Q : VK), PEs X es ts -> acc.length <= sizeLine -> Inv X pins σ H s -> ZeT ts acc σ H Q ->
 wpAny (model X.prog X.w) X.A (joinParts acc (es.map fun e => eval e X.env)) (EP X pins σ Q) X.xe s
 | _, _, acc, pins, s, σ, H, Q, .nil, hz, I, h => PyProof.Rows.joinParts_nil ⟨.str acc, H, I.tok _, ⟨_, rfl⟩, h⟩ hz
 | _, _, acc, pins, s, σ, H, Q, .cons h1 h2, hz, I, h => by
  refine PyProof.Rows.joinParts_cons (thn (h1 pins s σ H _ I h) fun v s1 z0 => ?_)
  obtain ⟨x, H1, I1, r1, z, e, hl, q⟩ := z0
  subst e
  obtain ⟨t, rfl⟩ := r1
  exact ⟨hl, ZdK (acc ++ z) pins s1 σ H1 Q h2 hl I1 q⟩
theorem ZcK (env : Env) : ∀ es : List Expr, evalEach es env = es.map fun e => eval e env
 | [] => rfl
 | e :: es => by
  have ih := ZcK env es
  show eval e env :: evalEach es env = _
  rw [ih, List.map_cons]
theorem Zk8 (h : PEs X (a :: b :: es) ts) : PE X (.JoinedStr (a :: b :: es) pos) (ZeT ts Str.empty) := by
 intro pins s σ H Q I hw
 have q := ZdK (X := X) Str.empty pins s σ H Q h (by decide) I hw
 refine PyProof.Rows.JoinedStr_many ?_
 rw [ZcK]
 exact q
end
end L2
namespace L2
open PySem PySem.Spec PyProof.Rows
noncomputable def Its (x : Str) : It := ⟨fun i _ => i < x.cps.size, fun i H v H' => H' = H /\ ∃ c, x.cps[i]? = some c /\ v = .str ⟨#[c]⟩, fun i _ => x.cps.size <= i⟩
theorem Zjb {P : Program} {w : World} {K : Fg} {tg : Expr} (it : Addr) (x : Str) (t : Tok) {ty : String} (hty : ty = "str_ascii_iterator" \/ ty = "str_iterator") : Turn P w K tg (Its x) [it] it (fun i h => i <= x.cps.size /\ h.IsStrIter it ty x t i) where
 mem := by simp
 obj := fun i h st b hb => by
  have e : b = it := by simpa using hb
  subst e
  obtain ⟨_, o, e, c, d⟩ := st
  exact ⟨o, e, fun v z => by rw [d] at z; cases z⟩
 keep := fun i h h' st k => ⟨st.1, let ⟨o, ho, r⟩ := st.2; ⟨o, k it (by simp) o ho, r⟩⟩
 item := by
  intro X hP hw hK hc i pins s σ H E I hf st hg
  subst hP hw hK
  obtain ⟨f0, f1, f2, f3, f4, f5⟩ := hf it (by simp)
  have go : ∀ {W : Walks X.prog X.w X.A it [it] [it] x.cps.size (SignAt x) (fun i h => h.IsStrIter it ty x t i)}, wpAny (model X.prog X.w) X.A (pyNext (.ref it)) (fun r s1 => ∃ u, r = some u /\
   wpAny (model X.prog X.w) X.A (letOwnedTupleGo tg (.ref it) u) (fun _ s2 => ∃ v H', Inv X pins σ H' s2 /\ RelV v u /\ (Its x).yld i H v H' /\ (i + 1 <= x.cps.size /\ s2.heap.IsStrIter it ty x t (i + 1)) /\ ∀ b ∈ [it], H' b = none) E s1) E s := fun {W} => by
   refine W.item i s _ _ hg st.2 fun v h' tk hv st' kk => ?_
   obtain ⟨c, u, ec, rfl⟩ := hv
   have I1 : Inv X pins σ H { s with heap := h', toks := tk } := I.turned (fun b o hb e => kk b o (by simpa using hb) e) f0 f1 f3 f4 f5
   obtain ⟨o, e, cc, d⟩ := id st'
   refine ⟨_, rfl, ZeO (s := { s with heap := h', toks := tk }) e cc d ?_ ⟨.str ⟨#[c]⟩, H, I1, ⟨u, rfl⟩, ⟨rfl, c, ec, rfl⟩, ⟨hg, st'⟩, fun b hb => (hf b hb).1⟩⟩
   rcases hty with rfl | rfl <;> decide
  rcases hty with rfl | rfl
  . exact go (W := Walks.strAscii (I.ok.hd hc) it x t)
  . exact go (W := Walks.strWide (I.ok.hd hc) it x t)
 done := by
  intro X hP hw hK hc i pins s σ H E I hf st hg
  subst hP hw hK
  obtain ⟨f0, f1, f2, f3, f4, f5⟩ := hf it (by simp)
  obtain rfl : i = x.cps.size := Nat.le_antisymm st.1 hg
  rcases hty with rfl | rfl
  . exact (Walks.strAscii (prog := X.prog) (w := X.w) (I.ok.hd hc) it x t).done s _ _ st.2 fun h' tk kk => ⟨rfl, I.turned (fun b o hb e => kk b o (by simpa using hb) e) f0 f1 f3 f4 f5⟩
  . exact (Walks.strWide (prog := X.prog) (w := X.w) (I.ok.hd hc) it x t).done s _ _ st.2 fun h' tk kk => ⟨rfl, I.turned (fun b o hb e => kk b o (by simpa using hb) e) f0 f1 f3 f4 f5⟩
 self := fun A i s Q E st h => by
  rcases hty with rfl | rfl
  . exact wpAny_pyIter_striter_ascii st.2 h
  . exact wpAny_pyIter_striter_wide st.2 h
section
variable {X : Cx} {tg : Expr}
noncomputable def iStr (tl : TE) : TI := fun σ H R => tl σ H fun v H1 => ∃ x, v = .str x /\ R (Its x) H1
theorem ZlW (hl : PE X l tl) : PI X tg l (iStr tl) := by
 intro pins s σ H R I h
 refine thn (hl pins s σ H _ I h) fun v s1 z0 => ?_
 obtain ⟨y, H1, I1, r1, q1⟩ := z0
 obtain ⟨x, e, q⟩ := q1
 subst e
 obtain ⟨t, rfl⟩ := r1
 have fin : ∀ (o : Obj) (ty : String), (ty = "str_ascii_iterator" \/ ty = "str_iterator") -> (s1.heap.push o).IsStrIter s1.heap.objs.size ty x t 0 -> PIE X pins σ tg R (.ref s1.heap.objs.size) { s1 with heap := s1.heap.push o } := fun o ty hty hit => by
  refine ⟨s1.heap.objs.size, [s1.heap.objs.size], _, _, H1, rfl, I1.kept (t' := s1.toks) fun b o e => Heap.get?_push_of_some _ e, Zjb _ x t hty, ⟨Nat.zero_le _, hit⟩, fun b hb => ?_, q⟩
  have e : b = s1.heap.objs.size := by simpa using hb
  subst e
  exact I1.fpOk (Nat.le_refl _) (I1.hok.fresh (Nat.le_refl _))
 (cases ha : x.cps.all (· < 128))
 . exact wpAny_pyIter_wide ha (fin _ _ (.inr rfl) ⟨_, Heap.get?_push_size _ rfl, rfl, rfl⟩)
 . exact wpAny_pyIter_ascii ha (fin _ _ (.inl rfl) ⟨_, Heap.get?_push_size _ rfl, rfl, rfl⟩)
end
end L2
namespace L2
open PySem PySem.Spec PyProof.Rows
structure FnAt (P : Program) (w : World) (K : Fg) (mg : Str -> Option Value) (base : Heap) (x : Str) (k : Nat) (ps : List Str) (sp : Sp) : Prop where
 ex : ∃ (f : Addr) (fd : FuncData), FnOk P w K mg base CX0 k f fd ps sp /\ mg x = some (.ref f) /\ PySem.W.keepIn K (.ref f) = true /\ Binds K fd ps []
structure MeAt (P : Program) (w : World) (K : Fg) (mg : Str -> Option Value) (base : Heap) (C : Addr) (m : Str) (k : Nat) (ps : List Str) (sp : Sp) : Prop where
 ex : ∃ (f : Addr) (fd : FuncData), FnOk P w K mg base CX0 k f fd ps sp /\ Meth K C m f /\ Binds K fd ps []
 cl : Cls K C
structure MkAt (P : Program) (w : World) (K : Fg) (mg : Str -> Option Value) (base : Heap) (x : Str) (C : Addr) (k : Nat) (ps : List Str) (sp : Sp) : Prop where
 ex : ∃ (f : Addr) (fd : FuncData), FnOk P w K mg base CX0 k f fd ps sp /\ Mk K C f /\ mg x = some (.ref C) /\ Binds K fd ps []
section
theorem ZnL (G : FnAt X.prog X.w X.K X.mg X.base x j ps sp) (hr : Room n X.A) (ha : PA X (e :: es) t) (hj : j <= n := by decide) (hg : Gl X x := by rfl) (hdb : (x == ("__debug__" : Str)) = false := by decide)
 (he : starEach (e :: es) X.env = (false, eval e X.env) :: starEach es X.env := by rfl) (hpl : (backTo pos (starEach es X.env)).any (·.1) = false := by rfl) : PE X (.Call (.Name x p) (e :: es) [] pos) (ZjC sp [] E0 t) := by
 obtain ⟨f, fd, F, hm, hk, hb⟩ := G.ex
 exact Zkp F (hr.mono hj) hg hm hk hb .nil ZeR ha hdb he hpl
theorem ZnM (G : MeAt X.prog X.w X.K X.mg X.base C m j ps sp) (hr : Room n X.A) (ho : PE X o ta) (ha : PA X (e :: es) t) (hj : j <= n := by decide)
 (hst : starEach (e :: es) X.env = (false, eval e X.env) :: starEach es X.env := by rfl) (hpl : (backTo pos (starEach es X.env)).any (·.1) = false := by rfl)
 (ht : eval (.Call (.Attribute o m apos) (e :: es) [] pos) X.env = (do
  let ov <- eval o X.env
  standAt apos.atName
  let (f, first) <- holding [ov] (getMethod ov m pl)
  callWith pos f first (backTo pos (starEach (e :: es) X.env)) (backToKw pos (keywordEach [] X.env))) := by rfl) : PE X (.Call (.Attribute o m apos) (e :: es) [] pos) (ZeP C m sp [] E0 ta t) := by
 obtain ⟨f, fd, F, hm, hb⟩ := G.ex
 exact Zkq ho G.cl hm F (hr.mono hj) hb .nil ZeR ha hst hpl ht
theorem ZlX (G : MeAt X.prog X.w X.K X.mg X.base C m j ps sp) (hr : Room n X.A) (ho : PE X o ta) (hj : j <= n := by decide)
 (ht : eval (.Call (.Attribute o m apos) [] [] pos) X.env = (do
  let ov <- eval o X.env
  standAt apos.atName
  let (f, first) <- holding [ov] (getMethod ov m pl)
  callWith pos f first (backTo pos (starEach [] X.env)) (backToKw pos (keywordEach [] X.env))) := by rfl) : PE X (.Call (.Attribute o m apos) [] [] pos) (ZeP C m sp [] E0 ta tNil) := by
 obtain ⟨f, fd, F, hm, hb⟩ := G.ex
 exact ZiM ho G.cl hm F (hr.mono hj) hb .nil ZeR ht
theorem ZnN (G : MkAt X.prog X.w X.K X.mg X.base x C j ps sp) (hr : Room n X.A) (ha : PA X (e :: es) t) (hj : j + 1 <= n := by decide) (hg : Gl X x := by rfl) (hdb : (x == ("__debug__" : Str)) = false := by decide)
 (he : starEach (e :: es) X.env = (false, eval e X.env) :: starEach es X.env := by rfl) (hpl : (backTo pos (starEach es X.env)).any (·.1) = false := by rfl) : PE X (.Call (.Name x p) (e :: es) [] pos) (ZjD C sp [] E0 t) := by
 obtain ⟨f, fd, F, M, hm, hb⟩ := G.ex
 exact Zkr M F (hr.mono hj) hg hm hb .nil ZeR ha hdb he hpl
end
theorem Zdz (j : Nat) (js : List Nat) (σ : St) : ZaW (j :: js) σ = (σ[j]?).join :: ZaW js σ := rfl
end L2
namespace L2
open PySem PySem.Spec PyProof.Rows
theorem Zft : bootBuiltins "isinstance" = some (.builtin "isinstance") := by decide +kernel
theorem ZnO : bootBuiltins "str" = some (.type "str") := by decide +kernel
theorem ZnP : bootBuiltins "int" = some (.type "int") := by decide +kernel
theorem ZlY : bootBuiltins "bool" = some (.type "bool") := by decide +kernel
theorem ZlZ : bootBuiltins "list" = some (.type "list") := by decide +kernel
end L2
namespace L2
open PySem PySem.Spec PyProof.Rows
noncomputable def Zx (sc : Scope) (N : List Str) (i : Nat) (x : Str) (b : Bool) : Bool := N[i]? == some x && sc.names.lookup x == some (if b then .cell else .local) && !(x == ("__debug__" : Str)) && !(x == ("__classdict__" : Str))
noncomputable def Zfu (sc : Scope) (N : List Str) (i : Nat) (x : Str) : Bool := N[i]? == some x && (sc.names.lookup x == some .cell || sc.names.lookup x == some .free) && !(x == ("__debug__" : Str)) && !(x == ("__classdict__" : Str))
noncomputable def glOk (sc : Scope) (x : Str) : Bool := sc.names.lookup x == some .globalImplicit && !(x == ("__debug__" : Str)) && !(x == ("__name__" : Str))
section
theorem Zx.at (h : Zx sc N i x b = true) : N[i]? = some x /\ sc.names.lookup x = some (if b then .cell else .local) /\ (x == ("__debug__" : Str)) = false /\ (x == ("__classdict__" : Str)) = false := by
 unfold Zx at h
 (simp only [Bool.and_eq_true, Bool.not_eq_true'] at h)
 exact ⟨eq_of_beq h.1.1.1, eq_of_beq h.1.1.2, h.1.2, h.2⟩
theorem Zx.loc (h : Zx sc N i x b = true) : Loc sc x := by
 have q := (Zx.at h).2.1
 cases b
 . exact .inl q
 . exact .inr q
theorem pvs (h : Zx sc N i x b = true) (e1 : X.env.scope = sc := by rfl) (e2 : X.N = N := by rfl) : PE X (.Name x pos) (tVar i) := by
 obtain ⟨h1, h2, h3, h4⟩ := Zx.at h
 have l := Zx.loc h
 subst e1 e2
 refine Zh8 h1 ?_ h3 h4
 rcases l with l | l
 . exact .inl l
 . exact .inr (.inl l)
theorem pvf (h : Zfu sc N i x = true) (e1 : X.env.scope = sc := by rfl) (e2 : X.N = N := by rfl) : PE X (.Name x pos) (tVar i) := by
 unfold Zfu at h
 simp only [Bool.and_eq_true, Bool.not_eq_true', Bool.or_eq_true] at h
 subst e1 e2
 refine Zh8 (eq_of_beq h.1.1.1) ?_ h.1.2 h.2
 rcases h.1.1.2 with l | l
 . exact .inr (.inl (eq_of_beq l))
 . exact .inr (.inr (eq_of_beq l))
theorem glk (h : glOk sc x = true) (e1 : X.env.scope = sc := by rfl) : Gl X x := by
 unfold glOk at h
 (simp only [Bool.and_eq_true] at h)
 subst e1
 exact eq_of_beq h.1.1
theorem dbk (h : glOk sc x = true) : (x == ("__debug__" : Str)) = false := by
 unfold glOk at h
 (simp only [Bool.and_eq_true, Bool.not_eq_true'] at h)
 exact h.1.2
theorem nmk (h : glOk sc x = true) : x ≠ "__name__" := by
 unfold glOk at h
 (simp only [Bool.and_eq_true, Bool.not_eq_true'] at h)
 intro e
 have := h.2
 rw [e, beq_self_eq_true] at this
 cases this
theorem Zjc (h : Zx sc N i x b = true) (nd : N.Nodup) (e1 : X.env.scope = sc := by rfl) (e2 : X.N = N := by rfl) (hf : X.fn x = true \/ b = false := by first | exact .inl rfl | exact .inr rfl) : PG X (.Name x pos) (ZbM i) := by
 obtain ⟨h1, h2, h3, h4⟩ := Zx.at h
 have l := Zx.loc h
 subst e1 e2
 refine Zgt nd h1 l ?_
 rcases hf with q | q
 . exact .inl q
 . subst q
   exact .inr h2
noncomputable def ZcL (osc scope : Scope) (x : Str) : Bool := osc.kind == .function && osc.names.lookup x == some .local && !(scope.names.any fun (n, k) => n == x && (k == .local || k == .cell))
theorem Zha (h : ZcL osc scope x = true) (hl : (pos'.line == pos.line) = true) (e : env.scope = osc) :
 swapsWith (.ListComp elt gens scope pos) (some (.Name x pos')) line env = pure true := by
 subst e
 unfold ZcL at h
 (simp only [Bool.and_eq_true, Bool.not_eq_true'] at h)
 obtain ⟨⟨h1, h2⟩, h3⟩ := h
 show (pure (env.blockKind == .function && env.kindOf x == some .local && pos'.line == pos.line && !(scope.names.any fun (n, k) => n == x && (k == .local || k == .cell))) : Sem Bool) = pure true
 have hb : (env.blockKind == ScopeKind.function) = true := by
  unfold Env.blockKind
  rw [eq_of_beq h1]
  rfl
 have hk : (env.kindOf x == some NameKind.local) = true := h2
 rw [hb, hk, hl, h3]
 rfl
theorem Zjd
 (h : Zx sc N i x false = true) (nd : N.Nodup) (hw : ZcL sc scope x = true)
 (hc : X.calm = true) (S : CompScope X k js N' scope) (hit : PI X tg iter wi)
 (hin : ∀ (cl : List (Str × Addr)) (C : Addr) (s₀ : Shared) (H₀ : Hp) (ex : List Addr), PG (cxC X N' scope cl C s₀ H₀ ex) tg g /\ PIf (cxC X N' scope cl C s₀ H₀ ex) ifs tif /\ PE (cxC X N' scope cl C s₀ H₀ ex) elt te)
 (hl : (pos'.line == pos.line) = true := by rfl) (e1 : X.env.scope = sc := by rfl) (e2 : X.N = N := by rfl)
 (hs : ∀ x, foldedSetIterable iter X.env x = pure x := by intro _; rfl) : PS X (.Assign [.Name x pos'] (.ListComp elt [⟨tg, iter, ifs, 0⟩] scope pos) spos) (tAsg (ZeS k js wi g tif te) (ZbM i)) := by
 obtain ⟨h1, h2, h3, h4⟩ := Zx.at h
 have l := Zx.loc h
 have w := fun (e : X.env.scope = sc) => Zha (elt := elt) (gens := [⟨tg, iter, ifs, 0⟩]) (pos := pos) (line := spos.line) hw hl e
 have w1 := w e1
 subst e1 e2
 exact Zk6 nd h1 l hc S hit hin w1 (.inr h2) hs
end
end L2
namespace T
open PySem L2
inductive Kd where
 | lst | frl | tup | ftp | dic (ks : List Key) | dpp (ks : List (Pl × Pl)) | ins (C : Addr) (fs : List Str) | exc (ns : List Str) (fr : Bool) (fs : List Str)
 deriving DecidableEq
inductive D where
 | sc (v : V) | hole | node (k : Kd) (o : Bool) (ds : List D)
mutual
noncomputable def shr : D -> D
 | .sc v => .sc v
 | .hole => .hole
 | .node k _ ds => .node k false (shrL ds)
noncomputable def shrL : List D -> List D
 | [] => []
 | d :: ds => shr d :: shrL ds
end
def SqC (K : Fg) (a : Addr) (xs : List V) : Prop := ∃ (o : Obj) (its : Array Value) (n : Nat), K.lookup a = some o /\ o.cls = .type "tuple" /\ o.data = .seq its n /\ its.size <= sizeLine /\ Vals xs its.toList
def Zcv (K : Fg) (H : Hp) (a : Addr) (vs : List V) : Kd -> Prop
 | .lst => H a = some (.lst vs)
 | .frl => SqL K H a vs
 | .tup => H a = some (.tup vs)
 | .ftp => SqC K a vs
 | .dic ks => ks.length = vs.length /\ H a = some (.dK (ks.zip vs))
 | .dpp ks => ks.length = vs.length /\ H a = some (.dT (KT0 K) (ks.zip vs))
 | .ins C fs => fs.length = vs.length /\ ∃ dx, H a = some (.ins C dx (fs.zip vs))
 | .exc ns fr fs => fs.length = vs.length /\ ∃ C dx, XN K ns C /\ H a = some (.exc C dx fr (fs.zip vs))
def Zaz (K : Fg) (H : Hp) (a : Addr) (vs : List V) : Kd -> Prop
 | .lst => H a = some (.lst vs)
 | .frl => False
 | .tup => H a = some (.tup vs)
 | .ftp => False
 | .dic ks => ks.length = vs.length /\ H a = some (.dK (ks.zip vs))
 | .dpp ks => ks.length = vs.length /\ H a = some (.dT (KT0 K) (ks.zip vs))
 | .ins C fs => fs.length = vs.length /\ ∃ dx, H a = some (.ins C dx (fs.zip vs))
 | .exc ns fr fs => fs.length = vs.length /\ ∃ C dx, XN K ns C /\ H a = some (.exc C dx fr (fs.zip vs))
theorem Zaz.r {K : Fg} {H : Hp} {a : Addr} {vs : List V} {k : Kd} (h : Zaz K H a vs k) : Zcv K H a vs k := by
 cases k with
 | lst => exact h
 | frl => exact h.elim
 | tup => exact h
 | ftp => exact h.elim
 | dic ks => exact h
 | dpp ks => exact h
 | ins C fs => exact h
 | exc ns fr fs => exact h
theorem Zaz.at {K : Fg} {H : Hp} {a : Addr} {vs : List V} {k : Kd} (h : Zaz K H a vs k) : H a ≠ none := by
 cases k with
 | lst => rw [show H a = _ from h]; simp
 | frl => exact h.elim
 | tup => rw [show H a = _ from h]; simp
 | ftp => exact h.elim
 | dic ks => rw [h.2]; simp
 | dpp ks => rw [h.2]; simp
 | ins C fs => obtain ⟨_, dx, e⟩ := h; rw [e]; simp
 | exc ns fr fs => obtain ⟨_, C, dx, _, e⟩ := h; rw [e]; simp
theorem Zaz.eq {K : Fg} {H H' : Hp} {a : Addr} {vs : List V} {k : Kd} (h : Zaz K H a vs k) (e : H' a = H a) : Zaz K H' a vs k := by
 cases k with
 | lst => exact e.trans h
 | frl => exact h.elim
 | tup => exact e.trans h
 | ftp => exact h.elim
 | dic ks => exact ⟨h.1, e.trans h.2⟩
 | dpp ks => exact ⟨h.1, e.trans h.2⟩
 | ins C fs => obtain ⟨l, dx, q⟩ := h; exact ⟨l, dx, e.trans q⟩
 | exc ns fr fs => obtain ⟨l, C, dx, x, q⟩ := h; exact ⟨l, C, dx, x, e.trans q⟩
theorem Same.tupq' {K : Fg} {H H' : Hp} {a : Addr} {xs : List V} (e : Same H H') (h : SqT K H a xs) : SqT K H' a xs := by
 rcases h with (h | ⟨o, h⟩) | h
 . exact .inl (.inl (e _ _ h))
 . exact .inl (.inr ⟨o, e _ _ h⟩)
 . exact .inr h
theorem Zcv.same {K : Fg} {H H' : Hp} {a : Addr} {vs : List V} {k : Kd} (e : Same H H') (h : Zcv K H a vs k) : Zcv K H' a vs k := by
 cases k with
 | lst => exact e _ _ h
 | frl => exact e.seq h
 | tup => exact e _ _ h
 | ftp => exact h
 | dic ks => exact ⟨h.1, e _ _ h.2⟩
 | dpp ks => exact ⟨h.1, e _ _ h.2⟩
 | ins C fs => obtain ⟨l, dx, q⟩ := h; exact ⟨l, dx, e _ _ q⟩
 | exc ns fr fs => obtain ⟨l, C, dx, x, q⟩ := h; exact ⟨l, C, dx, x, e _ _ q⟩
noncomputable abbrev Bud := Addr -> Nat
noncomputable def one (a : Addr) : Bud := fun b => if b = a then 1 else 0
mutual
inductive Rep (K : Fg) (H Hs : Hp) : V -> D -> Bud -> Prop
 | sc (v : V) (m : Bud) : Rep K H Hs v (.sc v) m
 | hole (v : V) (m : Bud) : Rep K H Hs v .hole m
 | own {a : Addr} {k : Kd} {vs : List V} {ds : List D} {m m' : Bud} : Zaz K H a vs k -> RepL K H Hs vs ds m' -> (∀ b, one a b + m' b <= m b) -> Rep K H Hs (.ref a) (.node k true ds) m
 | shd {a : Addr} {k : Kd} {vs : List V} {ds : List D} {m : Bud} : Zcv K Hs a vs k -> RepL K H Hs vs ds (fun _ => 0) -> Rep K H Hs (.ref a) (.node k false ds) m
inductive RepL (K : Fg) (H Hs : Hp) : List V -> List D -> Bud -> Prop
 | nil (m : Bud) : RepL K H Hs [] [] m
 | cons {v : V} {d : D} {vs : List V} {ds : List D} {m1 m2 m : Bud} : Rep K H Hs v d m1 -> RepL K H Hs vs ds m2 -> (∀ b, m1 b + m2 b <= m b) -> RepL K H Hs (v :: vs) (d :: ds) m
end
structure Good (H Hs : Hp) (M : Bud) : Prop where
 sub : Same Hs H
 le : ∀ b, M b <= 1
 ne : ∀ b, M b = 1 -> Hs b = none
 has : ∀ b, M b = 1 -> H b ≠ none
structure Stp (H Hs : Hp) (M : Bud) (H' Hs' : Hp) (M' : Bud) : Prop where
 keep : ∀ b o, H b = some o -> M b = 0 -> H' b = some o
 own : ∀ b, M' b = 1 -> M b = 1 \/ H b = none
 grow : Same Hs Hs'
 shr : ∀ b, Hs b = none -> Hs' b ≠ none -> M b = 1 \/ H b = none
 stay : ∀ b, H b ≠ none -> H' b ≠ none
section
variable {K : Fg} {H Hs H' Hs' H1 Hs1 H2 Hs2 : Hp} {M M' M1 M2 m m1 m2 m' : Bud}
mutual
theorem Rep.mono : ∀ {v : V} {d : D} {m m' : Bud}, Rep K H Hs v d m -> (∀ b, m b <= m' b) -> Rep K H Hs v d m'
 | _, _, _, _, .sc v _, _ => .sc v _
 | _, _, _, _, .hole v _, _ => .hole v _
 | _, _, _, _, .own n r h, l => .own n r fun b => Nat.le_trans (h b) (l b)
 | _, _, _, _, .shd n r, _ => .shd n r
end
theorem RepL.mono {vs : List V} {ds : List D} {m m' : Bud} (h : RepL K H Hs vs ds m) (l : ∀ b, m b <= m' b) : RepL K H Hs vs ds m' := by
 cases h with
 | nil => exact .nil _
 | cons a b c => exact .cons a b fun x => Nat.le_trans (c x) (l x)
mutual
theorem Rep.frame (g : Same Hs Hs') : ∀ {v : V} {d : D} {m : Bud}, (∀ b, m b ≥ 1 -> H b ≠ none -> H' b = H b) -> Rep K H Hs v d m -> Rep K H' Hs' v d m
 | _, _, _, _, .sc v _ => .sc v _
 | _, _, _, _, .hole v _ => .hole v _
 | _, _, m, k, .own (a := a) (m' := m') n r h => by
  have h1 : m a ≥ 1 := by have := h a; simp only [one, if_pos] at this; omega
  refine .own (n.eq (k a h1 n.at)) (RepL.frame g (fun b hb hn => k b ?_ hn) r) h
  have := h b
  omega
 | _, _, _, k, .shd n r => .shd (n.same g) (RepL.frame g (fun b hb => absurd hb (by simp)) r)
theorem RepL.frame (g : Same Hs Hs') : ∀ {vs : List V} {ds : List D} {m : Bud}, (∀ b, m b ≥ 1 -> H b ≠ none -> H' b = H b) -> RepL K H Hs vs ds m -> RepL K H' Hs' vs ds m
 | _, _, _, _, .nil _ => .nil _
 | _, _, m, k, .cons (m1 := m1) (m2 := m2) x y h => by
  refine .cons (Rep.frame g (fun b hb => k b ?_) x) (RepL.frame g (fun b hb => k b ?_) y) h
  . have := h b; omega
  . have := h b; omega
end
theorem Good.drop (g : Good H Hs M) (l : ∀ b, M' b <= M b) : Good H Hs M' :=
 ⟨g.sub, fun b => Nat.le_trans (l b) (g.le b), fun b h => g.ne b (by have := l b; have := g.le b; omega), fun b h => g.has b (by have := l b; have := g.le b; omega)⟩
theorem Stp.drop (s : Stp H Hs M H' Hs' M1) (l : ∀ b, M2 b <= M1 b) (le : ∀ b, M1 b <= 1) : Stp H Hs M H' Hs' M2 :=
 ⟨s.keep, fun b h => s.own b (by have := l b; have := le b; omega), s.grow, s.shr, s.stay⟩
theorem Stp.refl (H Hs : Hp) (M : Bud) : Stp H Hs M H Hs M := ⟨fun _ _ h _ => h, fun _ h => .inl h, Same.refl _, fun _ h h' => absurd h h', fun _ h => h⟩
theorem Zq (g : Good H Hs M) (g1 : Good H1 Hs1 (fun b => m1 b + M1 b)) (s1 : Stp H Hs M H1 Hs1 (fun b => m1 b + M1 b)) (g2 : Good H2 Hs2 M2) (s2 : Stp H1 Hs1 M1 H2 Hs2 M2) :
 Good H2 Hs2 (fun b => m1 b + M2 b) /\ Stp H Hs M H2 Hs2 (fun b => m1 b + M2 b) /\ (∀ b, m1 b ≥ 1 -> H1 b ≠ none -> H2 b = H1 b) := by
 have d : ∀ b, m1 b = 1 -> M2 b = 0 := fun b h => by
  have l1 : m1 b + M1 b <= 1 := g1.le b
  have l2 := g2.le b
  have : M2 b ≠ 1 := fun e => by
   rcases s2.own b e with q | q
   . omega
   . exact g1.has b (by show m1 b + M1 b = 1; omega) q
  omega
 have k1 : ∀ b, m1 b ≥ 1 -> H1 b ≠ none -> H2 b = H1 b := fun b h n => by
  have l1 : m1 b + M1 b <= 1 := g1.le b
  cases q : H1 b with
  | none => exact absurd q n
  | some o => exact s2.keep b o q (by omega)
 refine ⟨⟨g2.sub, fun b => ?_, fun b h => ?_, fun b h => ?_⟩, ⟨fun b o e z => ?_, fun b h => ?_, s1.grow.trans s2.grow, fun b n n' => ?_, fun b n => s2.stay b (s1.stay b n)⟩, k1⟩
 . have l1 : m1 b + M1 b <= 1 := g1.le b
   have l2 := g2.le b
   show m1 b + M2 b <= 1
   by_cases h : m1 b = 1
   . have := d b h; omega
   . omega
 . have h : m1 b + M2 b = 1 := h
   have l1 : m1 b + M1 b <= 1 := g1.le b
   by_cases h1 : m1 b = 1
   . cases q : Hs2 b with
     | none => rfl
     | some o =>
      have n1 : Hs1 b = none := g1.ne b (by show m1 b + M1 b = 1; omega)
      rcases s2.shr b n1 (by rw [q]; simp) with z | z
      . omega
      . exact absurd z (g1.has b (by show m1 b + M1 b = 1; omega))
   . exact g2.ne b (by omega)
 . have h : m1 b + M2 b = 1 := h
   have l1 : m1 b + M1 b <= 1 := g1.le b
   by_cases h1 : m1 b = 1
   . have n := g1.has b (by show m1 b + M1 b = 1; omega)
     rw [k1 b (by omega) n]; exact n
   . exact g2.has b (by omega)
 . have e1 := s1.keep b o e z
   have : ¬ (m1 b + M1 b = 1) := fun q => by
    rcases s1.own b q with w | w
    . omega
    . rw [e] at w; cases w
   have l1 : m1 b + M1 b <= 1 := g1.le b
   exact s2.keep b o e1 (by omega)
 . have h : m1 b + M2 b = 1 := h
   have l1 : m1 b + M1 b <= 1 := g1.le b
   by_cases h1 : m1 b = 1
   . exact s1.own b (by show m1 b + M1 b = 1; omega)
   . rcases s2.own b (by omega) with q | q
     . exact s1.own b (by show m1 b + M1 b = 1; omega)
     . cases w : H b with
       | none => exact .inr rfl
       | some o => exact absurd q (s1.stay b (by rw [w]; simp))
 . cases q : Hs1 b with
   | some o => exact s1.shr b n (by rw [q]; simp)
   | none =>
    rcases s2.shr b q n' with z | z
    . have l1 : m1 b + M1 b <= 1 := g1.le b
      exact s1.own b (by show m1 b + M1 b = 1; omega)
    . cases w : H b with
      | none => exact .inr rfl
      | some o => exact absurd z (s1.stay b (by rw [w]; simp))
end
end T
namespace T
open PySem L2
inductive Rs (α : Type) where
 | ok (a : α) | exc (x : D) (δ : List D) | stuck
noncomputable abbrev M (α : Type) := List D -> Rs (α × List D)
noncomputable def M.ret {α : Type} (a : α) : M α := fun δ => .ok (a, δ)
noncomputable def M.bnd {α β : Type} (c : M α) (f : α -> M β) : M β := fun δ => match c δ with
 | .ok (a, δ') => f a δ'
 | .exc x δ' => .exc x δ'
 | .stuck => .stuck
noncomputable def lift {α : Type} : Option α -> M α
 | some a => M.ret a
 | none => fun _ => .stuck
noncomputable def stk {α : Type} : M α := fun _ => .stuck
inductive Ty where
 | int | bool | str | list | tuple | dict | own (C : Addr)
 deriving DecidableEq
inductive BF where
 | len | abs | str | int | bool | sum | min | max | list | tuple | all | any | sorted | isi (t : Ty) | dict | ord | isiX (c : Str) | isiV | xinit | xfld (f : Str) | cnt (v : V) | minL | maxL
 deriving DecidableEq
inductive BM where
 | split | join | get | index | count | find | replace | strip | startswith | endswith | isdigit | copy | lower | upper
 deriving DecidableEq
inductive MM where
 | append | extend | pop | popAt | reverse | clear | insert | update | popKey | remove
 deriving DecidableEq
inductive IK where
 | rng1 | rng2 | rng3 | val | valS | enum | zip | rev | items | values
 deriving DecidableEq
inductive Tg where
 | name (i : Nat) | tup (is : List Nat)
structure FI where
 lend : Bool
 run : List D -> Rs (D × List D)
inductive E where
 | k (v : V)
 | g (d : D)
 | v (i : Nat)
 | bin (op : Operator) (a b : E)
 | neg (a : E)
 | cmp (op : CmpOp) (a b : E)
 | chain (op op' : CmpOp) (a b c : E)
 | isN (p : Bool) (a : E)
 | isB (c p : Bool) (a : E)
 | nt (a : E)
 | and (a b : E)
 | or (a b : E)
 | ife (c a b : E)
 | ix (a i : E)
 | sl (a lo hi : E)
 | fld (a : E) (f : Str)
 | lst (es : List E)
 | tup (es : List E)
 | kl (vs : List V)
 | kt (vs : List V)
 | dct0
 | call (f : FI) (es : List E)
 | bf (f : BF) (es : List E)
 | bm (m : BM) (o : E) (es : List E)
 | mut (m : MM) (i : Nat) (ps : List E) (es : List E)
 | meth (A : Addr) (m : Str) (f : FI) (o : E) (es : List E)
 | new (A : Addr) (f : FI) (es : List E)
 | comp (k : Nat) (js : List Nat) (tg : Tg) (ik : IK) (ies : List E) (cond : List E) (elt : E)
 | fs (es : List E)
 | dct1 (k : Key) (e : E)
 | dctP (k e : E)
 | bor (e : E)
inductive YE where
 | meth (A : Addr) (m : Str) (f : FI) (o : E) (es : List E)
 | new (A : Addr) (f : FI) (es : List E)
inductive S where
 | asg (i : Nat) (e : E)
 | unp (is : List Nat) (e : E)
 | sub (i : Nat) (ps : List E) (ix : E) (e : E)
 | attr (i : Nat) (f : Str) (e : E)
 | ex (e : E)
 | ret (e : E)
 | retN
 | iff (c : E) (a b : List S)
 | for_ (tg : Tg) (ik : IK) (ies : List E) (body : List S)
 | while_ (c : E) (body : List S)
 | pass | brk | cnt
 | raise (e : E)
 | asgX (i : Nat) (f : FI) (es : List E)
 | asgY (i : Nat) (y : YE)
 | attrC (i : Nat) (f : Str) (fi : FI) (es : List E)
 | exY (y : YE)
 | retY (y : YE)
 | exX (f : FI) (es : List E)
 | retX (f : FI) (es : List E)
 | raise0 (ns : List Str)
 | raiseI (ns : List Str) (f : FI) (es : List E)
 | attrX (i : Nat) (f : Str) (e : E)
 | forX (tg : Tg) (ik : IK) (ies : List E) (body : List S)
 | try_ (body : List S) (c : Str) (nm : Option Nat) (suite : List S)
inductive Op where
 | late (i : Nat) | tmp (d : D)
inductive W where
 | sc (v : V) | nd (k : Kd) (ds : List D)
noncomputable def ZL (i : Nat) : M Op := fun δ => match δ[i]? with
 | some (.sc _) => .ok (.late i, δ)
 | some (.node _ _ _) => .ok (.late i, δ)
 | _ => .stuck
noncomputable def Zn (e : E) (c : M D) : M Op := match e with
 | .v i => ZL i
 | _ => c.bnd fun d => M.ret (.tmp d)
noncomputable def view : Op -> M W
 | .tmp (.sc v) => M.ret (.sc v)
 | .tmp (.node k _ ds) => M.ret (.nd k ds)
 | .tmp .hole => stk
 | .late i => fun δ => match δ[i]? with
  | some (.sc v) => .ok (.sc v, δ)
  | some (.node k false ds) => .ok (.nd k ds, δ)
  | some (.node k true ds) => .ok (.nd k (shrL ds), δ.set i (.node k true (shrL ds)))
  | _ => .stuck
noncomputable def views : List Op -> M (List W)
 | [] => M.ret []
 | p :: ps => (view p).bnd fun w => (views ps).bnd fun ws => M.ret (w :: ws)
noncomputable def valV (i : Nat) : M D := fun δ => match δ[i]? with
 | some (.sc v) => .ok (.sc v, δ)
 | some (.node k false ds) => .ok (.node k false ds, δ)
 | some (.node k true ds) => .ok (.node k false (shrL ds), δ.set i (.node k false (shrL ds)))
 | _ => .stuck
noncomputable def newL (ds : List D) : Option D := if ds.length <= sizeLine then some (.node .lst true ds) else none
noncomputable def newT (ds : List D) : Option D := if ds.length <= sizeLine then some (.node .tup true ds) else none
noncomputable def Zdc (f : Int -> Int -> Option D) : W -> W -> Option D
 | .sc (.int i), .sc (.int j) => f i j
 | _, _ => none
noncomputable def addW : W -> W -> Option D
 | .sc (.int i), .sc (.int j) => some (.sc (.int (i + j)))
 | .sc (.str x), .sc (.str y) => if x.length + y.length <= sizeLine then some (.sc (.str (x ++ y))) else none
 | .nd .lst xs, .nd .lst ys => newL (xs ++ ys)
 | _, _ => none
noncomputable def ZaI : List D -> Option (List Int)
 | [] => some []
 | .sc (.int i) :: r => (ZaI r).map (i :: ·)
 | _ => none
noncomputable def scals : List D -> Option (List V)
 | [] => some []
 | .sc v :: r => (scals r).map (v :: ·)
 | _ => none
noncomputable def mulW : W -> W -> Option D
 | .sc (.int i), .sc (.int j) => if (-(2 ^ 64) < i /\ i < 2 ^ 64) \/ (-(2 ^ 64) < j /\ j < 2 ^ 64) then some (.sc (.int (i * j))) else none
 | .nd .lst xs, .sc (.int n) => if -(2 ^ 63) <= n /\ n < 2 ^ 63 /\ xs.length * n.toNat <= sizeLine then (scals xs).map fun us => .node .lst true ((List.replicate n.toNat us).flatten.map D.sc) else none
 | _, _ => none
noncomputable def binW (op : Operator) : W -> W -> Option D := match op with
 | .Add => addW
 | .Sub => Zdc fun i j => some (.sc (.int (i - j)))
 | .Mult => mulW
 | .FloorDiv => Zdc fun i j => if 0 < j /\ j < 18446744073709551616 then some (.sc (.int (i / j))) else none
 | .Mod => Zdc fun i j => if 0 < j then some (.sc (.int (i % j))) else none
 | .Pow => Zdc fun i j => if 0 <= j /\ j <= 1000000 /\ i.natAbs < 2 ^ 64 then some (.sc (.int (i ^ j.toNat))) else none
 | _ => fun _ _ => none
theorem Zcw (h : Zdc f x y = some d) : ∃ i j, x = .sc (.int i) /\ y = .sc (.int j) /\ f i j = some d := by
 unfold Zdc at h
 split at h
 . exact ⟨_, _, rfl, rfl, h⟩
 . cases h
noncomputable def cmpI (op : CmpOp) (i j : Int) : Option Bool := match op with
 | .Lt => some (decide (i < j)) | .LtE => some (decide (i <= j)) | .Gt => some (decide (j < i)) | .GtE => some (decide (j <= i))
 | _ => none
mutual
noncomputable def py : D -> Option PyData
 | .sc .non => some .none
 | .sc (.bl b) => some (.bool b)
 | .sc (.int i) => some (.int i)
 | .sc (.str x) => some (.str x)
 | .node .lst _ ds => (pyL ds).map .list
 | .node .frl _ ds => (pyL ds).map .list
 | .node .tup _ ds => (pyL ds).map .tuple
 | .node .ftp _ ds => (pyL ds).map .tuple
 | _ => none
noncomputable def pyL : List D -> Option (List PyData)
 | [] => some []
 | d :: ds => (py d).bind fun a => (pyL ds).map (a :: ·)
end
noncomputable def toD : W -> D
 | .sc v => .sc v
 | .nd k ds => .node k false ds
noncomputable def eqPy (a b : PyData) : Option Bool := if SeqAt.shaped a = true /\ SeqAt.shaped b = true then some (PyData.eqv a b) else none
noncomputable def eqW : W -> W -> Option Bool
 | .sc u, .sc v => if scal u v = true then some (decide (u = v)) else (py (.sc u)).bind fun a => (py (.sc v)).bind fun b => eqPy a b
 | x, y => (py (toD x)).bind fun a => (py (toD y)).bind fun b => eqPy a b
noncomputable def cmpW : CmpOp -> W -> W -> Option Bool
 | .Eq, x, y => eqW x y
 | .NotEq, x, y => (eqW x y).map (!·)
 | op, .sc (.int i), .sc (.int j) => cmpI op i j
 | _, _, _ => none
noncomputable def ixN' (n : Nat) (i : Int) : Option Nat := if 0 <= i then (if i < n then some i.toNat else none) else if -(n : Int) <= i then some (i + n).toNat else none
noncomputable def ixW : W -> W -> Option D
 | .nd .lst ds, .sc (.int i) => (ixN' ds.length i).bind fun j => ds[j]?
 | .nd .frl ds, .sc (.int i) => (ixN' ds.length i).bind fun j => ds[j]?
 | .nd .tup ds, .sc (.int i) => (ixN' ds.length i).bind fun j => ds[j]?
 | .nd .ftp ds, .sc (.int i) => (ixN' ds.length i).bind fun j => ds[j]?
 | .sc (.str z), .sc (.int i) => if z.length <= sizeLine then ((ixN' z.cps.toList.length i).bind fun j => z.cps.toList[j]?).map fun c => .sc (.str ⟨#[c]⟩) else none
 | _, _ => none
noncomputable def keyD : V -> Option Key
 | .int i => some (.inl i)
 | .str x => some (.inr x)
 | _ => none
noncomputable def Z3 {β α : Type} [DecidableEq β] (k : β) : List β -> List α -> Option α
 | j :: ks, d :: ds => if j = k then some d else Z3 k ks ds
 | _, _ => none
noncomputable def ZbP {β α : Type} [DecidableEq β] (k : β) (d : α) : List β -> List α -> Option (List β × List α)
 | [], [] => some ([k], [d])
 | j :: ks, x :: ds => if j = k then (if (ks.any fun j => decide (j = k)) = true then none else some (j :: ks, d :: ds)) else (ZbP k d ks ds).map fun r => (j :: r.1, x :: r.2)
 | _, _ => none
noncomputable def plD : D -> Option Pl
 | .sc .non => some none
 | .node .tup _ [.sc (.int c), .sc .non] => some (some (c, none))
 | .node .tup _ [.sc (.int c), .sc (.int j)] => some (some (c, some j))
 | .node .ftp _ [.sc (.int c), .sc .non] => if c = 0 then some (some (0, none)) else none
 | _ => none
noncomputable def keyP : W -> Option (Pl × Pl)
 | .nd .tup [d1, d2] => (plD d1).bind fun a => (plD d2).map fun b => (a, b)
 | _ => none
noncomputable def ixD : W -> W -> Option D
 | .nd (.dic ks) ds, .sc v => (keyD v).bind fun k => Z3 k ks ds
 | .nd (.dpp ks) ds, y => (keyP y).bind fun k => Z3 k ks ds
 | _, _ => none
noncomputable def ixW2 : W -> W -> Option D
 | .nd (.dic ks) ds, y => ixD (.nd (.dic ks) ds) y
 | .nd (.dpp ks) ds, y => ixD (.nd (.dpp ks) ds) y
 | x, y => ixW x y
noncomputable def inD (p : Bool) : W -> W -> Option Bool
 | .sc v, .nd (.dic ks) ds => (keyD v).map fun k => (Z3 k ks ds).isSome == p
 | y, .nd (.dpp ks) ds => (keyP y).map fun k => (Z3 k ks ds).isSome == p
 | _, _ => none
noncomputable def Z4 : CmpOp -> W -> W -> Option Bool
 | .In, x, y => inD true x y
 | .NotIn, x, y => inD false x y
 | op, x, y => cmpW op x y
noncomputable def ZbQ (f : Str) : List Str -> List D -> Option D
 | g :: fs, d :: ds => if g = f then some d else ZbQ f fs ds
 | _, _ => none
noncomputable def fldW (ok : Addr -> Str -> Bool) (f : Str) : W -> Option D
 | .nd (.ins C fs) ds => if ok C f then ZbQ f fs ds else none
 | _ => none
noncomputable def truW : W -> Option Bool
 | .sc (.bl b) => some b
 | .sc (.int i) => some (decide (i ≠ 0))
 | .sc (.str x) => if x.length <= sizeLine then some (decide (x.length ≠ 0)) else none
 | .sc .non => some false
 | .nd .lst ds => some (!ds.isEmpty)
 | .nd .frl ds => some (!ds.isEmpty)
 | .nd .tup ds => some (!ds.isEmpty)
 | .nd .ftp ds => some (!ds.isEmpty)
 | .nd (.dic _) ds => some (!ds.isEmpty)
 | _ => none
noncomputable def tyW : Ty -> W -> Option Bool
 | .int, .sc (.int _) => some true | .int, .sc (.bl _) => some true | .int, .sc (.str _) => some false | .int, .sc .non => some false
 | .int, .nd .lst _ => some false | .int, .nd .tup _ => some false
 | .bool, .sc (.bl _) => some true | .bool, .sc (.int _) => some false | .bool, .sc (.str _) => some false | .bool, .sc .non => some false
 | .bool, .nd .lst _ => some false | .bool, .nd .tup _ => some false
 | .str, .sc (.str _) => some true | .str, .sc (.int _) => some false | .str, .sc (.bl _) => some false | .str, .sc .non => some false
 | .str, .nd (.dic _) _ => some false | .str, .nd .lst _ => some false | .str, .nd .tup _ => some false
 | .list, .nd .lst _ => some true | .list, .nd .tup _ => some false | .list, .sc (.int _) => some false | .list, .sc (.bl _) => some false | .list, .sc (.str _) => some false | .list, .sc .non => some false
 | .tuple, .nd .tup _ => some true | .tuple, .nd .lst _ => some false | .tuple, .sc (.int _) => some false | .tuple, .sc (.bl _) => some false | .tuple, .sc (.str _) => some false | .tuple, .sc .non => some false
 | _, _ => none
noncomputable def ZaB : List D -> Option (List Bool)
 | [] => some []
 | .sc (.bl b) :: r => (ZaB r).map (b :: ·)
 | _ => none
noncomputable def cutD (xs : List D) (lo hi : Option Int) : List D := (xs.drop (HT.sIx xs.length 0 lo)).take (HT.sIx xs.length xs.length hi - HT.sIx xs.length 0 lo)
noncomputable def slD : W -> Option Int -> Option Int -> Option D
 | .nd .lst ds, lo, hi => some (.node .lst true (cutD ds lo hi))
 | .nd .frl ds, lo, hi => some (.node .lst true (cutD ds lo hi))
 | .sc (.str z), lo, hi => if z.length <= sizeLine then some (.sc (.str (Txt.slice z lo hi))) else none
 | _, _, _ => none
noncomputable def intP : W -> Option (Option Int)
 | .sc (.int i) => some (some i)
 | _ => none
noncomputable def ZbR (e : E) (c : M Op) : M (Option Int) := match e with
 | .k .non => M.ret none
 | _ => (c.bnd view).bnd fun w => lift (intP w)
noncomputable def Zbq : List D -> Option (List Str)
 | [] => some []
 | .sc (.str x) :: r => (Zbq r).map (x :: ·)
 | _ => none
noncomputable def lenB : List W -> Option D
 | [.nd .lst ds] => some (.sc (.int ds.length))
 | [.nd .frl ds] => some (.sc (.int ds.length))
 | [.nd .tup ds] => some (.sc (.int ds.length))
 | [.nd .ftp ds] => some (.sc (.int ds.length))
 | [.nd (.dic _) ds] => some (.sc (.int ds.length))
 | [.sc (.str x)] => if x.length <= sizeLine then some (.sc (.int x.length)) else none
 | _ => none
noncomputable def absB : List W -> Option D
 | [.sc (.int i)] => some (.sc (.int (if i < 0 then -i else i)))
 | _ => none
noncomputable def strB : List W -> Option D
 | [.sc (.int i)] => if i.natAbs.log2 < 1920 then some (.sc (.str (Str.ofString (toString i)))) else none
 | _ => none
noncomputable def intB : List W -> Option D
 | [.sc (.int i)] => some (.sc (.int i))
 | [.sc (.bl b)] => some (.sc (.int (if b then 1 else 0)))
 | [.sc (.str z)] => match intText? z with
  | some n => if z.length <= 640 then some (.sc (.int n)) else none
  | none => none
 | _ => none
noncomputable def Zhb : List W -> Option D
 | [.nd .lst ds] => some (.node .lst true ds)
 | [.nd .frl ds] => some (.node .lst true ds)
 | [.nd .tup ds] => some (.node .lst true ds)
 | [.nd .ftp ds] => some (.node .lst true ds)
 | _ => none
noncomputable def Zma : List W -> Option D
 | [.nd .lst ds] => some (.node .tup true ds)
 | _ => none
noncomputable def isiB (t : Ty) : List W -> Option D
 | [w] => (tyW t w).map fun b => .sc (.bl b)
 | _ => none
noncomputable def allB : List W -> Option D
 | [.nd .lst ds] => (ZaB ds).map fun bs => .sc (.bl (bs.all id))
 | _ => none
noncomputable def anyB : List W -> Option D
 | [.nd .lst ds] => (ZaB ds).map fun bs => .sc (.bl (bs.any id))
 | _ => none
noncomputable def sumB : List W -> Option D
 | [.nd .lst ds] => (ZaI ds).map fun is => .sc (.int is.sum)
 | _ => none
noncomputable def minB : List W -> Option D
 | [.sc (.int i), .sc (.int j)] => some (.sc (.int (if j < i then j else i)))
 | _ => none
noncomputable def maxB : List W -> Option D
 | [.sc (.int i), .sc (.int j)] => some (.sc (.int (if j > i then j else i)))
 | _ => none
noncomputable def ZnQ (c : Str) : List W -> Option D
 | [.nd (.exc ns _ _) _] => some (.sc (.bl (decide (c ∈ ns))))
 | _ => none
noncomputable def ZnR : List W -> Option D
 | [.nd (.exc _ _ _) _] => some (.sc (.bl true))
 | _ => none
noncomputable def Zmb : List W -> Option D
 | [.nd (.exc _ _ _) _, .sc _] => some (.sc .non)
 | _ => none
noncomputable def ZnS (f : Str) : List W -> Option D
 | [.nd (.exc _ _ fs) ds] => if f ∈ Zef then ZbQ f fs ds else none
 | _ => none
noncomputable def ZjL : List D -> Option (List V)
 | [] => some []
 | .sc u :: r => if ZnG u = true then (ZjL r).map (u :: ·) else none
 | _ => none
noncomputable def cntB (v : V) : List W -> Option D
 | [.nd .lst ds] => (ZjL ds).map fun us => .sc (.int ((us.countP fun u => eqV u v : Nat) : Int))
 | _ => none
noncomputable def ZnT : List W -> Option D
 | [.nd .lst ds] => (ZaI ds).bind fun is => match is with
  | [] => none
  | i :: is => some (.sc (.int (is.foldl (fun a b => if b < a then b else a) i)))
 | _ => none
noncomputable def ZnU : List W -> Option D
 | [.nd .lst ds] => (ZaI ds).bind fun is => match is with
  | [] => none
  | i :: is => some (.sc (.int (is.foldl (fun a b => if b > a then b else a) i)))
 | _ => none
noncomputable def bfW : BF -> List W -> Option D
 | .len, ws => lenB ws
 | .abs, ws => absB ws
 | .str, ws => strB ws
 | .int, ws => intB ws
 | .list, ws => Zhb ws
 | .tuple, ws => Zma ws
 | .isi t, ws => isiB t ws
 | .all, ws => allB ws
 | .any, ws => anyB ws
 | .sum, ws => sumB ws
 | .min, ws => minB ws
 | .max, ws => maxB ws
 | .isiX c, ws => ZnQ c ws
 | .isiV, ws => ZnR ws
 | .xinit, ws => Zmb ws
 | .xfld f, ws => ZnS f ws
 | .cnt v, ws => cntB v ws
 | .minL, ws => ZnT ws
 | .maxL, ws => ZnU ws
 | _, _ => none
noncomputable def strW : W -> Option Str
 | .sc (.str z) => some z
 | _ => none
noncomputable def bmW : BM -> Str -> List W -> Option D
 | .split, z, [.sc (.str s)] => if s.cps.size = 1 /\ z.length + 2 <= sizeLine then some (.node .lst true ((Txt.split z s).map fun x => .sc (.str x))) else none
 | .join, z, [.nd .lst ds] => (Zbq ds).bind fun ts => if JoinOk z ts = true then some (.sc (.str (Txt.join z ts))) else none
 | _, _, _ => none
noncomputable def rng (a b : Int) : List D := (List.range (b - a).toNat).map fun (k : Nat) => .sc (.int (a + k))
noncomputable def okR (i : Int) : Bool := decide (-(2 ^ 62) <= i) && decide (i < 2 ^ 62)
noncomputable def ZjM : Int -> List D -> List D
 | _, [] => []
 | c, d :: ds => .node .tup false [.sc (.int c), d] :: ZjM (c + 1) ds
noncomputable def zipD : List D -> List D -> List D
 | d :: ds, e :: es => .node .tup false [d, e] :: zipD ds es
 | _, _ => []
noncomputable def zipI : List W -> Option (List D)
 | [.nd k ds, .nd k' es] => if (k = .lst \/ k = .frl) /\ (k' = .lst \/ k' = .frl) then some (zipD ds es) else none
 | _ => none
noncomputable def ZnV : List W -> Option (List D)
 | [.nd k ds, .sc (.int c)] => if (k = .lst \/ k = .frl) /\ okR c = true then some (ZjM c ds) else none
 | _ => none
noncomputable def Zhc : List W -> Option (List D)
 | [.sc (.int n)] => if okR n then some (rng 0 n) else none
 | _ => none
noncomputable def Zhd : List W -> Option (List D)
 | [.sc (.int a), .sc (.int b)] => if okR a && okR b then some (rng a b) else none
 | _ => none
noncomputable def valI : List W -> Option (List D)
 | [.nd .lst ds] => some ds
 | [.nd .frl ds] => some ds
 | [.nd .tup ds] => some ds
 | [.nd .ftp ds] => some ds
 | [.sc (.str x)] => some (x.cps.toList.map fun c => .sc (.str ⟨#[c]⟩))
 | _ => none
noncomputable def itW : IK -> List W -> Option (List D)
 | .zip, ws => zipI ws
 | .enum, ws => ZnV ws
 | .rng1, ws => Zhc ws
 | .rng2, ws => Zhd ws
 | .val, ws => valI ws
 | _, _ => none
noncomputable def Zai : Op -> M (W × Option (Nat × D))
 | .tmp (.sc v) => M.ret (.sc v, none)
 | .tmp (.node k _ ds) => M.ret (.nd k (shrL ds), none)
 | .tmp .hole => stk
 | .late i => fun δ => match δ[i]? with
  | some (.sc v) => .ok ((.sc v, none), δ)
  | some (.node k false ds) => .ok ((.nd k ds, none), δ)
  | some (.node k true ds) => .ok ((.nd k (shrL ds), some (i, .node k true (shrL ds))), δ.set i .hole)
  | _ => .stuck
noncomputable def Z0 : List Op -> M (List W × List (Nat × D))
 | [] => M.ret ([], [])
 | p :: ps => (Zai p).bnd fun w => (Z0 ps).bnd fun ws => M.ret (w.1 :: ws.1, w.2.toList ++ ws.2)
noncomputable def ZT : List (Nat × D) -> M Unit
 | [] => M.ret ()
 | (i, d) :: r => fun δ => ZT r (δ.set i d)
noncomputable def walked : List E -> Nat -> Bool
 | [], _ => false
 | .v i :: r, j => i == j || walked r j
 | _ :: r, j => walked r j
noncomputable def Zcx (lend : Bool) : Op -> M D
 | .tmp d => M.ret d
 | .late i => fun δ => match δ[i]? with
  | some (.sc v) => .ok (.sc v, δ)
  | some (.node k false ds) => .ok (.node k false ds, δ)
  | some (.node k true ds) => if lend then .ok (.node k true ds, δ.set i .hole) else .ok (.node k false (shrL ds), δ.set i (.node k false (shrL ds)))
  | _ => .stuck
noncomputable def Zas (lend : Bool) : List Op -> M (List D)
 | [] => M.ret []
 | p :: ps => (Zcx lend p).bnd fun d => (Zas lend ps).bnd fun ds => M.ret (d :: ds)
noncomputable def Zcy : Op -> D -> M Unit
 | .tmp _, _ => M.ret ()
 | .late i, d => fun δ => match δ[i]? with
  | some .hole => .ok ((), δ.set i d)
  | _ => .ok ((), δ)
noncomputable def ZN : List Op -> List D -> M Unit
 | p :: ps, d :: ds => (Zcy p d).bnd fun _ => ZN ps ds
 | _, _ => M.ret ()
noncomputable def ZaC (fi : FI) (ps : List Op) : M D := (Zas fi.lend ps).bnd fun ds => match fi.run ds with
 | .ok (d, ds') => (ZN ps ds').bnd fun _ => M.ret d
 | .exc _ _ => stk
 | .stuck => stk
noncomputable def Zdd (fi : FI) (ps : List Op) : M D := (Zas fi.lend ps).bnd fun ds => match fi.run ds with
 | .ok (d, ds') => (ZN ps ds').bnd fun _ => M.ret d
 | .exc x ds' => fun δ => match ZN ps ds' δ with
  | .ok (_, δ') => .exc x δ'
  | _ => .stuck
 | .stuck => stk
noncomputable def chkI (A : Addr) (m : Str) : Op -> M Unit
 | .late i => fun δ => match δ[i]? with
  | some (.node (.ins B fs) _ _) => if B = A /\ m ∉ fs then .ok ((), δ) else .stuck
  | _ => .stuck
 | .tmp (.node (.ins B fs) _ _) => fun δ => if B = A /\ m ∉ fs then .ok ((), δ) else .stuck
 | _ => stk
noncomputable def newF (C : Addr) (fi : FI) (ps : List Op) : M D := (Zas fi.lend ps).bnd fun ds => match fi.run (.node (.ins C []) true [] :: ds) with
 | .ok (.sc .non, d :: ds') => (ZN ps ds').bnd fun _ => M.ret d
 | .ok _ => stk
 | .exc _ _ => stk
 | .stuck => stk
noncomputable def newX (ns : List Str) (fi : FI) (ps : List Op) : M D := if 1000 < ps.length then stk else (Zas fi.lend ps).bnd fun ds => match fi.run (.node (.exc ns true []) true [] :: ds) with
 | .ok (.sc .non, d :: ds') => (ZN ps ds').bnd fun _ => M.ret d
 | .ok _ => stk
 | .exc _ _ => stk
 | .stuck => stk
noncomputable def Zib {α : Type} : D -> M α
 | .node (.exc ns true fs) true ds => fun δ => .exc (.node (.exc ns false fs) true ds) δ
 | _ => stk
noncomputable def asgN (lock : Nat -> Bool) (i : Nat) (d : D) : M Unit := fun δ => if i < δ.length && !lock i then .ok ((), δ.set i d) else .stuck
noncomputable def ZaX (lock : Nat -> Bool) : List Nat -> List D -> M Unit
 | [], [] => M.ret ()
 | i :: is, d :: ds => (asgN lock i d).bnd fun _ => ZaX lock is ds
 | _, _ => stk
noncomputable def asgT (lock : Nat -> Bool) : Tg -> D -> M Unit
 | .name i, d => asgN lock i d
 | .tup is, .node .tup _ ds => ZaX lock is ds
 | .tup _, _ => stk
noncomputable def modS (i : Nat) (f : Kd -> List D -> Option (D × Kd × List D)) : M D := fun δ => match δ[i]? with
 | some (.node k true ds) => match f k ds with
  | some (r, k', ds') => .ok (r, δ.set i (.node k' true ds'))
  | none => .stuck
 | _ => .stuck
noncomputable def mutD : MM -> List W -> Kd -> List D -> Option (D × Kd × List D)
 | .extend, [.nd .lst es], .lst, ds => if ds.length + es.length <= sizeLine then some (.sc .non, .lst, ds ++ es) else none
 | .pop, [], .lst, ds => ds.getLast?.map fun d => (d, .lst, ds.dropLast)
 | .popAt, [.sc (.int i)], .lst, ds => if -(2 ^ 63) <= i /\ i < 2 ^ 63 then (ixN' ds.length i).bind fun j => ds[j]?.map fun d => (d, .lst, ds.eraseIdx j) else none
 | .reverse, [], .lst, ds => some (.sc .non, .lst, ds.reverse)
 | .clear, [], .lst, _ => some (.sc .non, .lst, [])
 | _, _, _, _ => none
noncomputable def appD (d : D) : Kd -> List D -> Option (D × Kd × List D)
 | .lst, ds => if ds.length < sizeLine then some (.sc .non, .lst, ds ++ [d]) else none
 | _, _ => none
noncomputable def appM (i : Nat) : List D -> M D
 | [d] => modS i (appD d)
 | _ => stk
noncomputable def chkL (i : Nat) : M Unit := fun δ => match δ[i]? with
 | some (.node .lst _ _) => .ok ((), δ)
 | _ => .stuck
noncomputable def setD (w : W) (d : D) : Kd -> List D -> Option (D × Kd × List D)
 | .lst, ds => match w with
  | .sc (.int i) => (ixN' ds.length i).map fun j => (.sc .non, .lst, ds.set j d)
  | _ => none
 | _, _ => none
noncomputable def Zb1 (w : W) (d : D) : Kd -> List D -> Option (D × Kd × List D)
 | .dpp ks, ds => if ds.length < sizeLine then (keyP w).bind fun k => (ZbP k d ks ds).map fun r => (.sc .non, .dpp r.1, r.2) else none
 | .dic ks, ds => match w with
  | .sc v => if ds.length < sizeLine then (keyD v).bind fun k => (ZbP k d ks ds).map fun r => (.sc .non, .dic r.1, r.2) else none
  | _ => none
 | k, ds => setD w d k ds
noncomputable def putN (f : Str) : List Str -> List Str
 | [] => [f]
 | g :: r => if g = f then g :: r else g :: putN f r
noncomputable def putV {α : Type} (f : Str) (d : α) : List Str -> List α -> List α
 | g :: r, x :: ds => if g = f then d :: ds else x :: putV f d r ds
 | _, _ => [d]
noncomputable def putD (ok : Addr -> Str -> Bool) (f : Str) (d : D) : Kd -> List D -> Option (D × Kd × List D)
 | .ins C fs, ds => if fs.length < 1000 /\ ok C f = true then some (.sc .non, .ins C (putN f fs), putV f d fs ds) else none
 | _, _ => none
noncomputable def putX (f : Str) (d : D) : Kd -> List D -> Option (D × Kd × List D)
 | .exc ns fr fs, ds => if fs.length < 1000 /\ f ∈ Zef then some (.sc .non, .exc ns fr (putN f fs), putV f d fs ds) else none
 | _, _ => none
structure Ctx where
 lock : Nat -> Bool
 fok : Addr -> Str -> Bool
 fuel : Nat
noncomputable def Zcd : List Nat -> M (List D)
 | [] => M.ret []
 | j :: js => fun δ => match δ[j]? with
  | some d => ((Zcd js).bnd fun ds => M.ret (d :: ds)) (δ.set j .hole)
  | none => .stuck
noncomputable def ZaS : List Nat -> List D -> M Unit
 | j :: js, d :: ds => fun δ => ZaS js ds (δ.set j d)
 | _, _ => M.ret ()
noncomputable def Zae (asg : D -> M Unit) (cond : M Bool) (elt : M D) : List D -> List D -> M (List D)
 | [], acc => M.ret acc
 | d :: ds, acc => (asg d).bnd fun _ => cond.bnd fun b => if b then elt.bnd fun x => Zae asg cond elt ds (acc ++ [x]) else Zae asg cond elt ds acc
noncomputable def Zap (k : Nat) (js : List Nat) (loop : M (List D)) : M D := (Zcd js).bnd fun caps δ => match loop (List.replicate k .hole ++ caps) with
 | .ok (acc, δ') => ((ZaS js (δ'.drop k)).bnd fun _ => lift (newL acc)) δ
 | .exc _ _ => .stuck
 | .stuck => .stuck
noncomputable def fmtD : V -> Option Str
 | .int i => if i.natAbs.log2 < 1920 then some (Str.ofString (toString i)) else none
 | .str x => some x
 | .non => some (Str.ofString "None")
 | _ => none
noncomputable def fmtW (acc : Str) : W -> Option Str
 | .sc v => (fmtD v).bind fun z => if z.length <= sizeLine /\ (acc ++ z).length <= sizeLine then some (acc ++ z) else none
 | _ => none
noncomputable def isNW (p : Bool) : W -> D
 | .sc v => .sc (.bl (decide (v = .non) == p))
 | .nd _ _ => .sc (.bl (!p))
noncomputable def isBW (c p : Bool) : W -> Option D
 | .sc (.bl b) => some (.sc (.bl ((b == c) == p)))
 | _ => none
noncomputable def negW : W -> Option D
 | .sc (.int i) => some (.sc (.int (-i)))
 | _ => none
noncomputable def notW : W -> Option D
 | .sc (.bl t) => some (.sc (.bl (!t)))
 | _ => none
noncomputable def andM (b : M D) : W -> M D
 | .sc (.bl true) => b
 | .sc (.bl false) => M.ret (.sc (.bl false))
 | _ => stk
noncomputable def orM (b : M D) : W -> M D
 | .sc (.bl false) => b
 | .sc (.bl true) => M.ret (.sc (.bl true))
 | _ => stk
noncomputable def ZbS (c : M D) : M Bool := c.bnd fun d => lift (match d with | .sc (.bl b) => some b | _ => none)
noncomputable def tdef (e : E) (c : M D) : M Bool := (Zn e c).bnd fun p => (view p).bnd fun w => lift (truW w)
noncomputable def vdef (e : E) (c : M D) : M W := (Zn e c).bnd view
noncomputable def borV (c : M D) : M D := fun δ => match c (shrL δ) with
 | .ok (.sc v, _) => .ok (.sc v, δ)
 | _ => .stuck
mutual
noncomputable def evb (C : Ctx) : E -> M D × M Bool
 | .k v => let c : M D := M.ret (.sc v); (c, tdef (.k v) c)
 | .g d => let c : M D := M.ret d; (c, tdef (.g d) c)
 | .v i => (valV i, tdef (.v i) (valV i))
 | .bin op a b =>
  let c : M D := (Zn a (evb C a).1).bnd fun p => (Zn b (evb C b).1).bnd fun q => (view p).bnd fun x => (view q).bnd fun y => lift (binW op x y)
  (c, tdef (.bin op a b) c)
 | .neg a =>
  let c : M D := (vdef a (evb C a).1).bnd fun x => lift (negW x)
  (c, tdef (.neg a) c)
 | .cmp op a b =>
  let c : M D := (Zn a (evb C a).1).bnd fun p => (Zn b (evb C b).1).bnd fun q => (view p).bnd fun x => (view q).bnd fun y => lift ((Z4 op x y).map fun t => .sc (.bl t))
  (c, ZbS c)
 | .chain op op' a b e =>
  let c : M D := (Zn a (evb C a).1).bnd fun p => (Zn b (evb C b).1).bnd fun q => (view p).bnd fun x => (view q).bnd fun y => (lift (cmpW op x y)).bnd fun t => if t then (Zn e (evb C e).1).bnd fun r => (view q).bnd fun y => (view r).bnd fun z => lift ((cmpW op' y z).map fun t => .sc (.bl t)) else M.ret (.sc (.bl false))
  (c, ZbS c)
 | .isN p a =>
  let c : M D := (vdef a (evb C a).1).bnd fun x => M.ret (isNW p x)
  (c, tdef (.isN p a) c)
 | .isB c p a =>
  let r : M D := (vdef a (evb C a).1).bnd fun x => lift (isBW c p x)
  (r, tdef (.isB c p a) r)
 | .nt a => ((vdef a (evb C a).1).bnd fun w => lift (notW w), (evb C a).2.bnd fun b => M.ret (!b))
 | .and a b => ((vdef a (evb C a).1).bnd (andM (evb C b).1), (evb C a).2.bnd fun t => if t then (evb C b).2 else M.ret false)
 | .or a b => ((vdef a (evb C a).1).bnd (orM (evb C b).1), (evb C a).2.bnd fun t => if t then M.ret true else (evb C b).2)
 | .ife c a b =>
  let r : M D := (evb C c).2.bnd fun t => if t then (evb C a).1 else (evb C b).1
  (r, tdef (.ife c a b) r)
 | .ix a i =>
  let c : M D := (Zn a (evb C a).1).bnd fun p => (Zn i (evb C i).1).bnd fun q => (view p).bnd fun x => (view q).bnd fun y => lift (ixW2 x y)
  (c, tdef (.ix a i) c)
 | .sl a lo hi =>
  let c : M D := (Zn a (evb C a).1).bnd fun p => (ZbR lo (Zn lo (evb C lo).1)).bnd fun l => (ZbR hi (Zn hi (evb C hi).1)).bnd fun h => (view p).bnd fun x => lift (slD x l h)
  (c, tdef (.sl a lo hi) c)
 | .fld a f =>
  let c : M D := (vdef a (evb C a).1).bnd fun x => lift (fldW C.fok f x)
  (c, tdef (.fld a f) c)
 | .lst es =>
  let c : M D := (evs C es).bnd fun ds => lift (newL ds)
  (c, tdef (.lst es) c)
 | .tup es =>
  let c : M D := (evs C es).bnd fun ds => lift (newT ds)
  (c, tdef (.tup es) c)
 | .kl vs =>
  let c : M D := lift (newL (vs.map D.sc))
  (c, tdef (.kl vs) c)
 | .kt vs =>
  let c : M D := lift (newT (vs.map D.sc))
  (c, tdef (.kt vs) c)
 | .dct0 =>
  let c : M D := M.ret (.node (.dic []) true [])
  (c, tdef .dct0 c)
 | .call f es =>
  let c : M D := (opds C es).bnd fun ps => ZaC f ps
  (c, tdef (.call f es) c)
 | .bf f es =>
  let c : M D := (opds C es).bnd fun ps => (views ps).bnd fun ws => lift (bfW f ws)
  (c, tdef (.bf f es) c)
 | .bm m o es =>
  let c : M D := (vdef o (evb C o).1).bnd fun w => (lift (strW w)).bnd fun z => (opds C es).bnd fun ps => (views ps).bnd fun ws => lift (bmW m z ws)
  (c, tdef (.bm m o es) c)
 | .mut m i ps es =>
  let c : M D := match m, ps with
   | .append, [] => (chkL i).bnd fun _ => (evs C es).bnd fun ds => appM i ds
   | m, [] => (chkL i).bnd fun _ => (opds C es).bnd fun ps => (views ps).bnd fun ws => modS i (mutD m ws)
   | _, _ => stk
  (c, tdef (.mut m i ps es) c)
 | .meth A m f o es =>
  let c : M D := (Zn o (evb C o).1).bnd fun p => (chkI A m p).bnd fun _ => (opds C es).bnd fun ps => ZaC f (p :: ps)
  (c, tdef (.meth A m f o es) c)
 | .new A f es =>
  let c : M D := (opds C es).bnd fun ps => newF A f ps
  (c, tdef (.new A f es) c)
 | .comp k js tg ik ies cond elt =>
  let C' : Ctx := { C with lock := fun i => decide (k <= i) }
  let loop (items : List D) : M (List D) := Zae (asgT C'.lock tg) (tsts C' cond) (evb C' elt).1 items []
  let c : M D := (opds C ies).bnd fun ps => (Z0 ps).bnd fun h => (lift (itW ik h.1)).bnd fun items => (Zap k js (loop items)).bnd fun d => (ZT h.2).bnd fun _ => M.ret d
  (c, tdef (.comp k js tg ik ies cond elt) c)
 | .fs es =>
  let c : M D := fss C es Str.empty
  (c, tdef (.fs es) c)
 | .dct1 k e =>
  let c : M D := (evb C e).1.bnd fun d => M.ret (.node (.dic [k]) true [d])
  (c, tdef (.dct1 k e) c)
 | .dctP k e =>
  let c : M D := (Zn k (evb C k).1).bnd fun p => (evb C e).1.bnd fun d => (view p).bnd fun w => lift ((keyP w).map fun key => .node (.dpp [key]) true [d])
  (c, tdef (.dctP k e) c)
 | .bor e =>
  let c : M D := borV (evb C e).1
  (c, tdef (.bor e) c)
noncomputable def fss (C : Ctx) : List E -> Str -> M D
 | [], acc => M.ret (.sc (.str acc))
 | e :: es, acc => (vdef e (evb C e).1).bnd fun w => (lift (fmtW acc w)).bnd fun acc' => fss C es acc'
noncomputable def opds (C : Ctx) : List E -> M (List Op)
 | [] => M.ret []
 | e :: es => (Zn e (evb C e).1).bnd fun p => (opds C es).bnd fun ps => M.ret (p :: ps)
noncomputable def evs (C : Ctx) : List E -> M (List D)
 | [] => M.ret []
 | e :: es => (evb C e).1.bnd fun p => (evs C es).bnd fun ps => M.ret (p :: ps)
noncomputable def tsts (C : Ctx) : List E -> M Bool
 | [] => M.ret true
 | e :: es => (evb C e).2.bnd fun b => if b then tsts C es else M.ret false
end
noncomputable abbrev ev (C : Ctx) (e : E) : M D := (evb C e).1
noncomputable abbrev tst (C : Ctx) (e : E) : M Bool := (evb C e).2
noncomputable def makX (A : Addr) (fi : FI) (ps : List Op) : M D := (Zas fi.lend ps).bnd fun ds => match fi.run (.node (.ins A []) true [] :: ds) with
 | .ok (.sc .non, d :: ds') => (ZN ps ds').bnd fun _ => M.ret d
 | .exc x (_ :: ds') => fun δ => match ZN ps ds' δ with
  | .ok (_, δ') => .exc x δ'
  | _ => .stuck
 | _ => stk
noncomputable def yev (C : Ctx) : YE -> M D
 | .meth A m f o es => (Zn o (evb C o).1).bnd fun p => (chkI A m p).bnd fun _ => (opds C es).bnd fun ps => Zdd f (p :: ps)
 | .new A f es => (opds C es).bnd fun ps => makX A f ps
inductive Fl where
 | nx | rt (d : D) | bk | ct
noncomputable def forL (asg : D -> M Unit) (body : M Fl) : List D -> M Fl
 | [] => M.ret .nx
 | d :: ds => (asg d).bnd fun _ => body.bnd fun f => match f with
  | .nx => forL asg body ds
  | .ct => forL asg body ds
  | .bk => M.ret .nx
  | .rt x => M.ret (.rt x)
noncomputable def Z8 (c : M Bool) (body : M Fl) : Nat -> M Fl
 | 0 => stk
 | n + 1 => c.bnd fun b => if b then body.bnd fun f => match f with
  | .nx => Z8 c body n
  | .ct => Z8 c body n
  | .bk => M.ret .nx
  | .rt x => M.ret (.rt x)
  else M.ret .nx
noncomputable def movV (i : Nat) : M D := fun δ => match δ[i]? with
 | some (.sc v) => .ok (.sc v, δ)
 | some (.node k o ds) => .ok (.node k o ds, δ.set i .hole)
 | _ => .stuck
noncomputable def retV (C : Ctx) (e : E) : M D := match e with
 | .v i => if C.lock i then valV i else movV i
 | e => ev C e
noncomputable def seqL (c : M Fl) (r : M Fl) : M Fl := c.bnd fun f => match f with
 | .nx => r
 | f => M.ret f
noncomputable def unpM (lock : Nat -> Bool) (is : List Nat) : W -> M Unit
 | .nd .tup ds => ZaX lock is ds
 | .nd .lst ds => ZaX lock is ds
 | _ => stk
noncomputable def finB (h : List (Nat × D)) : Rs (Fl × List D) -> Rs (Fl × List D)
 | .ok (f, δ) => ((ZT h).bnd fun _ => M.ret f) δ
 | .exc x δ => (match ZT h δ with
  | .ok (_, δ') => .exc x δ'
  | _ => .stuck)
 | .stuck => .stuck
noncomputable def hits (c : Str) : D -> Bool
 | .node (.exc ns false _) true _ => decide (c ∈ ns)
 | _ => false
noncomputable def ZnW (i : Nat) : Rs (Fl × List D) -> Rs (Fl × List D)
 | .ok (f, δ) => .ok (f, δ.set i .hole)
 | .exc _ _ => .stuck
 | .stuck => .stuck
noncomputable def tryM (lock : Nat -> Bool) (body : M Fl) (c : Str) (nm : Option Nat) (suite : M Fl) : M Fl := fun δ => match body δ with
 | .ok r => .ok r
 | .stuck => .stuck
 | .exc x δ' => if hits c x then (match nm with
  | none => (match suite δ' with
   | .exc _ _ => .stuck
   | r => r)
  | some i => if i < δ'.length && !lock i then ZnW i (suite (δ'.set i x)) else .stuck) else .stuck
noncomputable def Zde (i : Nat) (n : Int) (f : Kd -> List D -> Option (D × Kd × List D)) : M D := fun δ => match δ[i]? with
 | some (.node .lst true ds) => match ixN' ds.length n with
  | some j => match ds[j]? with
   | some (.node .lst true es) => match f .lst es with
    | some (r, k', es') => .ok (r, δ.set i (.node .lst true (ds.set j (.node k' true es'))))
    | none => .stuck
   | _ => .stuck
  | none => .stuck
 | _ => .stuck
noncomputable def subV (i j : Nat) (c : M D) : E -> M Fl
 | .v l => c.bnd fun d δ => match δ[j]?, δ[l]? with
  | some (.sc (.int n)), some (.sc (.int m)) => ((Zde i n (setD (.sc (.int m)) d)).bnd fun _ => M.ret .nx) δ
  | _, _ => .stuck
 | _ => stk
mutual
noncomputable def ex (C : Ctx) : S -> M Fl
 | .asg i e => (ev C e).bnd fun d => (asgN C.lock i d).bnd fun _ => M.ret .nx
 | .unp is e => (vdef e (ev C e)).bnd fun w => (unpM C.lock is w).bnd fun _ => M.ret .nx
 | .sub i ps ix e => match ps with
  | [] => (ev C e).bnd fun d => (ZL i).bnd fun _ => (vdef ix (ev C ix)).bnd fun w => (modS i (Zb1 w d)).bnd fun _ => M.ret .nx
  | [.v j] => subV i j (ev C e) ix
  | _ => stk
 | .attr i f e => (ev C e).bnd fun d => (ZL i).bnd fun _ => (modS i (putD C.fok f d)).bnd fun _ => M.ret .nx
 | .ex e => (ev C e).bnd fun _ => M.ret .nx
 | .ret e => (retV C e).bnd fun d => M.ret (.rt d)
 | .retN => M.ret (.rt (.sc .non))
 | .iff c a b => (tst C c).bnd fun t => if t then exs C a else exs C b
 | .for_ tg ik ies body =>
  let lk : Nat -> Bool := fun j => C.lock j || walked ies j
  (opds C ies).bnd fun ps => (Z0 ps).bnd fun h => (lift (itW ik h.1)).bnd fun items => (forL (asgT lk tg) (exs { C with lock := lk } body) items).bnd fun f => (ZT h.2).bnd fun _ => M.ret f
 | .while_ c body => Z8 (tst C c) (exs C body) C.fuel
 | .pass => M.ret .nx
 | .brk => M.ret .bk
 | .cnt => M.ret .ct
 | .raise _ => stk
 | .attrC i f fi es => ((opds C es).bnd fun ps => Zdd fi ps).bnd fun d => (ZL i).bnd fun _ => (modS i (putD C.fok f d)).bnd fun _ => M.ret .nx
 | .asgY i y => (yev C y).bnd fun d => (asgN C.lock i d).bnd fun _ => M.ret .nx
 | .exY y => (yev C y).bnd fun _ => M.ret .nx
 | .retY y => (yev C y).bnd fun d => M.ret (.rt d)
 | .asgX i f es => ((opds C es).bnd fun ps => Zdd f ps).bnd fun d => (asgN C.lock i d).bnd fun _ => M.ret .nx
 | .exX f es => ((opds C es).bnd fun ps => Zdd f ps).bnd fun _ => M.ret .nx
 | .retX f es => ((opds C es).bnd fun ps => Zdd f ps).bnd fun d => M.ret (.rt d)
 | .raise0 ns => Zib (.node (.exc ns true []) true [])
 | .raiseI ns f es => ((opds C es).bnd fun ps => newX ns f ps).bnd Zib
 | .attrX i f e => (ev C e).bnd fun d => (ZL i).bnd fun _ => (modS i (putX f d)).bnd fun _ => M.ret .nx
 | .forX tg ik ies body =>
  let lk : Nat -> Bool := fun j => C.lock j || walked ies j
  (opds C ies).bnd fun ps => (Z0 ps).bnd fun h => (lift (itW ik h.1)).bnd fun items δ => finB h.2 (forL (asgT lk tg) (exs { C with lock := lk } body) items δ)
 | .try_ body c nm suite => tryM C.lock (exs C body) c nm (exs C suite)
noncomputable def exs (C : Ctx) : List S -> M Fl
 | [] => M.ret .nx
 | s :: r => seqL (ex C s) (exs C r)
end
noncomputable def Zce (n : Nat) : Rs (Fl × List D) -> Rs (D × List D)
 | .ok (.rt d, δ) => .ok (d, δ.take n)
 | .ok (.nx, δ) => .ok (.sc .non, δ.take n)
 | .ok _ => .stuck
 | .exc x δ => .exc x (δ.take n)
 | .stuck => .stuck
noncomputable def Zs (C : Ctx) (n N : Nat) (body : List S) (ds : List D) : Rs (D × List D) :=
 if ds.length = n then Zce n (exs { C with lock := fun i => decide (i < n) } body (ds ++ List.replicate (N - n) .hole)) else .stuck
end T
namespace T
open PySem L2
inductive Sep {α : Type} (R : α -> D -> Bud -> Prop) : List α -> List D -> Bud -> Prop
 | nil (m : Bud) : Sep R [] [] m
 | cons {a : α} {d : D} {as : List α} {ds : List D} {m1 m2 m : Bud} : R a d m1 -> Sep R as ds m2 -> (∀ b, m1 b + m2 b <= m b) -> Sep R (a :: as) (d :: ds) m
theorem RepL.sep : ∀ {vs : List V} {ds : List D} {m : Bud}, RepL K H Hs vs ds m -> Sep (Rep K H Hs) vs ds m
 | _, _, _, .nil _ => .nil _
 | _, _, _, .cons a b c => .cons a b.sep c
theorem Sep.repL : ∀ {vs : List V} {ds : List D} {m : Bud}, Sep (Rep K H Hs) vs ds m -> RepL K H Hs vs ds m
 | _, _, _, .nil _ => .nil _
 | _, _, _, .cons a b c => .cons a b.repL c
section
variable {α β : Type} {R R' : α -> D -> Bud -> Prop}
theorem Sep.length : ∀ {as : List α} {ds : List D} {m : Bud}, Sep R as ds m -> as.length = ds.length
 | _, _, _, .nil _ => rfl
 | _, _, _, .cons _ b _ => by rw [List.length_cons, List.length_cons, b.length]
theorem Sep.mono (h : Sep R as ds m) (l : ∀ b, m b <= m' b) : Sep R as ds m' := by
 cases h with
 | nil => exact .nil _
 | cons a b c => exact .cons a b fun x => Nat.le_trans (c x) (l x)
theorem Sep.imp : ∀ {as : List α} {ds : List D} {m : Bud}, (∀ a d m', (∀ b, m' b <= m b) -> R a d m' -> R' a d m') -> Sep R as ds m -> Sep R' as ds m
 | _, _, _, _, .nil _ => .nil _
 | _, _, m, f, .cons (m1 := m1) (m2 := m2) x y c => .cons (f _ _ _ (fun b => by have := c b; omega) x) (y.imp fun a d m' l => f a d m' fun b => by have := c b; have := l b; (try dsimp only at *); omega) c
theorem Sep.focus : ∀ {as : List α} {ds : List D} {m : Bud} {i : Nat} {d : D}, Sep R as ds m -> ds[i]? = some d -> ∃ (a : α) (m1 m2 : Bud), as[i]? = some a /\ R a d m1 /\ (∀ b, m1 b + m2 b <= m b) /\
 ∀ (R' : α -> D -> Bud -> Prop) (a' : α) (d' : D) (m' : Bud), (∀ a d m', (∀ b, m' b <= m2 b) -> R a d m' -> R' a d m') -> R' a' d' m' -> Sep R' (as.set i a') (ds.set i d') (fun b => m' b + m2 b)
 | _, _, _, _, _, .nil _, h => by simp at h
 | _, _, m, 0, _, .cons (a := a) (m1 := m1) (m2 := m2) x y c, h => by
  (simp only [List.getElem?_cons_zero, Option.some.injEq] at h)
  subst h
  exact ⟨a, m1, m2, rfl, x, c, fun R' a' d' m' f x' => .cons x' (y.imp f) fun b => Nat.le_refl _⟩
 | _, _, m, i + 1, d, .cons (a := a) (m1 := m1) (m2 := m2) x y c, h => by
  obtain ⟨a', n1, n2, e, r, l, f⟩ := Sep.focus (i := i) y (by simpa using h)
  refine ⟨a', n1, fun b => m1 b + n2 b, by simpa using e, r, fun b => by have := c b; have := l b; (try dsimp only at *); omega, fun R' a'' d'' m' g x' => ?_⟩
  have q := f R' a'' d'' m' (fun a d m' l' => g a d m' fun b => by have := l' b; (try dsimp only at *); omega) x'
  exact .cons (m2 := fun b => m' b + n2 b) (g _ _ _ (fun b => by (try dsimp only at *); omega) x) q fun b => by (try dsimp only at *); omega
theorem Sep.append : ∀ {as bs : List α} {ds es : List D} {m1 m2 : Bud}, Sep R as ds m1 -> Sep R bs es m2 -> Sep R (as ++ bs) (ds ++ es) (fun b => m1 b + m2 b)
 | _, _, _, _, _, _, .nil _, y => y.mono fun b => by (try dsimp only at *); omega
 | _, _, _, _, _, m2, .cons (m2 := n2) x y c, z => .cons (m2 := fun b => n2 b + m2 b) x (y.append z) fun b => by have := c b; omega
theorem Sep.get {as : List α} {ds : List D} {m : Bud} {i : Nat} {d : D} (h : Sep R as ds m) (e : ds[i]? = some d) : ∃ (a : α) (m1 : Bud), as[i]? = some a /\ R a d m1 /\ ∀ b, m1 b <= m b := by
 obtain ⟨a, m1, m2, e, r, l, _⟩ := h.focus e
 exact ⟨a, m1, e, r, fun b => by have := l b; omega⟩
theorem Sep.split : ∀ {as : List α} {ds es : List D} {m : Bud}, Sep R as (ds ++ es) m -> ∃ (a1 a2 : List α) (m1 m2 : Bud), as = a1 ++ a2 /\ Sep R a1 ds m1 /\ Sep R a2 es m2 /\ ∀ b, m1 b + m2 b <= m b
 | as, [], es, m, h => ⟨[], as, fun _ => 0, m, rfl, .nil _, h, fun b => by (try dsimp only at *); omega⟩
 | _, d :: ds, es, m, .cons (a := a) (m1 := m1) x y c => by
  obtain ⟨a1, a2, n1, n2, e, p, q, l⟩ := Sep.split (ds := ds) (es := es) y
  subst e
  exact ⟨a :: a1, a2, fun b => m1 b + n1 b, n2, rfl, .cons x p fun b => Nat.le_refl _, q, fun b => by have := c b; have := l b; (try dsimp only at *); omega⟩
theorem Sep.take (h : Sep R as ds m) (n : Nat) : Sep R (as.take n) (ds.take n) m := by
 have e : ds.take n ++ ds.drop n = ds := List.take_append_drop n ds
 rw [<- e] at h
 obtain ⟨a1, a2, m1, m2, q, p, p', l⟩ := h.split
 have hl := p.length
 have hd := h.length
 subst q
 have : (a1 ++ a2).take n = a1 := by
  by_cases hn : n <= ds.length
  . rw [List.take_left' (by rw [hl, List.length_take]; omega)]
  . have e2 : a2 = [] := by
     have := p'.length
     rw [List.length_drop] at this
     exact List.length_eq_zero_iff.mp (by (try dsimp only at *); omega)
    rw [e2, List.append_nil]
    exact List.take_of_length_le (by rw [hl, List.length_take]; omega)
 rw [this]
 exact p.mono fun b => by have := l b; omega
theorem Sep.drop (h : Sep R as ds m) (n : Nat) : Sep R (as.drop n) (ds.drop n) m := by
 have e : ds.take n ++ ds.drop n = ds := List.take_append_drop n ds
 rw [<- e] at h
 obtain ⟨a1, a2, m1, m2, q, p, p', l⟩ := h.split
 have hl := p.length
 subst q
 have : (a1 ++ a2).drop n = a2 := by
  by_cases hn : n <= ds.length
  . rw [List.drop_left' (by rw [hl, List.length_take]; omega)]
  . have e2 : a2 = [] := by
     have := p'.length
     rw [List.length_drop] at this
     exact List.length_eq_zero_iff.mp (by (try dsimp only at *); omega)
    rw [e2, List.append_nil]
    exact List.drop_of_length_le (by rw [hl, List.length_take]; omega)
 rw [this]
 exact p'.mono fun b => by have := l b; omega
end
section
mutual
theorem Rep.share (g : Same Hs Hs') : ∀ {v : V} {d : D} {m : Bud}, (∀ b, m b ≥ 1 -> H b ≠ none -> Hs' b = H b) -> Rep K H Hs v d m -> Rep K H Hs' v (shr d) (fun _ => 0)
 | _, _, _, _, .sc v _ => .sc v _
 | _, _, _, _, .hole v _ => .hole v _
 | _, _, m, k, .own (a := a) (m' := m') n r h => by
  have h1 : m a ≥ 1 := by have := h a; simp only [one, if_pos] at this; omega
  refine .shd (Zaz.r (n.eq (k a h1 n.at))) (RepL.share g (fun b hb => k b ?_) r)
  have := h b
  omega
 | _, _, _, _, .shd n r => .shd (n.same g) (RepL.share g (fun b hb => absurd hb (by simp)) r)
theorem RepL.share (g : Same Hs Hs') : ∀ {vs : List V} {ds : List D} {m : Bud}, (∀ b, m b ≥ 1 -> H b ≠ none -> Hs' b = H b) -> RepL K H Hs vs ds m -> RepL K H Hs' vs (shrL ds) (fun _ => 0)
 | _, _, _, _, .nil _ => .nil _
 | _, _, m, k, .cons x y h => by
  refine .cons (Rep.share g (fun b hb => k b ?_) x) (RepL.share g (fun b hb => k b ?_) y) fun b => Nat.le_refl _
  . have := h b; omega
  . have := h b; omega
end
noncomputable def shH (H Hs : Hp) (m : Bud) : Hp := fun b => if m b ≥ 1 then H b else Hs b
theorem ZaP {M : Bud} {m : Bud} (g : Good H Hs M) (l : ∀ b, m b <= M b) : Same Hs (shH H Hs m) := fun b o e => by
 unfold shH
 split
 . exact g.sub b o e
 . exact e
theorem Zcf : ∀ b, m b ≥ 1 -> H b ≠ none -> shH H Hs m b = H b := fun b h _ => if_pos h
theorem Good.share {m M : Bud} (g : Good H Hs (fun b => m b + M b)) : Good H (shH H Hs m) M where
 sub := fun b o e => by
  unfold shH at e
  split at e
  . exact e
  . exact g.sub b o e
 le := fun b => by have : m b + M b <= 1 := g.le b; omega
 ne := fun b h => by
  have : m b + M b <= 1 := g.le b
  unfold shH
  rw [if_neg (by (try dsimp only at *); omega)]
  exact g.ne b (by show m b + M b = 1; omega)
 has := fun b h => by
  have : m b + M b <= 1 := g.le b
  exact g.has b (by show m b + M b = 1; omega)
theorem Stp.share {m M : Bud} (g : Good H Hs (fun b => m b + M b)) : Stp H Hs (fun b => m b + M b) H (shH H Hs m) M where
 keep := fun _ _ h _ => h
 own := fun b h => .inl (by have : m b + M b <= 1 := g.le b; show m b + M b = 1; omega)
 grow := ZaP g fun b => by (try dsimp only at *); omega
 shr := fun b h h' => by
  unfold shH at h'
  split at h'
  . have : m b + M b <= 1 := g.le b
    exact .inl (by show m b + M b = 1; omega)
  . exact absurd h h'
 stay := fun _ h => h
end
def RepO (K : Fg) (H Hs : Hp) (o : Option V) (d : D) (m : Bud) : Prop := d = .hole \/ ∃ v, o = some v /\ Rep K H Hs v d m
abbrev RepS (K : Fg) (H Hs : Hp) (σ : St) (δ : List D) (m : Bud) : Prop := Sep (RepO K H Hs) σ δ m
section
theorem RepO.frame (g : Same Hs Hs') (k : ∀ b, m b ≥ 1 -> H b ≠ none -> H' b = H b) (h : RepO K H Hs o d m) : RepO K H' Hs' o d m := by
 rcases h with h | ⟨v, e, r⟩
 . exact .inl h
 . exact .inr ⟨v, e, r.frame g k⟩
theorem RepS.frame (g : Same Hs Hs') (k : ∀ b, m b ≥ 1 -> H b ≠ none -> H' b = H b) (h : RepS K H Hs σ δ m) : RepS K H' Hs' σ δ m :=
 h.imp fun a d m' l r => RepO.frame g (fun b hb => k b (Nat.le_trans hb (l b))) r
theorem RepL.slots : ∀ {vs : List V} {ds : List D} {m : Bud}, RepL K H Hs vs ds m -> RepS K H Hs (vs.map some) ds m
 | _, _, _, .nil _ => .nil _
 | _, _, _, .cons x y c => .cons (.inr ⟨_, rfl, x⟩) (RepL.slots y) c
theorem holes (o : Nat -> Option V) : ∀ (n : Nat) (m : Bud) (σ : St), σ.length = n -> RepS K H Hs σ (List.replicate n .hole) m
 | 0, m, [], _ => .nil _
 | n + 1, m, o :: σ, h => .cons (m1 := fun _ => 0) (.inl rfl) (holes (fun _ => none) n m σ (by simpa using h)) fun b => by (try dsimp only at *); omega
inductive SlotI (K : Fg) (H Hs : Hp) (σ : St) (δ : List D) (m : Bud) (i : Nat) (d : D) : Prop
 | mk (v : V) (m1 m2 : Bud) (h0 : σ[i]? = some (some v)) (h1 : Rep K H Hs v d m1) (h2 : ∀ b, m1 b + m2 b <= m b) (h3 : ∀ (H' Hs' : Hp) (o : Option V) (d' : D) (m' : Bud), Same Hs Hs' -> (∀ b, m2 b ≥ 1 -> H b ≠ none -> H' b = H b) -> RepO K H' Hs' o d' m' -> RepS K H' Hs' (σ.set i o) (δ.set i d') (fun b => m' b + m2 b)) : SlotI K H Hs σ δ m i d
theorem RepS.slot (h : RepS K H Hs σ δ m) (e : δ[i]? = some d) (hd : d ≠ .hole) : SlotI K H Hs σ δ m i d := by
 obtain ⟨o, m1, m2, e1, r, l, f⟩ := h.focus e
 rcases r with r | ⟨v, rfl, r⟩
 . exact absurd r hd
 . exact ⟨v, m1, m2, e1, r, l, fun H' Hs' o d' m' g k x => f _ o d' m' (fun a d m'' l' q => RepO.frame g (fun b hb => k b (Nat.le_trans hb (l' b))) q) x⟩
theorem ZC : ∀ {l : List α} {i : Nat} {a : α}, l[i]? = some a -> l.set i a = l
 | [], _, _, h => by simp at h
 | b :: l, 0, a, h => by simp at h; subst h; rfl
 | b :: l, i + 1, a, h => by rw [List.set_cons_succ, ZC (by simpa using h)]
end
end T
namespace T
open PySem PySem.Spec L2
inductive BO {α β : Type} (c : M α) (f : α -> M β) (δ : List D) (r : β × List D) : Prop
 | mk (a : α) (δ' : List D) (h : c δ = .ok (a, δ')) (k : f a δ' = .ok r) : BO c f δ r
theorem Zc (h : c.bnd f δ = .ok r) : BO c f δ r := by
 unfold M.bnd at h
 split at h
 . rename_i a δ' e
   exact ⟨a, δ', e, h⟩
 . cases h
 . cases h
theorem Zh (h : M.ret a δ = .ok r) : r = (a, δ) := by
 unfold M.ret at h
 injection h with h
 exact h.symm
theorem Z9 (h : lift o δ = .ok (a, δ')) : o = some a /\ δ' = δ := by
 cases o with
 | none => cases h
 | some x =>
  have := Zh h
  cases this
  exact ⟨rfl, rfl⟩
def RepP (K : Fg) (H Hs : Hp) (σ : St) (v : V) : Op -> Bud -> Prop
 | .late i, _ => σ[i]? = some (some v)
 | .tmp d, m => Rep K H Hs v d m
theorem RepP.frame (g : Same Hs Hs') (k : ∀ b, m b ≥ 1 -> H b ≠ none -> H' b = H b) (h : RepP K H Hs σ v p m) : RepP K H' Hs' σ v p m := by
 cases p with
 | late i => exact h
 | tmp d => exact Rep.frame g k h
inductive View (K : Fg) (H Hs : Hp) : V -> W -> Bud -> Prop
 | sc (v : V) (m : Bud) : View K H Hs v (.sc v) m
 | nd {a : Addr} {k : Kd} {vs : List V} {ds : List D} {m : Bud} : Zcv K H a vs k -> RepL K H Hs vs ds m -> View K H Hs (.ref a) (.nd k ds) m
theorem View.frame (g : Same Hs Hs') (h : View K H Hs v w m) : View K H Hs' v w m := by
 cases h with
 | sc v m => exact .sc v m
 | nd n r => exact .nd n (r.frame g fun _ _ _ => rfl)
section
variable {K : Fg} {H Hs H' Hs' H1 Hs1 H2 Hs2 : Hp} {σ : St} {δ δ' : List D} {M M' B m : Bud}
theorem Good.re (g : Good H Hs M) (l : ∀ b, M' b <= M b := by intro b; (try dsimp only); omega) : Good H Hs M' := g.drop l
theorem ZV (g : Good H Hs (fun b => B b + M b)) (s : RepS K H Hs σ δ M) (r : RepP K H Hs σ v p m) (e : view p δ = .ok (w, δ')) :
 ∃ Hs' M', Good H Hs' (fun b => B b + M' b) /\ Stp H Hs (fun b => B b + M b) H Hs' (fun b => B b + M' b) /\ View K H Hs' v w m /\ RepS K H Hs' σ δ' M' := by
 cases p with
 | tmp d =>
  cases d with
  | sc u =>
   have := Zh e
   cases this
   cases r
   exact ⟨Hs, M, g, Stp.refl _ _ _, .sc _ _, s⟩
  | hole => cases e
  | node k o ds =>
   have := Zh e
   cases this
   refine ⟨Hs, M, g, Stp.refl _ _ _, ?_, s⟩
   cases r with
   | own n q l => exact .nd n.r (q.mono fun b => by have := l b; omega)
   | shd n q => exact .nd (n.same g.sub) (q.mono fun b => Nat.zero_le _)
 | late i =>
  have r : σ[i]? = some (some v) := r
  unfold view at e
  dsimp only at e
  split at e
  . rename_i u hi
    cases e
    obtain ⟨v', m1, m2, e1, q, l, f⟩ := s.slot hi (by simp)
    rw [r] at e1
    cases e1
    cases q
    exact ⟨Hs, M, g, Stp.refl _ _ _, .sc _ _, s⟩
  . rename_i k ds hi
    cases e
    obtain ⟨v', m1, m2, e1, q, l, f⟩ := s.slot hi (by simp)
    rw [r] at e1
    cases e1
    cases q with
    | shd n q => exact ⟨Hs, M, g, Stp.refl _ _ _, .nd (n.same g.sub) (q.mono fun b => Nat.zero_le _), s⟩
  . rename_i k ds hi
    cases e
    obtain ⟨v', m1, m2, e1, q, l, f⟩ := s.slot hi (by simp)
    rw [r] at e1
    cases e1
    cases q with
    | @own a _ vs _ _ m' n q l' =>
     have g2 : Good H Hs (fun b => m' b + (B b + (one a b + m2 b))) := g.re fun b => by have := l b; have := l' b; omega
     have hsame := ZaP g2 (m := m') fun b => by omega
     have q2 := RepL.share hsame (Zcf (H := H) (Hs := Hs) (m := m')) q
     refine ⟨shH H Hs m', fun b => one a b + m2 b, g2.share, ?_, .nd n.r (q2.mono fun b => Nat.zero_le _), ?_⟩
     . have s1 := Stp.share g2
       exact ⟨fun b o h z => h, fun b h => by
        rcases s1.own b h with q | q
        . left
          have : B b + M b <= 1 := g.le b
          have h1 := l b
          have h2 := l' b
          have h3 : m' b + (B b + (one a b + m2 b)) = 1 := q
          show B b + M b = 1
          omega
        . exact .inr q, s1.grow, fun b h h' => by
        rcases s1.shr b h h' with q | q
        . left
          have : B b + M b <= 1 := g.le b
          have h1 := l b
          have h2 := l' b
          have h3 : m' b + (B b + (one a b + m2 b)) = 1 := q
          show B b + M b = 1
          omega
        . exact .inr q, fun b h => h⟩
     . have z := f H (shH H Hs m') (some (.ref a)) (.node k true (shrL ds)) (one a) hsame (fun _ _ _ => rfl) (.inr ⟨_, rfl, .own n q2 fun b => by simp⟩)
       rw [ZC r] at z
       exact z
  . cases e
def Outs (K : Fg) (H Hs : Hp) (m : Bud) (d : D) (Q : VK) : Prop := ∀ (v : V) (H' : Hp) (m' : Bud), Same H H' -> (∀ b, m' b <= 1) -> (∀ b, m' b = 1 -> H' b ≠ none) -> (∀ b, H b ≠ none -> m' b <= m b) -> Rep K H' Hs v d m' -> Q v H'
theorem Outs.sc (h : Outs K H Hs m (.sc u) Q) : Q u H := h u H (fun _ => 0) (Same.refl _) (fun _ => Nat.zero_le _) (fun _ h => by simp at h) (fun _ _ => Nat.zero_le _) (.sc u _)
theorem ZbF (h : H p = none) : Same H (upd H p o) := fun b u e => by
 rw [Zm (Za9 e h)]
 exact e
theorem Outs.new (h : Outs K H Hs m (.node k true ds) Q) (hm : ∀ b, m b <= 1) (hh : ∀ b, m b = 1 -> H b ≠ none) (hp : H p = none) (n : Zaz K (upd H p o) p vs k) (r : RepL K H Hs vs ds m) : Q (.ref p) (upd H p o) := by
 have hs := ZbF (o := o) hp
 have mp : m p = 0 := by
  have := hm p
  by_cases q : m p = 1
  . exact absurd hp (hh p q)
  . omega
 refine h (.ref p) (upd H p o) (fun b => one p b + m b) hs (fun b => ?_) (fun b q => ?_) (fun b q => ?_) (.own n (r.frame (Same.refl _) fun b hb hn => ?_) fun b => Nat.le_refl _)
 . unfold one
   have := hm b
   split
   . rename_i e; subst e; omega
   . omega
 . by_cases e : b = p
   . subst e; rw [Zl]; simp
   . rw [Zm e]
     exact hh b (by simp only [one, if_neg e] at q; omega)
 . have e : b ≠ p := fun e => by subst e; exact q hp
   simp only [one, if_neg e]
   omega
 . have e : b ≠ p := fun e => by subst e; exact hn hp
   rw [Zm e]
theorem Zb5 (st : Stp H0 Hs0 M0 H Hs (fun b => B b + M b)) (g : Good H Hs (fun b => B b + M b)) (s : RepS K H Hs σ δ M)
 (q : ∀ (v : V) (H' Hs' : Hp) (m M' : Bud), Good H' Hs' (fun b => m b + M' b) -> Stp H0 Hs0 M0 H' Hs' (fun b => m b + M' b) -> Rep K H' Hs' v d m -> RepS K H' Hs' σ δ M' -> Q v H') : Outs K H Hs B d Q := by
 intro v H' m' hs h1 h2 h3 r
 have hz : ∀ b, H b = none -> M b = 0 /\ B b = 0 := fun b hb => by
  have := g.has b
  have l : B b + M b <= 1 := g.le b
  by_cases e : B b + M b = 1
  . exact absurd hb (this e)
  . omega
 have hst : ∀ b, H b ≠ none -> H' b ≠ none := fun b hb => by
  cases e : H b with
  | none => exact absurd e hb
  | some o => rw [hs b o e]; simp
 refine q v H' Hs m' M ⟨fun b o e => hs b o (g.sub b o e), fun b => ?_, fun b h => ?_, fun b h => ?_⟩ ⟨fun b o e z => hs b o (st.keep b o e z), fun b h => ?_, st.grow, st.shr, fun b h => hst b (st.stay b h)⟩ r (s.frame (Same.refl _) fun b hb hn => ?_)
 . have l : B b + M b <= 1 := g.le b
   have := h1 b
   by_cases e : H b = none
   . have := hz b e; show m' b + M b <= 1; omega
   . have := h3 b e; show m' b + M b <= 1; omega
 . have h : m' b + M b = 1 := h
   have l : B b + M b <= 1 := g.le b
   by_cases e : H b = none
   . cases q : Hs b with
     | none => rfl
     | some o => rw [g.sub b o q] at e; cases e
   . have := h3 b e
     exact g.ne b (by show B b + M b = 1; omega)
 . have h : m' b + M b = 1 := h
   have l : B b + M b <= 1 := g.le b
   by_cases e : m' b = 1
   . exact h2 b e
   . exact hst b (g.has b (by show B b + M b = 1; omega))
 . have h : m' b + M b = 1 := h
   have l : B b + M b <= 1 := g.le b
   by_cases e : H b = none
   . right
     cases w : H0 b with
     | none => rfl
     | some o => exact absurd e (st.stay b (by rw [w]; simp))
   . have := h3 b e
     exact st.own b (by show B b + M b = 1; omega)
 . cases e : H b with
   | none => exact absurd e hn
   | some o => exact hs b o e
theorem RepL.app (a : RepL K H Hs vs ds m1) (b : RepL K H Hs ws es m2) : RepL K H Hs (vs ++ ws) (ds ++ es) (fun b => m1 b + m2 b) := (a.sep.append b.sep).repL
theorem RepL.len (a : RepL K H Hs vs ds m) : vs.length = ds.length := a.sep.length
end
end T
namespace T
open PySem PySem.Spec L2
inductive tG {α : Type} (K : Fg) (c : M α) (R : Hp -> Hp -> St -> α -> V -> Bud -> Prop) (σ : St) (H : Hp) (Q : VK) : Prop
 | mk (δ : List D) (Hs : Hp) (M : Bud) (a : α) (δ' : List D) (h0 : Good H Hs M) (h1 : RepS K H Hs σ δ M) (h2 : c δ = .ok (a, δ')) (h3 : ∀ (v : V) (H' Hs' : Hp) (m M' : Bud), Good H' Hs' (fun b => m b + M' b) -> Stp H Hs M H' Hs' (fun b => m b + M' b) -> R H' Hs' σ a v m -> RepS K H' Hs' σ δ' M' -> Q v H') : tG K c R σ H Q
def tM (K : Fg) (c : M D) : TE := tG K c fun H Hs _ d v m => Rep K H Hs v d m
def tP (K : Fg) (c : M Op) : TE := tG K c fun H Hs σ p v m => RepP K H Hs σ v p m
inductive tT (K : Fg) (c : M Bool) (σ : St) (H : Hp) (Q : Bool -> Hp -> Prop) : Prop
 | mk (δ : List D) (Hs : Hp) (M : Bud) (b : Bool) (δ' : List D) (h0 : Good H Hs M) (h1 : RepS K H Hs σ δ M) (h2 : c δ = .ok (b, δ')) (h3 : ∀ (H' Hs' : Hp) (M' : Bud), Good H' Hs' M' -> Stp H Hs M H' Hs' M' -> RepS K H' Hs' σ δ' M' -> Q b H') : tT K c σ H Q
def ZaY (K : Fg) (H Hs : Hp) (σ : St) : List V -> List Op -> Bud -> Prop
 | [], [], _ => True
 | v :: vs, p :: ps, m => ∃ m1 m2 : Bud, RepP K H Hs σ v p m1 /\ ZaY K H Hs σ vs ps m2 /\ ∀ b, m1 b + m2 b <= m b
 | _, _, _ => False
theorem ZaY.frame (g : Same Hs Hs') : ∀ {vs : List V} {ps : List Op} {m : Bud}, (∀ b, m b ≥ 1 -> H b ≠ none -> H' b = H b) -> ZaY K H Hs σ vs ps m -> ZaY K H' Hs' σ vs ps m
 | [], [], _, _, h => h
 | v :: vs, p :: ps, m, k, ⟨m1, m2, a, b, l⟩ => ⟨m1, m2, a.frame g fun c hc => k c (by have := l c; omega), b.frame g fun c hc => k c (by have := l c; omega), l⟩
 | [], _ :: _, _, _, h => h.elim
 | _ :: _, [], _, _, h => h.elim
inductive tPs (K : Fg) (c : M (List Op)) (σ : St) (H : Hp) (Q : List V -> Hp -> Prop) : Prop
 | mk (δ : List D) (Hs : Hp) (M : Bud) (a : List Op) (δ' : List D) (h0 : Good H Hs M) (h1 : RepS K H Hs σ δ M) (h2 : c δ = .ok (a, δ')) (h3 : ∀ (vs : List V) (H' Hs' : Hp) (m M' : Bud), Good H' Hs' (fun b => m b + M' b) -> Stp H Hs M H' Hs' (fun b => m b + M' b) -> ZaY K H' Hs' σ vs a m -> RepS K H' Hs' σ δ' M' -> Q vs H') : tPs K c σ H Q
inductive tDs (K : Fg) (c : M (List D)) (σ : St) (H : Hp) (Q : List V -> Hp -> Prop) : Prop
 | mk (δ : List D) (Hs : Hp) (M : Bud) (a : List D) (δ' : List D) (h0 : Good H Hs M) (h1 : RepS K H Hs σ δ M) (h2 : c δ = .ok (a, δ')) (h3 : ∀ (vs : List V) (H' Hs' : Hp) (m M' : Bud), Good H' Hs' (fun b => m b + M' b) -> Stp H Hs M H' Hs' (fun b => m b + M' b) -> RepL K H' Hs' vs a m -> RepS K H' Hs' σ δ' M' -> Q vs H') : tDs K c σ H Q
section
variable {X : Cx} {e a b : Expr} {es : List Expr} {pos : Pos}
theorem PE.imp (h : PE X e t) (w : ∀ σ H Q, t' σ H Q -> t σ H Q) : PE X e t' := fun pins s σ H Q I q => h pins s σ H Q I (w σ H Q q)
theorem PT.imp (h : PT X e t) (w : ∀ σ H Q, t' σ H Q -> t σ H Q) : PT X e t' := fun pins s σ H Q I q => h pins s σ H Q I (w σ H Q q)
theorem PA.imp (h : PA X es t) (w : ∀ σ H Q, t' σ H Q -> t σ H Q) : PA X es t' := fun pos pins s σ H Q I q => h pos pins s σ H Q I (w σ H Q q)
theorem Zaq {H Hs : Hp} {M : Bud} (g : Good H Hs M) : Good H Hs (fun b => (fun _ => 0) b + M b) := g.drop fun b => by simp
theorem stp0 (H Hs : Hp) (M : Bud) : Stp H Hs M H Hs (fun b => (fun _ => 0) b + M b) := by
 have e : (fun b => (fun _ => 0) b + M b) = M := by funext b; simp
 rw [e]
 exact Stp.refl H Hs M
theorem ok_k {v : V} (h : PE X e (tC v)) : PE X e (tM X.K (M.ret (.sc v))) := PE.imp h fun σ H Q z0 => by
 obtain ⟨δ, Hs, M, d, δ', g, r, e, q⟩ := z0
 have := Zh e
 cases this
 exact q v H Hs (fun _ => 0) M (Zaq g) (stp0 H Hs M) (.sc v _) r
theorem Zg2 {i : Nat} (h : PE X e (tVar i)) : PE X e (tP X.K (ZL i)) := PE.imp h fun σ H Q z0 => by
 obtain ⟨δ, Hs, M, p, δ', g, r, e, q⟩ := z0
 have fin : ∀ {d : D}, δ[i]? = some d -> d ≠ .hole -> p = .late i -> δ' = δ -> tVar i σ H Q := fun hd hn e1 e2 => by
  subst e1 e2
  obtain ⟨v, m1, m2, e3, _⟩ := r.slot hd hn
  exact ⟨v, e3, q v H Hs (fun _ => 0) M (Zaq g) (stp0 H Hs M) e3 r⟩
 unfold ZL at e
 split at e
 . rename_i hd
   injection e with e
   cases e
   exact fin hd (by simp) rfl rfl
 . rename_i hd
   injection e with e
   cases e
   exact fin hd (by simp) rfl rfl
 . cases e
theorem ok_v {i : Nat} (h : PE X e (tVar i)) : PE X e (tM X.K (valV i)) := PE.imp h fun σ H Q z0 => by
 obtain ⟨δ, Hs, M, d, δ', g, s, e, q⟩ := z0
 unfold valV at e
 split at e
 . rename_i u hd
   injection e with e
   cases e
   obtain ⟨v, m1, m2, e3, r, _⟩ := s.slot hd (by simp)
   cases r
   exact ⟨u, e3, q u H Hs (fun _ => 0) M (Zaq g) (stp0 H Hs M) (.sc _ _) s⟩
 . rename_i k ds hd
   injection e with e
   cases e
   obtain ⟨v, m1, m2, e3, r, _⟩ := s.slot hd (by simp)
   cases r with
   | shd n r => exact ⟨_, e3, q _ H Hs (fun _ => 0) M (Zaq g) (stp0 H Hs M) (.shd n r) s⟩
 . rename_i k ds hd
   injection e with e
   cases e
   obtain ⟨v, m1, m2, e3, r, l, f⟩ := s.slot hd (by simp)
   refine ⟨v, e3, ?_⟩
   have g2 : Good H Hs (fun b => m1 b + m2 b) := g.re fun b => by have := l b; omega
   have hsame := ZaP g2 (m := m1) fun b => by omega
   have r2 := Rep.share hsame (Zcf (H := H) (Hs := Hs) (m := m1)) r
   have st := Stp.share g2
   refine q v H (shH H Hs m1) (fun _ => 0) m2 (Zaq g2.share) ⟨fun b o h _ => h, fun b h => ?_, st.grow, fun b h h' => ?_, fun b h => h⟩ r2 ?_
   . have h : (fun _ => 0) b + m2 b = 1 := h
     have := l b
     have := g.le b
     left; simp at h; omega
   . rcases st.shr b h h' with z | z
     . have z : m1 b + m2 b = 1 := z
       have := l b
       have := g.le b
       left; omega
     . exact .inr z
   . have z := f H (shH H Hs m1) (some v) (.node k false (shrL ds)) (fun _ => 0) hsame (fun _ _ _ => rfl) (.inr ⟨v, rfl, r2⟩)
     rw [ZC e3] at z
     exact z.mono fun b => by simp
 . cases e
theorem Zb (h : PE X e (tM X.K c)) : PE X e (tP X.K (c.bnd fun d => M.ret (.tmp d))) := PE.imp h fun σ H Q z0 => by
 obtain ⟨δ, Hs, M, p, δ', g, s, e, q⟩ := z0
 obtain ⟨d, δ1, e1, e2⟩ := Zc e
 have := Zh e2
 cases this
 exact ⟨δ, Hs, M, d, _, g, s, e1, fun v H' Hs' m M' g' st r s' => q v H' Hs' m M' g' st r s'⟩
theorem seq2 {K : Fg} {ca cb : M Op} {σ : St} {H Hs : Hp} {M : Bud} {δ δ1 δ2 : List D} {p q : Op} {R : V -> V -> Hp -> Prop} (g : Good H Hs M) (s : RepS K H Hs σ δ M) (e1 : ca δ = .ok (p, δ1)) (e2 : cb δ1 = .ok (q, δ2))
 (h : ∀ (x y : V) (H2 Hs2 : Hp) (m1 m2 M2 : Bud), Good H2 Hs2 (fun b => (m1 b + m2 b) + M2 b) -> Stp H Hs M H2 Hs2 (fun b => (m1 b + m2 b) + M2 b) -> RepP K H2 Hs2 σ x p m1 -> RepP K H2 Hs2 σ y q m2 -> RepS K H2 Hs2 σ δ2 M2 -> R x y H2) :
 tP K ca σ H fun x H1 => tP K cb σ H1 fun y H2 => R x y H2 := by
 refine ⟨δ, Hs, M, p, δ1, g, s, e1, fun x H1 Hs1 m1 M1 g1 st1 r1 s1 => ⟨δ1, Hs1, M1, q, δ2, g1.re, s1, e2, fun y H2 Hs2 m2 M2 g2 st2 r2 s2 => ?_⟩⟩
 obtain ⟨G, S, k⟩ := Zq g g1 st1 g2 st2
 have le : ∀ b, m1 b + (m2 b + M2 b) <= 1 := G.le
 exact h x y H2 Hs2 m1 m2 M2 G.re (S.drop (fun b => by omega) le) (r1.frame st2.grow k) r2 s2
theorem ZnX {K : Fg} {σ : St} {H Hs : Hp} {m1 m2 M : Bud} {δ δ1 δ2 : List D} {p q : Op} {x y : V} {w1 w2 : W} (g : Good H Hs (fun b => (m1 b + m2 b) + M b)) (s : RepS K H Hs σ δ M) (r1 : RepP K H Hs σ x p m1) (r2 : RepP K H Hs σ y q m2)
 (e1 : view p δ = .ok (w1, δ1)) (e2 : view q δ1 = .ok (w2, δ2)) : ∃ Hs' M', Good H Hs' (fun b => (m1 b + m2 b) + M' b) /\ Stp H Hs (fun b => (m1 b + m2 b) + M b) H Hs' (fun b => (m1 b + m2 b) + M' b) /\ View K H Hs' x w1 m1 /\ View K H Hs' y w2 m2 /\ RepS K H Hs' σ δ2 M' := by
 obtain ⟨Hs1, M1, g1, st1, v1, s1⟩ := ZV (B := fun b => m1 b + m2 b) g s r1 e1
 obtain ⟨Hs2, M2, g2, st2, v2, s2⟩ := ZV (B := fun b => m1 b + m2 b) g1 s1 (r2.frame st1.grow fun _ _ _ => rfl) e2
 refine ⟨Hs2, M2, g2, ?_, v1.frame st2.grow, v2, s2⟩
 have z := Zq (m1 := fun _ => 0) g (g1.re fun b => by simp) (st1.drop (fun b => by simp) g1.le) g2 st2
 exact z.2.1.drop (fun b => by simp) z.1.le
inductive r2W (K : Fg) (f : W -> W -> Option D) (x y : V) (H : Hp) (Q : VK) : Prop
 | mk (Hs : Hp) (w1 w2 : W) (m1 m2 : Bud) (d : D) (h0 : Same Hs H) (h1 : (∀ b, m1 b + m2 b <= 1)) (h2 : (∀ b, m1 b + m2 b = 1 -> H b ≠ none)) (h3 : View K H Hs x w1 m1) (h4 : View K H Hs y w2 m2) (h5 : f w1 w2 = some d) (h6 : Outs K H Hs (fun b => m1 b + m2 b) d Q) : r2W K f x y H Q
theorem op2 (h : tM K (ca.bnd fun p => cb.bnd fun q => (view p).bnd fun x => (view q).bnd fun y => lift (f x y)) σ H Q) : tOp (r2W K f) (tP K ca) (tP K cb) σ H Q := by
 obtain ⟨δ, Hs, M, d, δ', g, s, e, q⟩ := h
 obtain ⟨p, δ1, e1, e⟩ := Zc e
 obtain ⟨p2, δ2, e2, e⟩ := Zc e
 obtain ⟨w1, δ3, e3, e⟩ := Zc e
 obtain ⟨w2, δ4, e4, e⟩ := Zc e
 obtain ⟨e5, rfl⟩ := Z9 e
 refine seq2 g s e1 e2 fun x y H2 Hs2 m1 m2 M2 g2 st2 r1 r2 s2 => ?_
 obtain ⟨Hs3, M3, g3, st3, v1, v2, s3⟩ := ZnX g2 s2 r1 r2 e3 e4
 have z := Zq (m1 := fun _ => 0) g (g2.re fun b => by simp) (st2.drop (fun b => by simp) g2.le) g3 st3
 have st : Stp H Hs M H2 Hs3 (fun b => (m1 b + m2 b) + M3 b) := z.2.1.drop (fun b => by simp) z.1.le
 exact ⟨Hs3, w1, w2, m1, m2, d, g3.sub, fun b => by have : (m1 b + m2 b) + M3 b <= 1 := g3.le b; omega, fun b hb => g3.has b (by have : (m1 b + m2 b) + M3 b <= 1 := g3.le b; show (m1 b + m2 b) + M3 b = 1; omega), v1, v2, e5, Zb5 st g3 s3 q⟩
theorem Zmc (ho : OpR X (binaryOp op) (r2W X.K (binW op))) (ha : PE X a (tP X.K ca)) (hb : PE X b (tP X.K cb)) :
 PE X (.BinOp a op b pos) (tM X.K (ca.bnd fun p => cb.bnd fun q => (view p).bnd fun x => (view q).bnd fun y => lift (binW op x y))) := PE.imp (Zn4 ho ha hb) fun σ H Q h => op2 h
theorem Zfv : ∀ {ds : List D} {vs : List V} {m : Bud} {is : List Int}, RepL K H Hs vs ds m -> ZaI ds = some is -> vs = is.map V.int
 | [], _, _, is, .nil _, h => by simp only [ZaI, Option.some.injEq] at h; subst h; rfl
 | d :: ds, _, _, is, .cons x y _, h => by
  unfold ZaI at h
  split at h
  . rename_i hh; cases hh
  . rename_i i r hh
    injection hh with h1 h2
    subst h1 h2
    (simp only [Option.map_eq_some_iff] at h)
    obtain ⟨js, h, rfl⟩ := h
    cases x
    rw [Zfv y h]
    rfl
  . cases h
theorem Ze3 : ∀ {ds : List D} {us vs : List V} {m : Bud}, RepL K H Hs us ds m -> scals ds = some vs -> us = vs
 | [], _, _, _, .nil _, e => by cases e; rfl
 | .sc v :: ds, _, vs, _, .cons r t _, e => by
  simp only [scals, Option.map_eq_some_iff] at e
  obtain ⟨ws, e, rfl⟩ := e
  cases r
  rw [Ze3 t e]
 | .hole :: _, _, _, _, _, e => by simp [scals] at e
 | .node _ _ _ :: _, _, _, _, _, e => by simp [scals] at e
theorem Zfw : ∀ (l : List V), RepL K H Hs l (l.map D.sc) (fun _ => 0)
 | [] => .nil _
 | _ :: l => .cons (m1 := fun _ => 0) (m2 := fun _ => 0) (.sc _ _) (Zfw l) fun b => by simp
theorem Zje : OpR X (binaryOp .FloorDiv) (rI (fun _ j => 0 < j /\ j < 18446744073709551616) fun i j => .int (i / j)) := opI fun i j _ _ _ _ _ hc q => by
 have h1 : (0 : Int) < j := hc.1
 have h2 : j < 18446744073709551616 := hc.2
 refine PyProof.Rows.floordiv_int (by omega) (by rw [Int.fdiv_eq_ediv_of_nonneg i (by omega)]; exact q) (.inl (PyProof.noPylong_of_log2 ?_))
 by_cases h0 : j.natAbs = 0
 . rw [h0]; decide +kernel
 . have : j.natAbs.log2 < 64 := (Nat.log2_lt h0).mpr (by omega)
   omega
theorem Zmd (op : Operator) : OpR X (binaryOp op) (r2W X.K (binW op)) := by
 intro pins s σ H x y v u Q I rx ry h
 obtain ⟨Hs, w1, w2, m1, m2, d, hs, h1, h2, v1, v2, e, o⟩ := h
 cases op with
 | Add =>
  replace e : addW w1 w2 = some d := e
  unfold addW at e
  split at e
  . cases e; cases v1; cases v2; exact ZlE pins s σ H _ _ v u Q I rx ry ⟨_, _, rfl, rfl, o.sc⟩
  . split at e
    . rename_i hc; cases e; cases v1; cases v2; exact ZgS pins s σ H _ _ v u Q I rx ry ⟨_, _, rfl, rfl, hc, o.sc⟩
    . cases e
  . unfold newL at e
    split at e
    . rename_i hc
      cases e
      cases v1 with
      | nd n1 r1 => cases v2 with
       | nd n2 r2 =>
        have l1 := r1.len
        have l2 := r2.len
        rw [List.length_append] at hc
        exact ZlP pins s σ H _ _ v u Q I rx ry ⟨_, _, _, _, rfl, rfl, n1, n2, by omega, fun p hp => o.new h1 h2 hp (show upd H p _ p = _ from Zl) (r1.app r2)⟩
    . cases e
  . cases e
 | Sub =>
  obtain ⟨i, j, rfl, rfl, e'⟩ := Zcw e
  cases e'; cases v1; cases v2; exact ZlF pins s σ H _ _ v u Q I rx ry ⟨_, _, rfl, rfl, o.sc⟩
 | Mult =>
  replace e : mulW w1 w2 = some d := e
  unfold mulW at e
  split at e
  . split at e
    . rename_i hc; cases e; cases v1; cases v2; exact ZlG pins s σ H _ _ v u Q I rx ry ⟨_, _, rfl, rfl, hc, o.sc⟩
    . cases e
  . split at e
    . rename_i hc
      simp only [Option.map_eq_some_iff] at e
      obtain ⟨is, ei, rfl⟩ := e
      cases v1 with
      | nd n1 r1 =>
       cases v2
       have hl := r1.len
       have ex := Ze3 r1 ei
       subst ex
       refine ZlQ pins s σ H _ _ v u Q I rx ry ⟨_, _, _, rfl, rfl, n1, hc.1, hc.2.1, by rw [hl]; exact hc.2.2, fun p hp => o.new h1 h2 hp (show upd H p _ p = _ from Zl) ?_⟩
       exact (Zfw _).mono fun b => Nat.zero_le _
    . cases e
  . cases e
 | FloorDiv =>
  obtain ⟨i, j, rfl, rfl, e'⟩ := Zcw e
  split at e'
  . rename_i hc; cases e'; cases v1; cases v2; exact Zje pins s σ H _ _ v u Q I rx ry ⟨_, _, rfl, rfl, hc, o.sc⟩
  . cases e'
 | Mod =>
  obtain ⟨i, j, rfl, rfl, e'⟩ := Zcw e
  split at e'
  . rename_i hc; cases e'; cases v1; cases v2; exact ZlH pins s σ H _ _ v u Q I rx ry ⟨_, _, rfl, rfl, hc, o.sc⟩
  . cases e'
 | Pow =>
  obtain ⟨i, j, rfl, rfl, e'⟩ := Zcw e
  split at e'
  . rename_i hc; cases e'; cases v1; cases v2; exact ZlI pins s σ H _ _ v u Q I rx ry ⟨_, _, rfl, rfl, hc, o.sc⟩
  . cases e'
 | _ => cases e
end
end T
namespace T
open PySem PySem.Spec L2
mutual
theorem Rep.den (g : Same Hs H) : ∀ {v : V} {d : D} {m : Bud} {a : PyData}, Rep K H Hs v d m -> py d = some a -> Den K H v a
 | _, _, _, _, .sc .non _, h => by simp only [py, Option.some.injEq] at h; subst h; exact .non
 | _, _, _, _, .sc (.bl b) _, h => by simp only [py, Option.some.injEq] at h; subst h; exact .bl b
 | _, _, _, _, .sc (.int b) _, h => by simp only [py, Option.some.injEq] at h; subst h; exact .int b
 | _, _, _, _, .sc (.str b) _, h => by simp only [py, Option.some.injEq] at h; subst h; exact .str b
 | _, _, _, _, .sc (.byt b) _, h => by simp [py] at h
 | _, _, _, _, .sc (.flt b) _, h => by simp [py] at h
 | _, _, _, _, .sc (.ref b) _, h => by simp [py] at h
 | _, _, _, _, .sc (.ty b) _, h => by simp [py] at h
 | _, _, _, _, .hole v _, h => by simp [py] at h
 | _, _, _, _, .own (k := .lst) n r _, h => by
  simp only [py, Option.map_eq_some_iff] at h
  obtain ⟨x, h, rfl⟩ := h
  exact .lst (.inl (.inl n)) (RepL.den g r h)
 | _, _, _, _, .own (k := .frl) n r _, h => n.elim
 | _, _, _, _, .own (k := .tup) n r _, h => by
  simp only [py, Option.map_eq_some_iff] at h
  obtain ⟨x, h, rfl⟩ := h
  exact .tup (.inl (.inl n)) (RepL.den g r h)
 | _, _, _, _, .own (k := .ftp) n r _, h => n.elim
 | _, _, _, _, .own (k := .dic _) n r _, h => by simp [py] at h
 | _, _, _, _, .own (k := .dpp _) n r _, h => by simp [py] at h
 | _, _, _, _, .own (k := .ins _ _) n r _, h => by simp [py] at h
 | _, _, _, _, .own (k := .exc _ _ _) n r _, h => by simp [py] at h
 | _, _, _, _, .shd (k := .lst) n r, h => by
  simp only [py, Option.map_eq_some_iff] at h
  obtain ⟨x, h, rfl⟩ := h
  exact .lst (.inl (.inl (g _ _ n))) (RepL.den g r h)
 | _, _, _, _, .shd (k := .frl) n r, h => by
  simp only [py, Option.map_eq_some_iff] at h
  obtain ⟨x, h, rfl⟩ := h
  exact .lst (g.seq n) (RepL.den g r h)
 | _, _, _, _, .shd (k := .tup) n r, h => by
  simp only [py, Option.map_eq_some_iff] at h
  obtain ⟨x, h, rfl⟩ := h
  exact .tup (.inl (.inl (g _ _ n))) (RepL.den g r h)
 | _, _, _, _, .shd (k := .ftp) n r, h => by
  simp only [py, Option.map_eq_some_iff] at h
  obtain ⟨x, h, rfl⟩ := h
  exact .tup (.inr n) (RepL.den g r h)
 | _, _, _, _, .shd (k := .dic _) n r, h => by simp [py] at h
 | _, _, _, _, .shd (k := .dpp _) n r, h => by simp [py] at h
 | _, _, _, _, .shd (k := .ins _ _) n r, h => by simp [py] at h
 | _, _, _, _, .shd (k := .exc _ _ _) n r, h => by simp [py] at h
theorem RepL.den (g : Same Hs H) : ∀ {vs : List V} {ds : List D} {m : Bud} {as : List PyData}, RepL K H Hs vs ds m -> pyL ds = some as -> DenL K H vs as
 | _, _, _, _, .nil _, h => by simp only [pyL, Option.some.injEq] at h; subst h; exact .nil
 | _, _, _, _, .cons x y _, h => by
  simp only [pyL, Option.bind_eq_some_iff, Option.map_eq_some_iff] at h
  obtain ⟨a, h1, as, h2, rfl⟩ := h
  exact .cons (Rep.den g x h1) (RepL.den g y h2)
end
theorem View.den (g : Same Hs H) (h : View K H Hs v w m) (e : py (toD w) = some a) : Den K H v a := by
 cases h with
 | sc v m => exact Rep.den g (.sc v m) e
 | @nd ad k vs ds m n r =>
  cases k with
  | lst =>
   simp only [toD, py, Option.map_eq_some_iff] at e
   obtain ⟨x, e, rfl⟩ := e
   exact .lst (.inl (.inl n)) (r.den g e)
  | frl =>
   simp only [toD, py, Option.map_eq_some_iff] at e
   obtain ⟨x, e, rfl⟩ := e
   exact .lst n (r.den g e)
  | tup =>
   simp only [toD, py, Option.map_eq_some_iff] at e
   obtain ⟨x, e, rfl⟩ := e
   exact .tup (.inl (.inl n)) (r.den g e)
  | ftp =>
   simp only [toD, py, Option.map_eq_some_iff] at e
   obtain ⟨x, e, rfl⟩ := e
   exact .tup (.inr n) (r.den g e)
  | dic ks => simp [toD, py] at e
  | dpp ks => simp [toD, py] at e
  | ins C fs => simp [toD, py] at e
  | exc ns fr fs => simp [toD, py] at e
section
variable {X : Cx} {e a b c : Expr} {es rest : List Expr} {pos : Pos}
theorem Zk9 {a b : PyData} {t : Bool} (h : eqPy a b = some t) : SeqAt.shaped a = true /\ SeqAt.shaped b = true /\ PyData.eqv a b = t := by
 unfold eqPy at h
 split at h
 . rename_i q
   exact ⟨q.1, q.2, Option.some.inj h⟩
 . cases h
theorem Zic {K : Fg} {H Hs : Hp} (g : Same Hs H) {x y : V} {w1 w2 : W} {m1 m2 : Bud} {t : Bool} (v1 : View K H Hs x w1 m1) (v2 : View K H Hs y w2 m2) (h : eqW w1 w2 = some t) :
 (scal x y = true /\ decide (x = y) = t) \/ ∃ d e, Den K H x d /\ Den K H y e /\ SeqAt.shaped d = true /\ SeqAt.shaped e = true /\ PyData.eqv d e = t := by
 have go : ((py (toD w1)).bind fun a => (py (toD w2)).bind fun b => eqPy a b) = some t -> ∃ d e, Den K H x d /\ Den K H y e /\ SeqAt.shaped d = true /\ SeqAt.shaped e = true /\ PyData.eqv d e = t := fun q => by
  simp only [Option.bind_eq_some_iff] at q
  obtain ⟨d, q1, e, q2, q3⟩ := q
  obtain ⟨s1, s2, s3⟩ := Zk9 q3
  exact ⟨d, e, v1.den g q1, v2.den g q2, s1, s2, s3⟩
 cases v1 with
 | sc u _ => cases v2 with
  | sc v _ =>
   have h : (if scal x y = true then some (decide (x = y)) else (py (.sc x)).bind fun a => (py (.sc y)).bind fun b => eqPy a b) = some t := h
   by_cases q : scal x y = true
   . rw [if_pos q] at h
     exact .inl ⟨q, Option.some.inj h⟩
   . rw [if_neg q] at h
     exact .inr (go h)
  | nd n r => exact .inr (go h)
 | nd n r => exact .inr (go h)
theorem Zjf {c : M D} {δ : List D} {r : Bool × List D} (h : ZbS c δ = .ok r) : c δ = .ok (.sc (.bl r.1), r.2) := by
 obtain ⟨d, δ1, e1, e2⟩ := Zc h
 obtain ⟨b, δ2⟩ := r
 obtain ⟨e3, rfl⟩ := Z9 e2
 cases d with
 | sc v => cases v with
  | bl t => cases e3; exact e1
  | _ => cases e3
 | _ => cases e3
theorem Zg3 {c : M D} {σ : St} {H : Hp} {Q : Bool -> Hp -> Prop} {K : Fg} (h : tT K (ZbS c) σ H Q) : tM K c σ H fun x H' => ∃ k, x = .bl k /\ Q k H' := by
 obtain ⟨δ, Hs, M, b, δ', g, s, e, q⟩ := h
 refine ⟨δ, Hs, M, .sc (.bl b), δ', g, s, Zjf e, fun v H' Hs' m M' g' st r s' => ?_⟩
 cases r
 exact ⟨b, rfl, q H' Hs' M' g'.re (st.drop (fun b => by omega) g'.le) s'⟩
theorem op1 {K : Fg} {ca : M Op} {f : W -> Option D} {σ : St} {H : Hp} {Q : VK} {r : V -> Hp -> VK -> Prop} (h : tM K ((ca.bnd view).bnd fun x => lift (f x)) σ H Q)
 (hr : ∀ (x : V) (H Hs : Hp) (w : W) (m : Bud) (d : D), Same Hs H -> (∀ b, m b <= 1) -> (∀ b, m b = 1 -> H b ≠ none) -> View K H Hs x w m -> f w = some d -> Outs K H Hs m d Q -> r x H Q) : tUn r (tP K ca) σ H Q := by
 obtain ⟨δ, Hs, M, d, δ', g, s, e, q⟩ := h
 obtain ⟨w, δ2, e, e5⟩ := Zc e
 obtain ⟨p, δ1, e1, e3⟩ := Zc e
 obtain ⟨e6, rfl⟩ := Z9 e5
 refine ⟨δ, Hs, M, p, δ1, g, s, e1, fun x H2 Hs2 m1 M2 g2 st2 r1 s2 => ?_⟩
 obtain ⟨Hs3, M3, g3, st3, v1, s3⟩ := ZV (B := m1) g2 s2 r1 e3
 have z := Zq (m1 := fun _ => 0) g (g2.re fun b => by simp) (st2.drop (fun b => by simp) g2.le) g3 st3
 have st : Stp H Hs M H2 Hs3 (fun b => m1 b + M3 b) := z.2.1.drop (fun b => by simp) z.1.le
 exact hr x H2 Hs3 w m1 d g3.sub (fun b => by have : m1 b + M3 b <= 1 := g3.le b; omega) (fun b hb => g3.has b (by have : m1 b + M3 b <= 1 := g3.le b; show m1 b + M3 b = 1; omega)) v1 e6 (Zb5 st g3 s3 q)
theorem Zme (h : View K H Hs v w m) (e : truW w = some t) : TruV K v H t := by
 cases h with
 | sc v m =>
  cases v with
  | bl b => cases e; rfl
  | int i => cases e; show decide (i ≠ 0) = (i != 0); rw [Bool.eq_iff_iff]; simp
  | str x =>
   have e : (if x.length <= sizeLine then some (decide (x.length ≠ 0)) else none) = some t := e
   split at e
   . rename_i q
     cases e
     exact ⟨q, by rw [Bool.eq_iff_iff]; simp⟩
   . cases e
  | non => cases e; rfl
  | _ => cases e
 | @nd a k vs ds m n r =>
  have l : (!vs.isEmpty) = !ds.isEmpty := by
   have := r.len
   cases vs <;> cases ds <;> simp at this ⊢
  cases k with
  | lst => cases e; exact .inl ⟨vs, .inl (.inl n), by rw [l]⟩
  | frl => cases e; exact .inl ⟨vs, n, by rw [l]⟩
  | tup => cases e; exact .inr (.inl ⟨vs, .inl (.inl n), by rw [l]⟩)
  | ftp => cases e; exact .inr (.inl ⟨vs, .inr n, by rw [l]⟩)
  | dpp ks => cases e
  | dic ks =>
   cases e
   obtain ⟨hl, n⟩ := n
   refine .inr (.inr ⟨_, n, ?_⟩)
   rw [<- l]
   cases ks <;> cases vs <;> simp at hl ⊢
  | ins C fs => cases e
  | exc ns fr fs => cases e
theorem ZaJ (ha : PE X e (tP X.K ca)) (he : ∀ whole, isTrue e X.env whole = (do let v <- whole; standAt e.pos; holding [v] (truthy v)) := by intro _; rfl) :
 PT X e (tT X.K (ca.bnd fun p => (view p).bnd fun w => lift (truW w))) := PT.imp (ZiJ ha he) fun σ H Q h => by
 obtain ⟨δ, Hs, M, t, δ', g, s, e, q⟩ := h
 obtain ⟨p, δ1, e1, e⟩ := Zc e
 obtain ⟨w, δ2, e3, e5⟩ := Zc e
 obtain ⟨e6, rfl⟩ := Z9 e5
 refine ⟨δ, Hs, M, p, δ1, g, s, e1, fun x H2 Hs2 m1 M2 g2 st2 r1 s2 => ?_⟩
 obtain ⟨Hs3, M3, g3, st3, v1, s3⟩ := ZV (B := m1) g2 s2 r1 e3
 have z := Zq (m1 := fun _ => 0) g (g2.re fun b => by simp) (st2.drop (fun b => by simp) g2.le) g3 st3
 exact ⟨t, Zme v1 e6, q H2 Hs3 M3 g3.re (z.2.1.drop (fun b => by simp) z.1.le) s3⟩
end
end T
namespace T
open PySem PySem.Spec L2
section
variable {X : Cx} {e a b c : Expr} {es rest : List Expr} {pos : Pos}
theorem PW.imp (h : PW X e t) (w : ∀ σ H Q, t' σ H Q -> t σ H Q) : PW X e t' := fun wh pins s σ H Q I q => h wh pins s σ H Q I (w σ H Q q)
theorem Zfx (h : tT K (ca.bnd f) σ H Q) : tT K ca σ H fun t H1 => tT K (f t) σ H1 Q := by
 obtain ⟨δ, Hs, M, b, δ', g, s, e, q⟩ := h
 obtain ⟨t, δ1, e1, e2⟩ := Zc e
 refine ⟨δ, Hs, M, t, δ1, g, s, e1, fun H1 Hs1 M1 g1 st1 s1 => ⟨δ1, Hs1, M1, b, δ', g1, s1, e2, fun H2 Hs2 M2 g2 st2 s2 => ?_⟩⟩
 have z := Zq (m1 := fun _ => 0) g (g1.re fun b => by simp) (st1.drop (fun b => by simp) g1.le) g2 st2
 exact q H2 Hs2 M2 g2 (z.2.1.drop (fun b => by simp) z.1.le) s2
theorem ZdL (h : tT K (M.ret t) σ H Q) : Q t H := by
 obtain ⟨δ, Hs, M, b, δ', g, s, e, q⟩ := h
 have := Zh e
 cases this
 exact q H Hs M g (Stp.refl _ _ _) s
theorem Zmf (h : tM K (ca.bnd f) σ H Q) : tT K ca σ H fun t H1 => tM K (f t) σ H1 Q := by
 obtain ⟨δ, Hs, M, b, δ', g, s, e, q⟩ := h
 obtain ⟨t, δ1, e1, e2⟩ := Zc e
 refine ⟨δ, Hs, M, t, δ1, g, s, e1, fun H1 Hs1 M1 g1 st1 s1 => ⟨δ1, Hs1, M1, b, δ', g1, s1, e2, fun v H2 Hs2 m2 M2 g2 st2 r2 s2 => ?_⟩⟩
 have z := Zq (m1 := fun _ => 0) g (g1.re fun b => by simp) (st1.drop (fun b => by simp) g1.le) g2 st2
 exact q v H2 Hs2 m2 M2 g2 (z.2.1.drop (fun b => by simp) z.1.le) r2 s2
theorem ZkA (ha : PT X a (tT X.K ca)) : PW X (.BoolOp .And [a] pos) (tT X.K ca) := Zkg ha
theorem ZaZ (ha : PT X a (tT X.K ca)) : PW X (.BoolOp .Or [a] pos) (tT X.K ca) := Zl5 ha
theorem ZkB (ha : PT X a (tT X.K ca)) (hb : PW X (.BoolOp .And (b :: rest) pos) (tT X.K cb)) : PW X (.BoolOp .And (a :: b :: rest) pos) (tT X.K (ca.bnd fun t => if t then cb else M.ret false)) :=
 PW.imp (Zl6 ha hb) fun σ H Q h => by
  obtain ⟨δ, Hs, M, t, δ', g, s, e, q⟩ := Zfx h
  refine ⟨δ, Hs, M, t, δ', g, s, e, fun H' Hs' M' g' st s' => ?_⟩
  have z := q H' Hs' M' g' st s'
  cases t with
  | true => exact z
  | false => exact ZdL z
theorem ZaK (ha : PT X a (tT X.K ca)) (hb : PW X (.BoolOp .Or (b :: rest) pos) (tT X.K cb)) : PW X (.BoolOp .Or (a :: b :: rest) pos) (tT X.K (ca.bnd fun t => if t then M.ret true else cb)) :=
 PW.imp (Znw ha hb) fun σ H Q h => by
  obtain ⟨δ, Hs, M, t, δ', g, s, e, q⟩ := Zfx h
  refine ⟨δ, Hs, M, t, δ', g, s, e, fun H' Hs' M' g' st s' => ?_⟩
  have z := q H' Hs' M' g' st s'
  cases t with
  | false => exact z
  | true => exact ZdL z
theorem ZaT (ha : PT X a (tT X.K ca)) : PT X (.UnaryOp .Not a pos) (tT X.K (ca.bnd fun t => M.ret (!t))) :=
 PT.imp (Zl7 ha) fun σ H Q h => by
  obtain ⟨δ, Hs, M, t, δ', g, s, e, q⟩ := Zfx h
  exact ⟨δ, Hs, M, t, δ', g, s, e, fun H' Hs' M' g' st s' => ZdL (q H' Hs' M' g' st s')⟩
theorem Zmg (hc : PT X c (tT X.K ct)) (ha : PE X a (tM X.K ca)) (hb : PE X b (tM X.K cb)) : PE X (.IfExp c a b pos) (tM X.K (ct.bnd fun t => if t then ca else cb)) :=
 PE.imp (ZiF hc ha hb) fun σ H Q h => by
  obtain ⟨δ, Hs, M, t, δ', g, s, e, q⟩ := Zmf h
  refine ⟨δ, Hs, M, t, δ', g, s, e, fun H' Hs' M' g' st s' => ?_⟩
  have z := q H' Hs' M' g' st s'
  cases t with
  | true => exact z
  | false => exact z
theorem Zmh (h : tM K ((ca.bnd view).bnd f) σ H Q) : tP K ca σ H fun x H1 => ∃ (Hs : Hp) (w : W) (m : Bud), View K H1 Hs x w m /\ tM K (f w) σ H1 Q := by
 obtain ⟨δ, Hs, M, d, δ', g, s, e, q⟩ := h
 obtain ⟨w, δ2, e, e5⟩ := Zc e
 obtain ⟨p, δ1, e1, e3⟩ := Zc e
 refine ⟨δ, Hs, M, p, δ1, g, s, e1, fun x H2 Hs2 m1 M2 g2 st2 r1 s2 => ?_⟩
 obtain ⟨Hs3, M3, g3, st3, v1, s3⟩ := ZV (B := m1) g2 s2 r1 e3
 refine ⟨Hs3, w, m1, v1, δ2, Hs3, M3, d, δ', g3.re, s3, e5, fun v H4 Hs4 m4 M4 g4 st4 r4 s4 => ?_⟩
 have z := Zq (m1 := fun _ => 0) g (g2.re fun b => by simp) (st2.drop (fun b => by simp) g2.le) g3 st3
 have st : Stp H Hs M H2 Hs3 (fun b => m1 b + M3 b) := z.2.1.drop (fun b => by simp) z.1.le
 have z := Zq (m1 := m1) (M1 := M3) g g3 st g4 st4
 exact q v H4 Hs4 m4 M4 g4 (z.2.1.drop (fun b => by omega) z.1.le) r4 s4
theorem Zmi (h : tM K (M.ret (.sc v)) σ H Q) : Q v H := by
 obtain ⟨δ, Hs, M, b, δ', g, s, e, q⟩ := h
 have := Zh e
 cases this
 exact q v H Hs (fun _ => 0) M (Zaq g) (stp0 _ _ _) (.sc v _) s
theorem Zid (h : tM K stk σ H Q) : False := by
 obtain ⟨δ, Hs, M, b, δ', g, s, e, q⟩ := h
 cases e
theorem Zie {op} (ha : PE X a (tM X.K ca)) : PE X (.BoolOp op [a] pos) (tM X.K ca) := Zl8 ha
theorem Zif (ha : PE X a (tP X.K ca)) (hb : PE X (.BoolOp .Or (b :: rest) pos) (tM X.K cb)) : PE X (.BoolOp .Or (a :: b :: rest) pos) (tM X.K ((ca.bnd view).bnd (orM cb))) :=
 PE.imp (Znx ha hb) fun σ H Q h => by
  obtain ⟨δ, Hs, M, t, δ', g, s, e, q⟩ := Zmh h
  refine ⟨δ, Hs, M, t, δ', g, s, e, fun v H' Hs' m M' g' st r s' => ?_⟩
  obtain ⟨Hs2, w, m2, v2, z⟩ := q v H' Hs' m M' g' st r s'
  cases v2 with
  | sc u _ => cases v with
   | bl t => cases t with
    | false => exact ⟨false, rfl, z⟩
    | true => exact ⟨true, rfl, Zmi z⟩
   | _ => exact (Zid z).elim
  | nd n r => exact (Zid z).elim
theorem RepL.at {K : Fg} {H Hs : Hp} {vs : List V} {ds : List D} {m : Bud} {j : Nat} {d : D} (r : RepL K H Hs vs ds m) (e : ds[j]? = some d) : ∃ (v : V) (m1 : Bud), vs[j]? = some v /\ Rep K H Hs v d m1 /\ ∀ b, m1 b <= m b := r.sep.get e
theorem Outs.part (h : Outs K H Hs m d Q) (hm : ∀ b, m b <= 1) (hh : ∀ b, m b = 1 -> H b ≠ none) (l : ∀ b, m1 b <= m b) (r : Rep K H Hs v d m1) : Q v H :=
 h v H m1 (Same.refl _) (fun b => Nat.le_trans (l b) (hm b)) (fun b e => hh b (by have := l b; have := hm b; omega)) (fun b _ => l b) r
theorem Zig (n : Nat) (i : Int) : ixN' n i = ixN n i := rfl
theorem ZnY : IxR X (r2W X.K ixW) := by
 intro value slice pins s σ H x y v u Q I rx ry h hsl
 obtain ⟨Hs, w1, w2, m1, m2, d, hs, h1, h2, v1, v2, e, o⟩ := h
 have fin : ∀ {ds : List D} {vs : List V} {i : Int}, RepL X.K H Hs vs ds m1 -> ((ixN' ds.length i).bind fun j => ds[j]?) = some d -> ∃ z, atI vs i = some z /\ Q z H := fun {ds vs i} r e => by
  simp only [Option.bind_eq_some_iff] at e
  obtain ⟨j, e1, e2⟩ := e
  obtain ⟨z, m3, e3, rz, l⟩ := r.at e2
  refine ⟨z, ?_, o.part h1 h2 (fun b => by have := l b; omega) rz⟩
  unfold atI
  rw [r.len, <- Zig, e1]
  exact e3
 unfold ixW at e
 split at e
 . cases v1 with
   | nd n r => cases v2; obtain ⟨z, e1, q⟩ := fin r e; exact Zee value slice pins s σ H _ _ v u Q I rx ry ⟨_, _, _, z, rfl, rfl, .inl (.inl n), e1, q⟩ hsl
 . cases v1 with
   | nd n r => cases v2; obtain ⟨z, e1, q⟩ := fin r e; exact Zee value slice pins s σ H _ _ v u Q I rx ry ⟨_, _, _, z, rfl, rfl, n, e1, q⟩ hsl
 . cases v1 with
   | nd n r => cases v2; obtain ⟨z, e1, q⟩ := fin r e; exact ZhQ value slice pins s σ H _ _ v u Q I rx ry ⟨_, _, _, z, rfl, rfl, .inl (.inl n), e1, q⟩ hsl
 . cases v1 with
   | nd n r => cases v2; obtain ⟨z, e1, q⟩ := fin r e; exact ZhQ value slice pins s σ H _ _ v u Q I rx ry ⟨_, _, _, z, rfl, rfl, .inr n, e1, q⟩ hsl
 . split at e
   . rename_i z i hz
     cases v1; cases v2
     simp only [Option.map_eq_some_iff] at e
     obtain ⟨c, e, rfl⟩ := e
     exact Zfk value slice pins s σ H _ _ v u Q I rx ry ⟨_, _, c, rfl, rfl, hz, e, o.sc⟩ hsl
   . cases e
 . cases e
end
end T
namespace T
open PySem PySem.Spec L2
section
variable {X : Cx} {e a b c : Expr} {es rest : List Expr} {pos : Pos}
theorem tG.mono {α : Type} {K : Fg} {c : M α} {R : Hp -> Hp -> St -> α -> V -> Bud -> Prop} {σ : St} {H : Hp} {Q Q' : VK} (h : tG K c R σ H Q) (w : ∀ v H', Q v H' -> Q' v H') : tG K c R σ H Q' := by
 obtain ⟨δ, Hs, M, a, δ', g, s, e, q⟩ := h
 exact ⟨δ, Hs, M, a, δ', g, s, e, fun v H' Hs' m M' g' st r s' => w v H' (q v H' Hs' m M' g' st r s')⟩
theorem RepL.take (r : RepL K H Hs vs ds m) (n : Nat) : RepL K H Hs (vs.take n) (ds.take n) m := (r.sep.take n).repL
theorem RepL.drop (r : RepL K H Hs vs ds m) (n : Nat) : RepL K H Hs (vs.drop n) (ds.drop n) m := (r.sep.drop n).repL
def rSlW (K : Fg) : V -> Option Int -> Option Int -> Hp -> VK -> Prop := fun x lo hi H Q => ∃ (Hs : Hp) (w : W) (m : Bud) (d : D), Same Hs H /\ (∀ b, m b <= 1) /\ (∀ b, m b = 1 -> H b ≠ none) /\ View K H Hs x w m /\ slD w lo hi = some d /\ Outs K H Hs m d Q
theorem ZnZ : SlR X (rSlW X.K) := by
 intro pins s σ H x v vl vu lo hi sl Q I rx hsl pl pu h
 obtain ⟨Hs, w, m, d, hs, h1, h2, v1, e, o⟩ := h
 have go : ∀ {a : Addr} {vs : List V} {ds : List D}, RepL X.K H Hs vs ds m -> d = .node .lst true (cutD ds lo hi) -> ∀ p, H p = none -> Q (.ref p) (upd H p (.lst (cutV vs lo hi))) := fun {a vs ds} r e p hp => by
  subst e
  refine o.new h1 h2 hp (vs := cutV vs lo hi) Zl ?_
  unfold cutV cutD
  rw [r.len]
  exact (r.drop _).take _
 unfold slD at e
 split at e
 . cases v1 with
   | nd n r => exact Zgz pins s σ H _ v vl vu lo hi sl Q I rx hsl pl pu ⟨_, _, rfl, .inl (.inl n), go (a := 0) r (Option.some.inj e).symm⟩
 . cases v1 with
   | nd n r => exact Zgz pins s σ H _ v vl vu lo hi sl Q I rx hsl pl pu ⟨_, _, rfl, n, go (a := 0) r (Option.some.inj e).symm⟩
 . split at e
   . rename_i hz
     cases e
     cases v1
     exact ZlU pins s σ H _ v vl vu lo hi sl Q I rx hsl pl pu ⟨_, rfl, hz, o.sc⟩
   . cases e
 . cases e
inductive tW (K : Fg) (c : M (Option Int)) (σ : St) (H : Hp) (Q : Option Int -> Hp -> Prop) : Prop
 | mk (δ : List D) (Hs : Hp) (M : Bud) (l : Option Int) (δ' : List D) (h0 : Good H Hs M) (h1 : RepS K H Hs σ δ M) (h2 : c δ = .ok (l, δ')) (h3 : ∀ (H' Hs' : Hp) (M' : Bud), Good H' Hs' M' -> Stp H Hs M H' Hs' M' -> RepS K H' Hs' σ δ' M' -> Q l H') : tW K c σ H Q
theorem PO.imp (h : PO X o t) (w : ∀ σ H Q, t' σ H Q -> t σ H Q) : PO X o t' := fun pins s σ H Q I q => h pins s σ H Q I (w σ H Q q)
theorem Zoa : PO X none (tW X.K (M.ret none)) := PO.imp Zku fun σ H Q h => by
 obtain ⟨δ, Hs, M, b, δ', g, s, e, q⟩ := h
 have := Zh e
 cases this
 exact q H Hs M g (Stp.refl _ _ _) s
theorem Zeg (ha : PE X a (tP X.K ca)) : PO X (some a) (tW X.K ((ca.bnd view).bnd fun w => lift (intP w))) := PO.imp (Zkv ha) fun σ H Q h => by
 obtain ⟨δ, Hs, M, l, δ', g, s, e, q⟩ := h
 obtain ⟨w, δ2, e, e5⟩ := Zc e
 obtain ⟨p, δ1, e1, e3⟩ := Zc e
 obtain ⟨e6, rfl⟩ := Z9 e5
 refine ⟨δ, Hs, M, p, δ1, g, s, e1, fun x H2 Hs2 m1 M2 g2 st2 r1 s2 => ?_⟩
 obtain ⟨Hs3, M3, g3, st3, v1, s3⟩ := ZV (B := m1) g2 s2 r1 e3
 have z := Zq (m1 := fun _ => 0) g (g2.re fun b => by simp) (st2.drop (fun b => by simp) g2.le) g3 st3
 have fin := q H2 Hs3 M3 g3.re (z.2.1.drop (fun b => by simp) z.1.le) s3
 cases v1 with
 | sc u _ => cases x with
  | int i => cases e6; exact ⟨i, rfl, fin⟩
  | _ => cases e6
 | nd n r => cases e6
variable {lo hi : Option Expr} {ca : M Op} {cl ch : M (Option Int)} {p2 : Pos}
theorem ZjN (ha : PE X a (tP X.K ca)) (hl : PO X lo (tW X.K cl)) (hh : PO X hi (tW X.K ch)) :
 PE X (.Subscript a (.Slice lo hi none p2) pos) (tM X.K (ca.bnd fun p => cl.bnd fun l => ch.bnd fun h => (view p).bnd fun x => lift (slD x l h))) :=
 PE.imp (ZiO ZnZ ha hl hh) fun σ H Q h => by
  obtain ⟨δ, Hs, M, d, δ', g, s, e, q⟩ := h
  obtain ⟨p, δ1, e1, e⟩ := Zc e
  obtain ⟨l, δ2, e2, e⟩ := Zc e
  obtain ⟨u, δ3, e3, e⟩ := Zc e
  obtain ⟨w, δ4, e4, e⟩ := Zc e
  obtain ⟨e7, rfl⟩ := Z9 e
  refine ⟨δ, Hs, M, p, δ1, g, s, e1, fun x H1 Hs1 m1 M1 g1 st1 r1 s1 => ⟨δ1, Hs1, M1, l, δ2, g1.re, s1, e2, fun H2 Hs2 M2 g2 st2 s2 => ⟨δ2, Hs2, M2, u, δ3, g2, s2, e3, fun H3 Hs3 M3 g3 st3 s3 => ?_⟩⟩⟩
  obtain ⟨G2, S2, k2⟩ := Zq g g1 st1 g2 st2
  obtain ⟨G3, S3, k3⟩ := Zq g G2 S2 g3 st3
  have r2 := RepP.frame st2.grow k2 r1
  have r3 := RepP.frame st3.grow (fun b hb hn => k3 b hb hn) r2
  obtain ⟨Hs4, M4, g4, st4, v4, s4⟩ := ZV (B := m1) G3 s3 r3 e4
  have z := Zq (m1 := fun _ => 0) g (G3.re fun b => by simp) (S3.drop (fun b => by simp) G3.le) g4 st4
  have S4 : Stp H Hs M H3 Hs4 (fun b => m1 b + M4 b) := z.2.1.drop (fun b => by simp) z.1.le
  have le : ∀ b, m1 b + M4 b <= 1 := g4.le
  exact ⟨Hs4, w, m1, d, g4.sub, fun b => by have := le b; omega, fun b hb => g4.has b (by have := le b; show m1 b + M4 b = 1; omega), v4, e7, Zb5 S4 g4 s4 q⟩
theorem Zg4 : ∀ {fs : List Str} {vs : List V} {ds : List D} {m : Bud} {d : D}, RepL K H Hs vs ds m -> fs.length = vs.length -> ZbQ f fs ds = some d -> ∃ (v : V) (m1 : Bud), (fs.zip vs).lookup f = some v /\ Rep K H Hs v d m1 /\ ∀ b, m1 b <= m b
 | [], _, _, _, _, _, _, h => by simp [ZbQ] at h
 | _ :: _, _, _, _, _, .nil _, hl, h => by simp at hl
 | g :: fs, v :: vs, d' :: ds, m, d, .cons (m1 := m1) (m2 := m2) x y c, hl, h => by
  simp only [ZbQ] at h
  by_cases e : g = f
  . rw [if_pos e] at h
    cases h
    refine ⟨v, m1, ?_, x, fun b => by have := c b; omega⟩
    subst e
    simp [List.lookup]
  . rw [if_neg e] at h
    obtain ⟨v', m', h1, h2, h3⟩ := Zg4 y (by simpa using hl) h
    refine ⟨v', m', ?_, h2, fun b => by have := c b; have := h3 b; omega⟩
    rw [List.zip_cons_cons]
    have hb : (f == g) = false := beq_eq_false_iff_ne.mpr (fun q => e q.symm)
    simp only [List.lookup, hb]
    exact h1
theorem ZdM (hf : ∀ C f, ok C f = true -> Cls X.K C /\ Zad X.K C f) (ha : PE X a (tP X.K ca)) (hb : attributeBase a f X.env (eval a X.env) = eval a X.env := by rfl) :
 PE X (.Attribute a f pos) (tM X.K ((ca.bnd view).bnd fun x => lift (fldW ok f x))) :=
 PE.imp (ZlK ha hb) fun σ H Q h => op1 (r := fun x H1 Q => ∃ a C dx fs v, x = .ref a /\ H1 a = some (.ins C dx fs) /\ Cls X.K C /\ Zad X.K C f /\ fs.lookup f = some v /\ Q v H1) h fun x H Hs w m d g h1 h2 v e o => by
  unfold fldW at e
  split at e
  . split at e
    . rename_i C fs ds hok
      cases v with
      | nd n r =>
       obtain ⟨hl, dx, n⟩ := n
       obtain ⟨z, m1, e1, rz, l⟩ := Zg4 r hl e
       exact ⟨_, C, dx, _, z, rfl, n, (hf C f hok).1, (hf C f hok).2, e1, o.part h1 h2 l rz⟩
    . cases e
  . cases e
theorem Zi : PA X [] (tPs X.K (M.ret [])) := PA.imp Zcb fun σ H Q h => by
 obtain ⟨δ, Hs, M, b, δ', g, s, e, q⟩ := h
 have := Zh e
 cases this
 exact q [] H Hs (fun _ => 0) M (Zaq g) (stp0 _ _ _) trivial s
theorem Ze (ha : PE X e (tP X.K ca)) (hr : PA X es (tPs X.K cs)) (hs : starEach (e :: es) X.env = (false, eval e X.env) :: starEach es X.env := by rfl) :
 PA X (e :: es) (tPs X.K (ca.bnd fun p => cs.bnd fun ps => M.ret (p :: ps))) := PA.imp (ZaR ha hr hs) fun σ H Q h => by
 obtain ⟨δ, Hs, M, b, δ', g, s, e, q⟩ := h
 obtain ⟨p, δ1, e1, e⟩ := Zc e
 obtain ⟨ps, δ2, e2, e⟩ := Zc e
 have := Zh e
 cases this
 refine ⟨δ, Hs, M, p, δ1, g, s, e1, fun x H1 Hs1 m1 M1 g1 st1 r1 s1 => ⟨δ1, Hs1, M1, ps, _, g1.re, s1, e2, fun xs H2 Hs2 m2 M2 g2 st2 r2 s2 => ?_⟩⟩
 obtain ⟨G2, S2, k2⟩ := Zq g g1 st1 g2 st2
 exact q (x :: xs) H2 Hs2 (fun b => m1 b + m2 b) M2 (G2.re fun b => by omega) (S2.drop (fun b => by omega) G2.le) ⟨m1, m2, r1.frame st2.grow k2, r2, fun b => Nat.le_refl _⟩ s2
theorem Zk : PA X [] (tDs X.K (M.ret [])) := PA.imp Zcb fun σ H Q h => by
 obtain ⟨δ, Hs, M, b, δ', g, s, e, q⟩ := h
 have := Zh e
 cases this
 exact q [] H Hs (fun _ => 0) M (Zaq g) (stp0 _ _ _) (.nil _) s
theorem Zf {c : M D} {cs : M (List D)} (ha : PE X e (tM X.K c)) (hr : PA X es (tDs X.K cs)) (hs : starEach (e :: es) X.env = (false, eval e X.env) :: starEach es X.env := by rfl) :
 PA X (e :: es) (tDs X.K (c.bnd fun p => cs.bnd fun ps => M.ret (p :: ps))) := PA.imp (ZaR ha hr hs) fun σ H Q h => by
 obtain ⟨δ, Hs, M, b, δ', g, s, e, q⟩ := h
 obtain ⟨p, δ1, e1, e⟩ := Zc e
 obtain ⟨ps, δ2, e2, e⟩ := Zc e
 have := Zh e
 cases this
 refine ⟨δ, Hs, M, p, δ1, g, s, e1, fun x H1 Hs1 m1 M1 g1 st1 r1 s1 => ⟨δ1, Hs1, M1, ps, _, g1.re, s1, e2, fun xs H2 Hs2 m2 M2 g2 st2 r2 s2 => ?_⟩⟩
 obtain ⟨G2, S2, k2⟩ := Zq g g1 st1 g2 st2
 exact q (x :: xs) H2 Hs2 (fun b => m1 b + m2 b) M2 (G2.re fun b => by omega) (S2.drop (fun b => by omega) G2.le) (.cons (r1.frame st2.grow k2) r2 fun b => Nat.le_refl _) s2
theorem Zg5 {K : Fg} {cs : M (List D)} {f : List D -> Option D} {σ : St} {H : Hp} {Q : VK} (h : tM K (cs.bnd fun ds => lift (f ds)) σ H Q) : tDs K cs σ H fun vs H1 => ∃ (Hs : Hp) (m : Bud) (ds : List D) (d : D), (∀ b, m b <= 1) /\ (∀ b, m b = 1 -> H1 b ≠ none) /\ RepL K H1 Hs vs ds m /\ f ds = some d /\ Outs K H1 Hs m d Q := by
 obtain ⟨δ, Hs, M, b, δ', g, s, e, q⟩ := h
 obtain ⟨ds, δ1, e1, e⟩ := Zc e
 obtain ⟨e2, rfl⟩ := Z9 e
 refine ⟨δ, Hs, M, ds, _, g, s, e1, fun vs H1 Hs1 m1 M1 g1 st1 r1 s1 => ⟨Hs1, m1, ds, b, fun b => by have : m1 b + M1 b <= 1 := g1.le b; omega, fun b hb => g1.has b (by have : m1 b + M1 b <= 1 := g1.le b; show m1 b + M1 b = 1; omega), r1, e2, Zb5 st1 g1 s1 q⟩⟩
theorem ZS (h : PA X es (tDs X.K cs)) : PE X (.List es pos) (tM X.K (cs.bnd fun ds => lift (newL ds))) := PE.imp (ZhN h) fun σ H Q hq => by
 obtain ⟨δ, Hs, M, ds, δ', g, s, e, q⟩ := Zg5 hq
 refine ⟨δ, Hs, M, ds, δ', g, s, e, fun vs H1 Hs1 m1 M1 g1 st1 r1 s1 => ?_⟩
 obtain ⟨Hs2, m, ds, d, h1, h2, r, e, o⟩ := q vs H1 Hs1 m1 M1 g1 st1 r1 s1
 unfold newL at e
 split at e
 . rename_i hl
   cases e
   exact ⟨by rw [r.len]; exact hl, fun p hp => o.new h1 h2 hp (vs := vs) Zl r⟩
 . cases e
theorem Zt (h : PA X es (tDs X.K cs)) : PE X (.Tuple es k pos) (tM X.K (cs.bnd fun ds => lift (newT ds))) := PE.imp (ZlM h) fun σ H Q hq => by
 obtain ⟨δ, Hs, M, ds, δ', g, s, e, q⟩ := Zg5 hq
 refine ⟨δ, Hs, M, ds, δ', g, s, e, fun vs H1 Hs1 m1 M1 g1 st1 r1 s1 => ?_⟩
 obtain ⟨Hs2, m, ds, d, h1, h2, r, e, o⟩ := q vs H1 Hs1 m1 M1 g1 st1 r1 s1
 unfold newT at e
 split at e
 . rename_i hl
   cases e
   exact ⟨by rw [r.len]; exact hl, fun p hp => o.new h1 h2 hp (vs := vs) Zl r⟩
 . cases e
end
end T
namespace T
open PySem PySem.Spec L2
def Views (K : Fg) (H Hs : Hp) : List V -> List W -> Bud -> Prop
 | [], [], _ => True
 | v :: vs, w :: ws, m => ∃ m1 m2 : Bud, View K H Hs v w m1 /\ Views K H Hs vs ws m2 /\ ∀ b, m1 b + m2 b <= m b
 | _, _, _ => False
theorem Zd5 {K : Fg} {H : Hp} {σ : St} {B : Bud} : ∀ {ps : List Op} {vs : List V} {Hs : Hp} {δ δ' : List D} {M m : Bud} {ws : List W}, Good H Hs (fun b => B b + M b) -> RepS K H Hs σ δ M -> ZaY K H Hs σ vs ps m -> views ps δ = .ok (ws, δ') ->
 ∃ Hs' M', Good H Hs' (fun b => B b + M' b) /\ Stp H Hs (fun b => B b + M b) H Hs' (fun b => B b + M' b) /\ Views K H Hs' vs ws m /\ RepS K H Hs' σ δ' M'
 | [], [], Hs, δ, δ', M, m, ws, g, s, r, e => by
  have := Zh e
  cases this
  exact ⟨Hs, M, g, Stp.refl _ _ _, trivial, s⟩
 | [], _ :: _, _, _, _, _, _, _, _, _, r, _ => r.elim
 | _ :: _, [], _, _, _, _, _, _, _, _, r, _ => r.elim
 | p :: ps, v :: vs, Hs, δ, δ', M, m, ws, g, s, ⟨m1, m2, r1, r2, l⟩, e => by
  obtain ⟨w, δ1, e1, e⟩ := Zc e
  obtain ⟨ws', δ2, e2, e⟩ := Zc e
  have := Zh e
  cases this
  obtain ⟨Hs1, M1, g1, st1, v1, s1⟩ := ZV g s r1 e1
  obtain ⟨Hs2, M2, g2, st2, v2, s2⟩ := Zd5 g1 s1 (r2.frame st1.grow fun _ _ _ => rfl) e2
  have z := Zq (m1 := fun _ => 0) g (g1.re fun b => by simp) (st1.drop (fun b => by simp) g1.le) g2 st2
  exact ⟨Hs2, M2, g2, z.2.1.drop (fun b => by simp) z.1.le, ⟨m1, m2, v1.frame st2.grow, v2, l⟩, s2⟩
inductive rNW (K : Fg) (f : List W -> Option D) (vs : List V) (H : Hp) (Q : VK) : Prop
 | mk (Hs : Hp) (ws : List W) (m : Bud) (d : D) (h0 : Same Hs H) (h1 : (∀ b, m b <= 1)) (h2 : (∀ b, m b = 1 -> H b ≠ none)) (h3 : Views K H Hs vs ws m) (h4 : f ws = some d) (h5 : Outs K H Hs m d Q) : rNW K f vs H Q
theorem opN (h : tM K (cs.bnd fun ps => (views ps).bnd fun ws => lift (f ws)) σ H Q) : tPs K cs σ H fun vs H1 => rNW K f vs H1 Q := by
 obtain ⟨δ, Hs, M, d, δ', g, s, e, q⟩ := h
 obtain ⟨ps, δ1, e1, e⟩ := Zc e
 obtain ⟨ws, δ2, e2, e⟩ := Zc e
 obtain ⟨e3, rfl⟩ := Z9 e
 refine ⟨δ, Hs, M, ps, δ1, g, s, e1, fun vs H1 Hs1 m1 M1 g1 st1 r1 s1 => ?_⟩
 obtain ⟨Hs2, M2, g2, st2, v2, s2⟩ := Zd5 (B := m1) g1 s1 r1 e2
 have z := Zq (m1 := fun _ => 0) g (g1.re fun b => by simp) (st1.drop (fun b => by simp) g1.le) g2 st2
 have S : Stp H Hs M H1 Hs2 (fun b => m1 b + M2 b) := z.2.1.drop (fun b => by simp) z.1.le
 have le : ∀ b, m1 b + M2 b <= 1 := g2.le
 exact ⟨Hs2, ws, m1, d, g2.sub, fun b => by have := le b; omega, fun b hb => g2.has b (by have := le b; show m1 b + M2 b = 1; omega), v2, e3, Zb5 S g2 s2 q⟩
theorem Views.one (h : Views K H Hs vs [w] m) : ∃ (v : V) (m1 : Bud), vs = [v] /\ View K H Hs v w m1 /\ ∀ b, m1 b <= m b := by
 cases vs with
 | nil => exact h.elim
 | cons v vs =>
  obtain ⟨m1, m2, h1, h2, l⟩ := h
  cases vs with
  | nil => exact ⟨v, m1, rfl, h1, fun b => by have := l b; omega⟩
  | cons _ _ => exact h2.elim
theorem Views.two (h : Views K H Hs vs [w, w'] m) : ∃ (v v' : V) (m1 m2 : Bud), vs = [v, v'] /\ View K H Hs v w m1 /\ View K H Hs v' w' m2 /\ ∀ b, m1 b + m2 b <= m b := by
 cases vs with
 | nil => exact h.elim
 | cons v vs =>
  obtain ⟨m1, m2, h1, h2, l⟩ := h
  obtain ⟨v', m3, rfl, h3, l'⟩ := Views.one h2
  exact ⟨v, v', m1, m3, rfl, h1, h3, fun b => by have := l b; have := l' b; omega⟩
section
variable {X : Cx} {e : Expr} {es : List Expr} {pos p : Pos} {x : Str} {id ty : String} {f : BF} {cs : M (List Op)}
theorem Z1 (hc : ZG X (.builtin id) (rNW X.K (bfW f))) (hm : X.mg x = none) (hv : bootBuiltins x = some (.builtin id)) (ha : PA X (e :: es) (tPs X.K cs)) (hz : glOk X.env.scope x = true := by kernel_rfl) (he : starEach (e :: es) X.env = (false, eval e X.env) :: starEach es X.env := by rfl) (hpl : (backTo pos (starEach es X.env)).any (·.1) = false := by rfl) :
 PE X (.Call (.Name x p) (e :: es) [] pos) (tM X.K (cs.bnd fun ps => (views ps).bnd fun ws => lift (bfW f ws))) := PE.imp (Zfj hc (glk hz) hm hv ha (nmk hz) (dbk hz) he hpl) fun σ H Q h => opN h
theorem ZdN (hc : ZG X (.type ty) (rNW X.K (bfW f))) (hm : X.mg x = none) (hv : bootBuiltins x = some (.type ty)) (ha : PA X (e :: es) (tPs X.K cs)) (hz : glOk X.env.scope x = true := by kernel_rfl) (he : starEach (e :: es) X.env = (false, eval e X.env) :: starEach es X.env := by rfl) (hpl : (backTo pos (starEach es X.env)).any (·.1) = false := by rfl) :
 PE X (.Call (.Name x p) (e :: es) [] pos) (tM X.K (cs.bnd fun ps => (views ps).bnd fun ws => lift (bfW f ws))) := PE.imp (ZhP hc (glk hz) hm hv ha (nmk hz) (dbk hz) he hpl) fun σ H Q h => opN h
theorem ZA : ZG X (.builtin "len") (rNW X.K (bfW .len)) := by
 intro pins s σ H xs us Q I r h
 obtain ⟨Hs, ws, m, d, hs, h1, h2, v, e, o⟩ := h
 replace e : lenB _ = _ := e
 unfold lenB at e
 split at e <;> first | (rename_i z; cases z; done) | skip
 all_goals first
  | (obtain ⟨y, m1, rfl, v, l⟩ := v.one
     cases v with
     | nd n r' =>
      have hl := r'.len
      cases e
      first
      | exact Za2 pins s σ H _ us Q I r ⟨_, _, rfl, .inl (.inl (.inl n)), by rw [hl]; exact o.sc⟩
      | exact Za2 pins s σ H _ us Q I r ⟨_, _, rfl, .inl n, by rw [hl]; exact o.sc⟩
      | exact Za2 pins s σ H _ us Q I r ⟨_, _, rfl, .inr n, by rw [hl]; exact o.sc⟩
      | exact Za2 pins s σ H _ us Q I r ⟨_, _, rfl, .inr (.inr n), by rw [hl]; exact o.sc⟩
      | exact Za2 pins s σ H _ us Q I r ⟨_, _, rfl, .inr (.inl (.inl n)), by rw [hl]; exact o.sc⟩
      | (obtain ⟨n1, n2⟩ := n
         exact ZhY pins s σ H _ us Q I r ⟨_, _, rfl, n2, by rw [List.length_zip, n1, Nat.min_self, hl]; exact o.sc⟩))
  | (obtain ⟨y, m1, rfl, v, l⟩ := v.one
     split at e
     . rename_i hz
       cases e
       cases v
       exact Zfn pins s σ H _ us Q I r ⟨_, rfl, hz, o.sc⟩
     . cases e)
  | cases e
theorem Zih : ZG X (.type "str") (rNW X.K (bfW .str)) := by
 intro pins s σ H xs us Q I r h
 obtain ⟨Hs, ws, m, d, hs, h1, h2, v, e, o⟩ := h
 replace e : strB _ = _ := e
 unfold strB at e
 split at e <;> first | (rename_i z; cases z; done) | skip
 all_goals first
  | (obtain ⟨y, m1, rfl, v, l⟩ := v.one
     split at e
     . rename_i hz
       cases v
       cases e
       exact Zfg pins s σ H _ us Q I r ⟨_, rfl, hz, o.sc⟩
     . cases e)
  | cases e
theorem Zmj : ZG X (.type "int") (rNW X.K (bfW .int)) := by
 intro pins s σ H xs us Q I r h
 obtain ⟨Hs, ws, m, d, hs, h1, h2, v, e, o⟩ := h
 replace e : intB _ = _ := e
 unfold intB at e
 split at e <;> first | (rename_i z; cases z; done) | skip
 all_goals first
  | (obtain ⟨y, m1, rfl, v, l⟩ := v.one
     cases v
     cases e
     first
     | exact Zet pins s σ H _ us Q I r (.inl ⟨_, rfl, o.sc⟩)
     | exact Zet pins s σ H _ us Q I r (.inr ⟨_, rfl, o.sc⟩))
  | (obtain ⟨y, m1, rfl, v, l⟩ := v.one
     cases v
     split at e
     . rename_i n hz
       split at e
       . rename_i hl
         cases e
         exact Zfs pins s σ H _ us Q I r ⟨_, n, rfl, hz, hl, o.sc⟩
       . cases e
     . cases e)
  | cases e
theorem ZkC : ZG X (.type "list") (rNW X.K (bfW .list)) := by
 intro pins s σ H xs us Q I r h
 obtain ⟨Hs, ws, m, d, hs, h1, h2, v, e, o⟩ := h
 replace e : Zhb _ = _ := e
 unfold Zhb at e
 split at e <;> first | (rename_i z; cases z; done) | skip
 all_goals first
  | (obtain ⟨y, m1, rfl, v, l⟩ := v.one
     cases v with
     | nd n r' =>
      cases e
      have go : ∀ p, H p = none -> Q (.ref p) (upd H p (.lst _)) := fun p hp => o.new h1 h2 hp Zl (r'.mono l)
      first
      | exact Za3 pins s σ H _ us Q I r ⟨_, _, rfl, .inl (.inl (.inl n)), go⟩
      | exact Za3 pins s σ H _ us Q I r ⟨_, _, rfl, .inl n, go⟩
      | exact Za3 pins s σ H _ us Q I r ⟨_, _, rfl, .inr n, go⟩
      | exact Za3 pins s σ H _ us Q I r ⟨_, _, rfl, .inr (.inr n), go⟩
      | exact Za3 pins s σ H _ us Q I r ⟨_, _, rfl, .inr (.inl (.inl n)), go⟩)
  | cases e
theorem Ze4 : ∀ {ds : List D} {vs : List V} {m : Bud} {is : List Bool}, RepL K H Hs vs ds m -> ZaB ds = some is -> vs = is.map V.bl
 | [], _, _, is, .nil _, h => by simp only [ZaB, Option.some.injEq] at h; subst h; rfl
 | d :: ds, _, _, is, .cons x y _, h => by
  unfold ZaB at h
  split at h
  . rename_i hh; cases hh
  . rename_i i r hh
    injection hh with h1 h2
    subst h1 h2
    (simp only [Option.map_eq_some_iff] at h)
    obtain ⟨js, h, rfl⟩ := h
    cases x
    rw [Ze4 y h]
    rfl
  . cases h
theorem Ze5 : ∀ (is : List Int) (us : List Value), Vals (is.map V.int) us -> ∀ (i : Nat) (v : Value), us[i]? = some v -> ∃ t, v = .int (is.getD i 0) t
 | [], us, r, i, v, h => by cases r; simp at h
 | n :: is, us, r, i, v, h => by
  cases r with
  | cons r rr =>
   cases i with
   | zero =>
    simp at h
    subst h
    obtain ⟨t, rfl⟩ := r
    exact ⟨t, rfl⟩
   | succ i => exact Ze5 is _ rr i v (by simpa using h)
theorem Zgl : ∀ (is : List Int), preSum (fun i => is.getD i 0) is.length = is.sum := by
 intro is
 have h : ∀ n, n <= is.length -> preSum (fun i => is.getD i 0) n = (is.take n).sum := by
  intro n
  induction n with
  | zero => intro _; simp [preSum]
  | succ n ih =>
   intro hn
   have := ih (by omega)
   show preSum (fun i => is.getD i 0) n + is.getD n 0 = _
   rw [this, PyProof.Rows.take_sum_succ is n (by omega)]
 have := h is.length (Nat.le_refl _)
 rw [List.take_length] at this
 exact this
theorem ZeI (hc : X.calm = true) : ZG X (.builtin "sum") (fun xs H Q => ∃ (l : Addr) (is : List Int), xs = [.ref l] /\ SqL X.K H l (is.map V.int) /\ Q (.int is.sum) H) := by
 intro pins s σ H xs us Q I r h
 obtain ⟨l, is, rfl, hl, q⟩ := h
 obtain ⟨u, rfl, ru⟩ := r.one
 cases (show u = Value.ref l from ru)
 obtain ⟨its, rv, p, hz⟩ := I.list hl
 have hlt : l < s.heap.objs.size := by obtain ⟨_, e, _⟩ := p.isList; exact Heap.lt_size e
 refine call_sum_walkG (wpAny_pyIter_list p.isList ?_)
 refine ⟨s.heap.objs.size, [s.heap.objs.size, l], [s.heap.objs.size], its.toArray.size, _, _, fun i => is.getD i 0, rfl, Walks.list (A := X.A.in1) (I.ok.hd hc) _ l (Nat.ne_of_lt hlt) its.toArray,
  ⟨⟨_, Heap.get?_push_size _ rfl, rfl, rfl⟩, p.isList.push _⟩, fun b hb => ?_, fun i v hP => ?_, fun h' tk t' hk => ?_⟩
 . have e : ∀ o, (s.heap.push o).objs.size = s.heap.objs.size + 1 := fun o => by simp [Heap.push]
   rw [e]
   rcases List.mem_cons.mp hb with q | q
   . rw [q]
     exact Nat.lt_succ_self _
   . rw [List.mem_singleton.mp q]
     exact Nat.lt_succ_of_lt hlt
 . exact Ze5 is its rv i v (by simpa using hP)
 . have e : preSum (fun i => is.getD i 0) its.toArray.size = is.sum := by
    rw [List.size_toArray, <- rv.length, List.length_map]
    exact Zgl is
   rw [e]
   exact ⟨.int _, H, I.kept (t' := tk) (Zg1 hk), ⟨_, rfl⟩, q⟩
theorem Zmk (hc : X.calm = true) : ZG X (.builtin "sum") (rNW X.K (bfW .sum)) := by
 intro pins s σ H xs us Q I r h
 obtain ⟨Hs, ws, m, d, hs, h1, h2, v, e, o⟩ := h
 replace e : sumB _ = _ := e
 unfold sumB at e
 split at e <;> first | (rename_i z; cases z; done) | skip
 all_goals first
  | (obtain ⟨y, m1, rfl, v, l⟩ := v.one
     cases v with
     | nd n r' =>
      simp only [Option.map_eq_some_iff] at e
      obtain ⟨is, e, rfl⟩ := e
      have ei := Zfv r' e
      subst ei
      exact ZeI hc pins s σ H _ us Q I r ⟨_, _, rfl, .inl (.inl n), o.sc⟩)
  | cases e
theorem Zml (hc : X.calm = true) : ZG X (.builtin "all") (rNW X.K (bfW .all)) := by
 intro pins s σ H xs us Q I r h
 obtain ⟨Hs, ws, m, d, hs, h1, h2, v, e, o⟩ := h
 replace e : allB _ = _ := e
 unfold allB at e
 split at e <;> first | (rename_i z; cases z; done) | skip
 all_goals first
  | (obtain ⟨y, m1, rfl, v, l⟩ := v.one
     cases v with
     | nd n r' =>
      simp only [Option.map_eq_some_iff] at e
      obtain ⟨is, e, rfl⟩ := e
      have ei := Ze4 r' e
      subst ei
      exact Zja hc pins s σ H _ us Q I r ⟨_, _, rfl, .inl (.inl n), o.sc⟩)
  | cases e
theorem Zfy (hc : X.calm = true) : ZG X (.builtin "max") (rNW X.K (bfW .max)) := by
 intro pins s σ H xs us Q I r h
 obtain ⟨Hs, ws, m, d, hs, h1, h2, v, e, o⟩ := h
 replace e : maxB _ = _ := e
 unfold maxB at e
 split at e <;> first | (rename_i z; cases z; done) | skip
 all_goals first
  | (obtain ⟨y, y', m1, m2, rfl, v, v', l⟩ := v.two
     cases v
     cases v'
     cases e
     exact ZhJ hc pins s σ H _ us Q I r ⟨_, _, rfl, o.sc⟩)
  | cases e
end
end T
namespace T
open PySem PySem.Spec L2
noncomputable def kitB (a b : String) : Option Bool := if (Value.type a == Value.type b) = true then some true else if PySem.W.kitMeta b = true then (PySem.fastBuiltinMro a).map (·.contains (.type b)) else none
theorem Zbk (K : Fg) (a b : String) : PySem.W.kitOne K (.type a) (.type b) = kitB a b := rfl
noncomputable def tyS : Ty -> Option String
 | .int => some "int" | .bool => some "bool" | .str => some "str" | .list => some "list" | .tuple => some "tuple" | .dict => some "dict" | .own _ => none
theorem Zob : kitB "int" "int" = some true := by decide +kernel
theorem Zoc : kitB "bool" "int" = some true := by decide +kernel
theorem Zod : kitB "str" "int" = some false := by decide +kernel
theorem Zoe : kitB "NoneType" "int" = some false := by decide +kernel
theorem Zof : kitB "list" "int" = some false := by decide +kernel
theorem Zog : kitB "tuple" "int" = some false := by decide +kernel
theorem Zoh : kitB "bool" "bool" = some true := by decide +kernel
theorem Zoi : kitB "int" "bool" = some false := by decide +kernel
theorem Zoj : kitB "str" "bool" = some false := by decide +kernel
theorem Zok : kitB "NoneType" "bool" = some false := by decide +kernel
theorem Zol : kitB "list" "bool" = some false := by decide +kernel
theorem Zom : kitB "tuple" "bool" = some false := by decide +kernel
theorem Zon : kitB "str" "str" = some true := by decide +kernel
theorem Zoo : kitB "int" "str" = some false := by decide +kernel
theorem Zop : kitB "bool" "str" = some false := by decide +kernel
theorem Zoq : kitB "NoneType" "str" = some false := by decide +kernel
theorem Zor : kitB "list" "str" = some false := by decide +kernel
theorem Zos : kitB "dict" "str" = some false := by decide +kernel
theorem Zot : kitB "tuple" "str" = some false := by decide +kernel
theorem Zou : kitB "list" "list" = some true := by decide +kernel
theorem Zov : kitB "tuple" "list" = some false := by decide +kernel
theorem Zow : kitB "int" "list" = some false := by decide +kernel
theorem Zox : kitB "bool" "list" = some false := by decide +kernel
theorem Zoy : kitB "str" "list" = some false := by decide +kernel
theorem Zoz : kitB "NoneType" "list" = some false := by decide +kernel
theorem Zo0 : kitB "tuple" "tuple" = some true := by decide +kernel
theorem Zo1 : kitB "list" "tuple" = some false := by decide +kernel
theorem Zo2 : kitB "int" "tuple" = some false := by decide +kernel
theorem Zo3 : kitB "bool" "tuple" = some false := by decide +kernel
theorem Zo4 : kitB "str" "tuple" = some false := by decide +kernel
theorem Zo5 : kitB "NoneType" "tuple" = some false := by decide +kernel
theorem Zo6 (hn : tyS t = some n) (hv : View K H Hs v w m) (h : tyW t w = some b) : ∃ tv, TyOf K H v tv /\ PySem.W.kitOne K tv (.type n) = some b := by
 cases hv with
 | sc v _ =>
  cases t <;> cases hn <;> cases v <;> cases h <;> first
   | exact ⟨_, .int _, by rw [Zbk]; first | exact Zob | exact Zoi | exact Zoo | exact Zow | exact Zo2⟩
   | exact ⟨_, .bl _, by rw [Zbk]; first | exact Zoc | exact Zoh | exact Zop | exact Zox | exact Zo3⟩
   | exact ⟨_, .str _, by rw [Zbk]; first | exact Zod | exact Zoj | exact Zon | exact Zoy | exact Zo4⟩
   | exact ⟨_, .non, by rw [Zbk]; first | exact Zoe | exact Zok | exact Zoq | exact Zoz | exact Zo5⟩
 | @nd a k vs ds m n r =>
  cases t <;> cases hn <;> cases k <;> cases h <;> first
   | exact ⟨_, .lst n, by rw [Zbk]; first | exact Zof | exact Zol | exact Zor | exact Zou | exact Zo1⟩
   | exact ⟨_, .dK n.2, by rw [Zbk]; exact Zos⟩
   | exact ⟨_, .tup n, by rw [Zbk]; first | exact Zog | exact Zom | exact Zot | exact Zov | exact Zo0⟩
section
theorem Zmm (hn : tyS t = some n) (hg : Gl X "isinstance") (hm : X.mg "isinstance" = none) (ha : PE X a (tP X.K ca)) (hc : PE X c (tC (.ty n))) (hs : starEach [a, c] X.env = [(false, eval a X.env), (false, eval c X.env)] := by rfl)
 (hs1 : starEach [c] X.env = [(false, eval c X.env)] := by rfl) :
 PE X (.Call (.Name "isinstance" p) [a, c] [] pos) (tM X.K ((ca.bnd fun p => (M.ret ([] : List Op)).bnd fun ps => M.ret (p :: ps)).bnd fun ps => (views ps).bnd fun ws => lift (bfW (.isi t) ws))) :=
 PE.imp (Zfj (ZiZ (.ty n) (.type n) rfl fun u h => h) hg hm Zft (ZaR ha (ZaR hc Zcb (by rw [hs1]; rfl)) (by rw [hs, hs1])) (by decide) (by decide) (by rw [hs, hs1]) (by rw [hs1]; rfl)) fun σ H Q h => by
  have h2 : tM X.K ((ca.bnd view).bnd fun w => lift (bfW (.isi t) [w])) σ H Q := by
   obtain ⟨δ, Hs, M, d, δ', g, s, e, q⟩ := h
   refine ⟨δ, Hs, M, d, δ', g, s, ?_, q⟩
   obtain ⟨ps, δ1, e1, e⟩ := Zc e
   obtain ⟨pp, δ2, e2, e3⟩ := Zc e1
   obtain ⟨z, δ3, e4, e5⟩ := Zc e3
   have := Zh e4
   cases this
   have := Zh e5
   cases this
   obtain ⟨ws, δ4, e6, e⟩ := Zc e
   obtain ⟨w, δ5, e7, e8⟩ := Zc e6
   obtain ⟨z, δ6, e9, e10⟩ := Zc e8
   have := Zh e9
   cases this
   have := Zh e10
   cases this
   show T.M.bnd (ca.bnd view) _ δ = _
   unfold T.M.bnd
   rw [e2]
   dsimp only
   rw [e7]
   exact e
  refine op1 (r := fun x H1 Q => ∃ x' t' b, [x, V.ty n] = [x', V.ty n] /\ TyOf X.K H1 x' t' /\ PySem.W.kitOne X.K t' (.type n) = some b /\ Q (.bl b) H1) h2 fun x H Hs w m d g h1 h2 v e o => ?_
  simp only [bfW, isiB, Option.map_eq_some_iff] at e
  obtain ⟨b, e, rfl⟩ := e
  obtain ⟨tv, h3, h4⟩ := Zo6 hn v e
  exact ⟨x, tv, b, rfl, h3, h4, o.sc⟩
end
inductive spF (K : Fg) (F : List D -> Rs (D × List D)) (vs : List V) (H : Hp) (Q : VK) (E : XK) : Prop
 | mk (ds : List D) (Hs : Hp) (m : Bud) (d : D) (ds' : List D) (h0 : Good H Hs m) (h1 : RepL K H Hs vs ds m) (h2 : F ds = .ok (d, ds')) (h3 : ∀ (v : V) (H' Hs' : Hp) (m1 m' : Bud), Good H' Hs' (fun b => m1 b + m' b) -> Stp H Hs m H' Hs' (fun b => m1 b + m' b) -> Rep K H' Hs' v d m1 -> RepL K H' Hs' vs ds' m' -> Q v H') : spF K F vs H Q E
theorem ZkD {K : Fg} {H Hs : Hp} {σ : St} {B m M : Bud} {δ δ' : List D} {lend : Bool} {p : Op} {v : V} {d : D} (g : Good H Hs (fun b => B b + (m b + M b))) (s : RepS K H Hs σ δ M) (r : RepP K H Hs σ v p m) (e : Zcx lend p δ = .ok (d, δ')) :
 ∃ Hs' m' M', Good H Hs' (fun b => B b + (m' b + M' b)) /\ Stp H Hs (fun b => B b + (m b + M b)) H Hs' (fun b => B b + (m' b + M' b)) /\ Rep K H Hs' v d m' /\ RepS K H Hs' σ δ' M' /\ ∀ b, m' b + M' b <= m b + M b := by
 cases p with
 | tmp d' =>
  have := Zh e
  cases this
  exact ⟨Hs, m, M, g, Stp.refl _ _ _, r, s, fun b => Nat.le_refl _⟩
 | late i =>
  have r : σ[i]? = some (some v) := r
  have same : ∀ {d : D}, δ[i]? = some d -> d ≠ .hole -> (∀ m1, Rep K H Hs v d m1 -> Rep K H Hs v d (fun _ => 0)) -> ∃ Hs' m' M', Good H Hs' (fun b => B b + (m' b + M' b)) /\ Stp H Hs (fun b => B b + (m b + M b)) H Hs' (fun b => B b + (m' b + M' b)) /\ Rep K H Hs' v d m' /\ RepS K H Hs' σ δ M' /\ ∀ b, m' b + M' b <= m b + M b := fun {d} hi hn hz => by
   obtain ⟨v', m1, m2, e1, q, l, f⟩ := s.slot hi hn
   rw [r] at e1
   cases e1
   exact ⟨Hs, fun _ => 0, M, g.re fun b => by (try simp); (try omega), (Stp.refl H Hs _).drop (fun b => by (try simp); (try omega)) g.le, hz _ q, s, fun b => by (try simp); (try omega)⟩
  unfold Zcx at e
  dsimp only at e
  split at e
  . rename_i u hi
    cases e
    exact same hi (by simp) fun m1 q => by cases q; exact .sc _ _
  . rename_i k ds hi
    cases e
    exact same hi (by simp) fun m1 q => by cases q with | shd n q => exact .shd n q
  . rename_i k ds hi
    obtain ⟨v', m1, m2, e1, q, l, f⟩ := s.slot hi (by simp)
    rw [r] at e1
    cases e1
    split at e
    . cases e
      refine ⟨Hs, m1, m2, g.re fun b => by have := l b; omega, (Stp.refl H Hs _).drop (fun b => by have := l b; omega) g.le, q, ?_, fun b => by have := l b; omega⟩
      have z := f H Hs (some v) .hole (fun _ => 0) (Same.refl _) (fun _ _ _ => rfl) (.inl rfl)
      rw [ZC r] at z
      exact z.mono fun b => by simp
    . cases e
      have g2 : Good H Hs (fun b => m1 b + (B b + m2 b)) := g.re fun b => by have := l b; omega
      have hsame := ZaP g2 (m := m1) fun b => by omega
      have r2 := Rep.share hsame (Zcf (H := H) (Hs := Hs) (m := m1)) q
      have st := Stp.share g2
      refine ⟨shH H Hs m1, fun _ => 0, m2, g2.share.re fun b => by simp, ⟨fun b o h _ => h, fun b h => ?_, st.grow, fun b h h' => ?_, fun b h => h⟩, r2, ?_, fun b => by have := l b; simp; omega⟩
      . have h : B b + (0 + m2 b) = 1 := h
        have l0 : B b + (m b + M b) <= 1 := g.le b
        have := l b
        left
        show B b + (m b + M b) = 1
        omega
      . rcases st.shr b h h' with z | z
        . have z : m1 b + (B b + m2 b) = 1 := z
          have l0 : B b + (m b + M b) <= 1 := g.le b
          have := l b
          left
          show B b + (m b + M b) = 1
          omega
        . exact .inr z
      . have z := f H (shH H Hs m1) (some v) (.node k false (shrL ds)) (fun _ => 0) hsame (fun _ _ _ => rfl) (.inr ⟨v, rfl, r2⟩)
        rw [ZC r] at z
        exact z.mono fun b => by simp
  . cases e
theorem Zd6 {K : Fg} {H : Hp} {σ : St} {lend : Bool} : ∀ {ps : List Op} {vs : List V} {Hs : Hp} {δ δ' : List D} {B M m : Bud} {ds : List D}, Good H Hs (fun b => B b + (m b + M b)) -> RepS K H Hs σ δ M -> ZaY K H Hs σ vs ps m -> Zas lend ps δ = .ok (ds, δ') ->
 ∃ Hs' m' M', Good H Hs' (fun b => B b + (m' b + M' b)) /\ Stp H Hs (fun b => B b + (m b + M b)) H Hs' (fun b => B b + (m' b + M' b)) /\ RepL K H Hs' vs ds m' /\ RepS K H Hs' σ δ' M'
 | [], [], Hs, δ, δ', B, M, m, ds, g, s, r, e => by
  have := Zh e
  cases this
  exact ⟨Hs, m, M, g, Stp.refl _ _ _, .nil _, s⟩
 | [], _ :: _, _, _, _, _, _, _, _, _, _, r, _ => r.elim
 | _ :: _, [], _, _, _, _, _, _, _, _, _, r, _ => r.elim
 | p :: ps, v :: vs, Hs, δ, δ', B, M, m, ds, g, s, ⟨n1, n2, r1, r2, l⟩, e => by
  obtain ⟨d, δ1, e1, e⟩ := Zc e
  obtain ⟨ds', δ2, e2, e⟩ := Zc e
  have := Zh e
  cases this
  have g0 : Good H Hs (fun b => (B b + n2 b) + (n1 b + M b)) := g.re fun b => by have := l b; omega
  obtain ⟨Hs1, m1, M1, g1, st1, q1, s1, l1⟩ := ZkD g0 s r1 e1
  have g1' : Good H Hs1 (fun b => (B b + m1 b) + (n2 b + M1 b)) := g1.re fun b => by omega
  obtain ⟨Hs2, m2, M2, g2, st2, q2, s2⟩ := Zd6 g1' s1 (r2.frame st1.grow fun _ _ _ => rfl) e2
  have S0 : Stp H Hs (fun b => B b + (m b + M b)) H Hs1 (fun b => (B b + m1 b) + (n2 b + M1 b)) := by
   refine ⟨fun b o h _ => h, fun b h => ?_, st1.grow, fun b h h' => ?_, fun b h => h⟩
   . have h : (B b + m1 b) + (n2 b + M1 b) = 1 := h
     rcases st1.own b (show (B b + n2 b) + (m1 b + M1 b) = 1 by omega) with z | z
     . have z : (B b + n2 b) + (n1 b + M b) = 1 := z
       have l0 : B b + (m b + M b) <= 1 := g.le b
       have := l b
       left
       show B b + (m b + M b) = 1
       omega
     . exact .inr z
   . rcases st1.shr b h h' with z | z
     . have z : (B b + n2 b) + (n1 b + M b) = 1 := z
       have l0 : B b + (m b + M b) <= 1 := g.le b
       have := l b
       left
       show B b + (m b + M b) = 1
       omega
     . exact .inr z
  have z := Zq (m1 := fun _ => 0) g (g1'.re fun b => by simp) (S0.drop (fun b => by simp) g1'.le) g2 st2
  have S : Stp H Hs (fun b => B b + (m b + M b)) H Hs2 (fun b => (B b + m1 b) + (m2 b + M2 b)) := z.2.1.drop (fun b => by simp) z.1.le
  exact ⟨Hs2, fun b => m1 b + m2 b, M2, g2.re fun b => by dsimp only; omega, S.drop (fun b => by dsimp only; omega) g2.le, .cons (q1.frame st2.grow fun _ _ _ => rfl) q2 fun b => Nat.le_refl _, s2⟩
theorem Zd7 : ∀ {ps : List Op} {vs : List V} {δ δ' : List D} {M m : Bud} {ds : List D} {u : Unit}, RepS K H Hs σ δ M -> RepL K H Hs vs ds m -> (∀ i v, (.late i, v) ∈ ps.zip vs -> σ[i]? = some (some v)) -> ZN ps ds δ = .ok (u, δ') -> RepS K H Hs σ δ' (fun b => m b + M b)
 | [], vs, δ, δ', M, m, ds, u, s, r, hl, e => by
  have := Zh (show T.M.ret () δ = Rs.ok (u, δ') by unfold ZN at e; exact e)
  cases this
  exact s.mono fun b => by omega
 | p :: ps, [], δ, δ', M, m, ds, u, s, r, hl, e => by
  cases r
  have := Zh (show T.M.ret () δ = Rs.ok (u, δ') by unfold ZN at e; exact e)
  cases this
  exact s.mono fun b => by omega
 | p :: ps, v :: vs, δ, δ', M, m, ds, u, s, r, hl, e => by
  cases r with
  | @cons _ d _ ds' m1 m2 _ x y l =>
   unfold ZN at e
   obtain ⟨_, δ1, e1, e2⟩ := Zc e
   have hl' : ∀ i v, (.late i, v) ∈ ps.zip vs -> σ[i]? = some (some v) := fun i v h => hl i v (by rw [List.zip_cons_cons]; exact List.mem_cons_of_mem _ h)
   have go : ∀ {M1 : Bud}, RepS K H Hs σ δ1 M1 -> (∀ b, M1 b <= m1 b + M b) -> RepS K H Hs σ δ' (fun b => m b + M b) := fun {M1} s1 l1 =>
    (Zd7 s1 y hl' e2).mono fun b => by have := l b; have := l1 b; omega
   cases p with
   | tmp d' =>
    have := Zh e1
    cases this
    exact go s fun b => by omega
   | late i =>
    have hi := hl i v (by rw [List.zip_cons_cons]; exact List.mem_cons_self)
    unfold Zcy at e1
    dsimp only at e1
    split at e1
    . rename_i hh
      cases e1
      obtain ⟨o, n1, n2, q1, q2, q3, f⟩ := s.focus hh
      have z := f (RepO K H Hs) (some v) d m1 (fun a d m' _ q => q) (.inr ⟨v, rfl, x⟩)
      rw [ZC hi] at z
      exact go z fun b => by have := q3 b; omega
    . cases e1
      exact go s fun b => by omega
theorem lates : ∀ {ps : List Op} {vs : List V} {m : Bud}, ZaY K H Hs σ vs ps m -> ∀ i v, (.late i, v) ∈ ps.zip vs -> σ[i]? = some (some v)
 | [], [], _, _, i, v, h => by simp at h
 | [], _ :: _, _, r, _, _, _ => r.elim
 | _ :: _, [], _, r, _, _, _ => r.elim
 | p :: ps, w :: vs, _, ⟨m1, m2, r1, r2, _⟩, i, v, h => by
  rw [List.zip_cons_cons] at h
  rcases List.mem_cons.mp h with e | e
  . injection e with e1 e2
    subst e1 e2
    exact r1
  . exact lates r2 i v e
theorem Zfz {K : Fg} {fi : FI} {σ : St} {H H1 Hs Hs1 : Hp} {M m1 M1 : Bud} {δ1 δ' : List D} {d : D} {ps : List Op} {vs : List V} {Q : VK} {E : XK} (g : Good H Hs M) (g1 : Good H1 Hs1 (fun b => m1 b + M1 b)) (st1 : Stp H Hs M H1 Hs1 (fun b => m1 b + M1 b))
 (r1 : ZaY K H1 Hs1 σ vs ps m1) (s1 : RepS K H1 Hs1 σ δ1 M1) (e : ZaC fi ps δ1 = .ok (d, δ'))
 (q : ∀ (v : V) (H' Hs' : Hp) (m M' : Bud), Good H' Hs' (fun b => m b + M' b) -> Stp H Hs M H' Hs' (fun b => m b + M' b) -> Rep K H' Hs' v d m -> RepS K H' Hs' σ δ' M' -> Q v H') : spF K fi.run vs H1 Q E := by
 unfold ZaC at e
 obtain ⟨ds, δ2, e2, e⟩ := Zc e
 cases hF : fi.run ds with
 | ok r =>
  obtain ⟨d', ds'⟩ := r
  rw [hF] at e
  dsimp only at e
  obtain ⟨u, δ3, e3, e⟩ := Zc e
  have := Zh e
  cases this
  obtain ⟨Hs2, m2, M2, g2, st2, q2, s2⟩ := Zd6 (B := fun _ => 0) (g1.re fun b => by simp) s1 r1 e2
  have z0 := Zq (m1 := fun _ => 0) g (g1.re fun b => by simp) (st1.drop (fun b => by simp) g1.le) (g2.re fun b => by simp) (M1 := fun b => m1 b + M1 b) (M2 := fun b => m2 b + M2 b) (by
   have := st2
   exact ⟨fun b o h z => this.keep b o h (by simpa using z), fun b h => by have := this.own b (by simpa using h); simpa using this, this.grow, fun b h h' => by have := this.shr b h h'; simpa using this, this.stay⟩)
  have G2 : Good H1 Hs2 (fun b => M2 b + m2 b) := g2.re fun b => by simp; omega
  have S2 : Stp H Hs M H1 Hs2 (fun b => M2 b + m2 b) := z0.2.1.drop (fun b => by simp; omega) z0.1.le
  refine ⟨ds, Hs2, m2, _, ds', G2.re fun b => by omega, q2, hF, fun v H3 Hs3 n1 n2 g3 st3 r3 r4 => ?_⟩
  obtain ⟨G, S, k⟩ := Zq g G2 S2 g3 st3
  have s3 := RepS.frame st3.grow k s2
  have fin := Zd7 s3 r4 (lates r1) e3
  exact q v H3 Hs3 n1 (fun b => n2 b + M2 b) (G.re fun b => by (try dsimp only); omega) (S.drop (fun b => by (try dsimp only); omega) G.le) r3 fin
 | exc x y => rw [hF] at e; cases e
 | stuck => rw [hF] at e; cases e
theorem ZkE {K : Fg} {fi : FI} {cs : M (List Op)} {σ : St} {H : Hp} {Q : VK} {E : XK} (h : tM K (cs.bnd fun ps => ZaC fi ps) σ H Q) : tPs K cs σ H fun vs H1 => spF K fi.run vs H1 Q E := by
 obtain ⟨δ, Hs, M, d, δ', g, s, e, q⟩ := h
 obtain ⟨ps, δ1, e1, e⟩ := Zc e
 exact ⟨δ, Hs, M, ps, δ1, g, s, e1, fun vs H1 Hs1 m1 M1 g1 st1 r1 s1 => Zfz g g1 st1 r1 s1 e q⟩
section
variable {X : Cx} {a e c : Expr} {es : List Expr} {pos p : Pos} {x : Str} {j n : Nat} {fi : FI} {ps : List Str} {cs : M (List Op)}
theorem Zz (G : FnAt X.prog X.w X.K X.mg X.base x j ps (spF X.K fi.run)) (hr : Room n X.A) (ha : PA X (e :: es) (tPs X.K cs)) (hj : j <= n := by decide) (hz : glOk X.env.scope x = true := by kernel_rfl) (he : starEach (e :: es) X.env = (false, eval e X.env) :: starEach es X.env := by rfl) (hpl : (backTo pos (starEach es X.env)).any (·.1) = false := by rfl) :
 PE X (.Call (.Name x p) (e :: es) [] pos) (tM X.K (cs.bnd fun ps => ZaC fi ps)) := PE.imp (ZnL G hr ha hj (glk hz) (dbk hz) he hpl) fun σ H Q h => by
 obtain ⟨δ, Hs, M, a, δ', g, s, e, q⟩ := ZkE (E := E0) h
 refine ⟨δ, Hs, M, a, δ', g, s, e, fun vs H' Hs' m M' g' st r s' => ?_⟩
 show spF X.K fi.run (vs ++ []) H' Q E0
 rw [List.append_nil]
 exact q vs H' Hs' m M' g' st r s'
end
end T
namespace T
open PySem PySem.Spec L2
theorem modL {K : Fg} {H Hs : Hp} {σ : St} {B M : Bud} {δ : List D} {i : Nat} {k : Kd} {ds : List D} (g : Good H Hs (fun b => B b + M b)) (s : RepS K H Hs σ δ M) (hi : δ[i]? = some (.node k true ds)) :
 ∃ (p : Addr) (vs : List V) (m' m2 : Bud), σ[i]? = some (some (.ref p)) /\ Zaz K H p vs k /\ RepL K H Hs vs ds m' /\ (∀ b, one p b + m' b + m2 b <= M b) /\
  ∀ (o' : HO) (k' : Kd) (vs' : List V) (ds' : List D) (n' nr : Bud) (rv : V) (r : D), (∀ b, n' b + nr b <= m' b + B b) -> Zaz K (upd H p o') p vs' k' -> RepL K H Hs vs' ds' n' -> Rep K H Hs rv r nr ->
   Good (upd H p o') Hs (fun b => nr b + (one p b + n' b + m2 b)) /\ Stp H Hs (fun b => B b + M b) (upd H p o') Hs (fun b => nr b + (one p b + n' b + m2 b)) /\ Rep K (upd H p o') Hs rv r nr /\
   RepS K (upd H p o') Hs σ (δ.set i (.node k' true ds')) (fun b => one p b + n' b + m2 b) := by
 obtain ⟨v, m1, m2, e1, q, l, f⟩ := s.slot hi (by simp)
 cases q with
 | @own p _ vs _ _ m' n r l' =>
  have le : ∀ b, one p b + m' b + m2 b <= M b := fun b => by have := l b; have := l' b; omega
  refine ⟨p, vs, m', m2, e1, n, r, le, fun o' k' vs' ds' n' nr rv rd h1 hn hr hq => ?_⟩
  have one_p : one p p = 1 := by simp [one]
  have tot : ∀ b, nr b + (one p b + n' b + m2 b) <= B b + M b := fun b => by have := le b; have := h1 b; omega
  have zp : m' p = 0 /\ B p = 0 /\ m2 p = 0 := by
   have := le p
   have := g.le p
   try dsimp only at this
   omega
  have zp2 : n' p = 0 /\ nr p = 0 := by have := h1 p; omega
  have Hp : H p ≠ none := n.at
  have eqH : ∀ b, b ≠ p -> upd H p o' b = H b := fun b hb => Zm hb
  have hs2 : Hs p = none := g.ne p (by have := le p; have := g.le p; (try dsimp only at this ⊢); omega)
  refine ⟨⟨fun b o e => ?_, fun b => ?_, fun b h => ?_, fun b h => ?_⟩, ⟨fun b o e z => ?_, fun b h => ?_, Same.refl _, fun b h h' => absurd h h', fun b h => ?_⟩, ?_, ?_⟩
  . have hb : b ≠ p := fun q => by subst q; rw [hs2] at e; cases e
    rw [eqH b hb]
    exact g.sub b o e
  . have := g.le b
    have := tot b
    (try dsimp only at *)
    omega
  . have := g.le b
    have := tot b
    exact g.ne b (by (try dsimp only at *); omega)
  . by_cases hb : b = p
    . subst hb; rw [Zl]; simp
    . rw [eqH b hb]
      have := g.le b
      have := tot b
      exact g.has b (by (try dsimp only at *); omega)
  . have hb : b ≠ p := fun q => by
     subst q
     have := le b
     have := g.le b
     (try dsimp only at *)
     omega
    rw [eqH b hb]
    exact e
  . have := g.le b
    have := tot b
    left
    (try dsimp only at *)
    omega
  . by_cases hb : b = p
    . subst hb; rw [Zl]; simp
    . rw [eqH b hb]; exact h
  . exact hq.frame (Same.refl _) fun b hb hn' => eqH b fun q => by subst q; omega
  . have r' : RepL K (upd H p o') Hs vs' ds' n' := hr.frame (Same.refl _) fun b hb hn' => eqH b fun q => by subst q; omega
    have z := f (upd H p o') Hs (some (.ref p)) (.node k' true ds') (fun b => one p b + n' b) (Same.refl _) (fun b hb hn' => eqH b fun q => by subst q; omega) (.inr ⟨_, rfl, .own hn r' fun b => Nat.le_refl _⟩)
    rw [ZC e1] at z
    exact z.mono fun b => by (try dsimp only); omega
theorem Zdf (h : modS i f δ = .ok (d, δ')) : ∃ k ds k' ds', δ[i]? = some (.node k true ds) /\ f k ds = some (d, k', ds') /\ δ' = δ.set i (.node k' true ds') := by
 unfold modS at h
 split at h
 . rename_i k ds hi
   split at h
   . rename_i r k' ds' hf
     cases h
     exact ⟨k, ds, k', ds', hi, hf, rfl⟩
   . cases h
 . cases h
section
variable {X : Cx} {o e : Expr} {es : List Expr} {cpos apos : Pos} {i : Nat} {name : Str} {id : String}
theorem Zii {K : Fg} {H Hs : Hp} {σ : St} {M : Bud} {δ δ' : List D} {u : Unit} (g : Good H Hs M) (s : RepS K H Hs σ δ M) (h : chkL i δ = .ok (u, δ')) : δ' = δ /\ ∃ p, σ[i]? = some (some (.ref p)) /\ tyV K "list" (.ref p) H := by
 unfold chkL at h
 split at h
 . rename_i oo ds hi
   cases h
   obtain ⟨v, m1, m2, e1, q, l, f⟩ := s.slot hi (by simp)
   refine ⟨rfl, ?_⟩
   cases q with
   | own n r _ => exact ⟨_, e1, .inl ⟨rfl, _, .inl (.inl n)⟩⟩
   | shd n r => exact ⟨_, e1, .inl ⟨rfl, _, .inl (.inl (g.sub _ _ n))⟩⟩
 . cases h
theorem ZE (ho : PE X o (tVar i)) (ha : PA X [e] (tDs X.K cs))
 (hbase : attributeBase o "append" X.env (eval o X.env) = eval o X.env := by rfl)
 (hfew : ((backTo cpos (starEach [e] X.env)).all (fun x => !x.1) && (backToKw cpos (keywordEach [] X.env)).all (fun x => x.1.isSome)
  && decide ([e].length + ([] : List Keyword).length + (if ([] : List Keyword).isEmpty then 0 else 1) < 30)) = true := by rfl)
 (hline : (apos.endLine == cpos.line) = true := by rfl) (hs : starEach [e] X.env = (false, eval e X.env) :: starEach [] X.env := by rfl) (hplain : (backTo cpos (starEach [] X.env)).any (·.1) = false := by rfl) :
 PE X (.Call (.Attribute o "append" apos) [e] [] cpos) (tM X.K ((chkL i).bnd fun _ => cs.bnd fun ds => appM i ds)) :=
 PE.imp (ZeQ PySem.F.plainAttrs_list PySem.F.slot_list_append PySem.F.type_list_append Ze0 ho ha hbase hfew hline hs hplain) fun σ H Q h => by
  obtain ⟨δ, Hs, M, d, δ', g, s, ea, q⟩ := h
  obtain ⟨u, δ0, e0, eb⟩ := Zc ea
  obtain ⟨ds, δ1, e1, ec⟩ := Zc eb
  obtain ⟨rfl, p0, h1, h2⟩ := Zii g s e0
  refine ⟨_, h1, h2, δ0, Hs, M, ds, δ1, g, s, e1, fun vs H1 Hs1 m1 M1 g1 st1 r1 s1 => ?_⟩
  unfold appM at ec
  split at ec
  . rename_i x
    obtain ⟨k, ds0, k', ds', hi, hf, rfl⟩ := Zdf ec
    unfold appD at hf
    split at hf
    . split at hf
      . rename_i hl
        cases hf
        cases r1 with
        | @cons y _ _ _ a1 a2 _ rx r2 la =>
         cases r2
         obtain ⟨p, ws, m', m2, e2, n, rl, le, fin⟩ := modL g1 s1 hi
         have e3 : some (some (V.ref p)) = some (some (V.ref p0)) := by rw [<- e2, h1]
         cases e3
         obtain ⟨G, S, R, SS⟩ := fin (.lst (ws ++ [y])) .lst (ws ++ [y]) (ds0 ++ [x]) (fun b => m' b + a1 b) (fun _ => 0) .non (.sc .non) (fun b => by have := la b; (try dsimp only); omega) Zl (rl.app (.cons rx (.nil (fun _ => 0)) fun b => by simp)) (.sc _ _)
         have z := Zq (m1 := fun _ => 0) g (g1.re fun b => by simp) (st1.drop (fun b => by simp) g1.le) G S
         exact ⟨_, ws, y, rfl, rfl, n, by rw [rl.len]; exact hl, q _ _ Hs1 _ _ G (z.2.1.drop (fun b => by simp) z.1.le) R SS⟩
      . cases hf
    . cases hf
  . cases ec
theorem ZkF {K : Fg} {m : MM} {σ : St} {H H1 Hs1 Hs : Hp} {M m1 M1 : Bud} {δ1 δ' : List D} {d : D} {ps : List Op} {vs : List V} {p0 : Addr} {Q : VK} {rr : V -> List V -> Hp -> VK -> Prop}
 (g : Good H Hs M) (g1 : Good H1 Hs1 (fun b => m1 b + M1 b)) (st1 : Stp H Hs M H1 Hs1 (fun b => m1 b + M1 b)) (r1 : ZaY K H1 Hs1 σ vs ps m1) (s1 : RepS K H1 Hs1 σ δ1 M1) (h1 : σ[i]? = some (some (.ref p0)))
 (e : ((views ps).bnd fun ws => modS i (mutD m ws)) δ1 = .ok (d, δ'))
 (q : ∀ (v : V) (H' Hs' : Hp) (m M' : Bud), Good H' Hs' (fun b => m b + M' b) -> Stp H Hs M H' Hs' (fun b => m b + M' b) -> Rep K H' Hs' v d m -> RepS K H' Hs' σ δ' M' -> Q v H')
 (hr : ∀ (ws : List W) (Hs2 : Hp) (ds ds' : List D) (us : List V) (m2 m' : Bud), mutD m ws .lst ds = some (d, .lst, ds') -> Views K H1 Hs2 vs ws m2 -> H1 p0 = some (.lst us) -> RepL K H1 Hs2 us ds m' ->
  (∀ (us' : List V) (n' nr : Bud) (rv : V), (∀ b, n' b + nr b <= m' b + m2 b) -> RepL K H1 Hs2 us' ds' n' -> Rep K H1 Hs2 rv d nr -> Q rv (upd H1 p0 (.lst us'))) -> rr (.ref p0) vs H1 Q) : rr (.ref p0) vs H1 Q := by
 obtain ⟨ws, δ2, e2, e⟩ := Zc e
 obtain ⟨k, ds0, k', ds', hi, hf, rfl⟩ := Zdf e
 obtain ⟨Hs2, M2, g2, st2, v2, s2⟩ := Zd5 (B := m1) g1 s1 r1 e2
 obtain ⟨p, us, m', m2, e3, n, rl, le, fin⟩ := modL g2 s2 hi
 have e4 : some (some (V.ref p)) = some (some (V.ref p0)) := by rw [<- e3, h1]
 cases e4
 have hk : k = .lst /\ k' = .lst := by
  unfold mutD at hf
  split at hf
  . split at hf
    . cases hf; exact ⟨rfl, rfl⟩
    . cases hf
  . simp only [Option.map_eq_some_iff] at hf
    obtain ⟨_, _, hf⟩ := hf
    cases hf
    exact ⟨rfl, rfl⟩
  . split at hf
    . simp only [Option.bind_eq_some_iff, Option.map_eq_some_iff] at hf
      obtain ⟨_, _, _, _, hf⟩ := hf
      cases hf
      exact ⟨rfl, rfl⟩
    . cases hf
  . cases hf; exact ⟨rfl, rfl⟩
  . cases hf; exact ⟨rfl, rfl⟩
  . cases hf
 obtain ⟨rfl, rfl⟩ := hk
 refine hr ws Hs2 ds0 ds' us m1 m' hf v2 n rl fun us' n' nr rv hle rn rd => ?_
 obtain ⟨G, S, R, SS⟩ := fin (.lst us') .lst us' ds' n' nr rv d hle Zl rn rd
 have z1 := Zq (m1 := fun _ => 0) g (g1.re fun b => by simp) (st1.drop (fun b => by simp) g1.le) g2 st2
 have S2 : Stp H Hs M H1 Hs2 (fun b => m1 b + M2 b) := z1.2.1.drop (fun b => by simp) z1.1.le
 have z := Zq (m1 := fun _ => 0) g (g2.re fun b => by simp) (S2.drop (fun b => by simp) g2.le) G S
 exact q _ _ Hs2 _ _ G (z.2.1.drop (fun b => by simp) z.1.le) R SS
end
end T
namespace L2
open PySem PySem.Spec PyProof.Rows
section
theorem ZjO (ne : a ≠ it) : ∀ (m j : Nat) (s : Shared) (Q : List Value -> Shared -> Prop), s.heap.IsListIter it a j -> s.heap.IsList a us -> j + m <= us.size ->
 (∀ g, Heap.IsListIter g it a (j + m) -> Heap.SameBut it s.heap g -> Q ((us.toList.drop j).take m) { s with heap := g }) -> wpAny (model prog w) A (draw (.ref it) m) Q E s
 | 0, j, s, Q, st, _, _, q => wpAny_pure (by simpa using q s.heap st (Heap.SameBut.refl ..))
 | m + 1, j, s, Q, st, hl, le, q => by
  have lt : j < us.size := by omega
  refine wpAny_bind (wpAny_pyNext_list_item st hl (x := us[j]) (by simp [lt]) fun g1 st1 k1 => ?_)
  refine wpAny_bind (wpAny_holding (ZjO ne m (j + 1) _ _ st1 (hl.extBut k1.extBut ne) (by omega) fun g2 st2 k2 => wpAny_pure ?_))
  have z := q g2 (by rw [show j + (m + 1) = j + 1 + m by omega]; exact st2) (k1.trans k2)
  rw [show us.toList.drop j = us[j] :: us.toList.drop (j + 1) by simp [List.drop_eq_getElem_cons, lt], List.take_succ_cons] at z
  exact z
theorem ZkG (hh : A.handled = none) (hl : s.heap.IsList a us)
 (q : ∀ g, Heap.ExtBut s.heap.objs.size s.heap g -> Q us.toList { s with heap := g }) : wpAny (model prog w) A (unpackItems (.ref a) us.size none) Q E s := by
 have ne : a ≠ s.heap.objs.size := Nat.ne_of_lt (by obtain ⟨o, e, _⟩ := hl; exact Heap.lt_size e)
 unfold unpackItems
 refine wpAny_bind (?_ : wpAny _ _ _ _ _ _)
 unfold notIterableAtAll
 refine wpAny_bind (wpAny_specialOf hl.typeIs slot_list_iter.lookup (wpAny_pure ?_))
 simp only [if_false, Bool.false_eq_true]
 refine wpAny_bind (wpAny_holding (wpAny_pyIter_list hl (wpAny_bind (wpAny_holding (ZjO ne us.size 0 _ _ ⟨_, Heap.get?_push_size _ rfl, rfl, rfl⟩ (hl.push _) (by omega) fun g1 st1 k1 => ?_)))))
 rw [show List.take us.size (List.drop 0 us.toList) = us.toList from by rw [List.drop_zero, List.take_of_length_le (by simp)], if_neg (by simp)]
 refine wpAny_bind (wpAny_holding (wpAny_pyNext_list_end hh st1 ((hl.push _).extBut k1.extBut ne) (by simp) fun g2 k2 => ?_))
 simp only [if_false, Bool.false_eq_true, Option.isSome_none]
 exact wpAny_pure (q g2 fun b o hb e => k2 b o hb (k1.extBut b o hb (Heap.get?_push_of_some _ e)))
theorem ZkH (hh : A.handled = none) (hl : s.heap.IsList a us) (hn : (assignEach es env).length = us.size) (hst : (assignEach es env).findIdx? (·.1) = none)
 (q : ∀ g, Heap.ExtBut s.heap.objs.size s.heap g -> wpAny (model prog w) A (assignInOrder ((assignEach es env).map (·.2)) us.toList) Q E { s with heap := g }) : wpAny (model prog w) A (assign (.Tuple es k p) env (.ref a)) Q E s := by
 rw [assign_Tuple]
 refine wpAny_bind (wpAny_standAt ?_)
 unfold unpack
 rw [hn, hst]
 exact wpAny_bind (wpAny_holding (ZkG hh hl q))
end
noncomputable def gSeq (K : Fg) (n : Nat) (t : TGs) : TG := fun v σ H Q => ∃ a xs, v = .ref a /\ (SqT K H a xs \/ SqL K H a xs) /\ xs.length = n /\ t xs σ H Q
theorem Zij (hc : X.calm = true) (h : PGs X es t)
 (hn : (assignEach es X.env).length = n := by rfl) (hst : (assignEach es X.env).findIdx? (·.1) = none := by rfl) : PG X (.Tuple es k pos) (gSeq X.K n t) := by
 intro pins s σ H v u Q I r hw
 obtain ⟨a, xs, e1, hq, hl, hw⟩ := hw
 rcases hq with hq | hq
 . exact ZlA hc h hn hst pins s σ H v u Q I r ⟨a, xs, e1, hq, hl, hw⟩
 . subst e1
   cases r
   obtain ⟨its, rv, ht, hz⟩ := I.list hq
   refine ZkH (I.ok.hd hc) ht.isList (by simp [hn, <- hl, rv.length]) hst fun h' hx => ?_
   have I1 : Inv X pins σ H { s with heap := h' } := I.kept (t' := s.toks) fun b o e => hx b o (Nat.ne_of_lt (Heap.lt_size e)) e
   exact h pins _ σ H xs _ Q I1 (by simpa using rv) hw
end L2
namespace T
open PySem PySem.Spec L2
def Keeps (lk : Nat -> Bool) (σ σ' : St) : Prop := ∀ i, lk i = true -> σ'[i]? = σ[i]?
theorem Keeps.refl (lk : Nat -> Bool) (σ : St) : Keeps lk σ σ := fun _ _ => rfl
theorem Keeps.trans (a : Keeps lk σ σ1) (b : Keeps lk σ1 σ2) : Keeps lk σ σ2 := fun i h => (b i h).trans (a i h)
def Post (K : Fg) (lk : Nat -> Bool) (E : Ends) (σ : St) (H Hs : Hp) (M : Bud) (f : Fl) (δ' : List D) : Prop := match f with
 | .nx => ∀ (σ' : St) (H' Hs' : Hp) (M' : Bud), Keeps lk σ σ' -> Good H' Hs' M' -> Stp H Hs M H' Hs' M' -> RepS K H' Hs' σ' δ' M' -> E.nx σ' H'
 | .bk => ∀ (σ' : St) (H' Hs' : Hp) (M' : Bud), Keeps lk σ σ' -> Good H' Hs' M' -> Stp H Hs M H' Hs' M' -> RepS K H' Hs' σ' δ' M' -> E.bk σ' H'
 | .ct => ∀ (σ' : St) (H' Hs' : Hp) (M' : Bud), Keeps lk σ σ' -> Good H' Hs' M' -> Stp H Hs M H' Hs' M' -> RepS K H' Hs' σ' δ' M' -> E.ct σ' H'
 | .rt d => ∀ (v : V) (σ' : St) (H' Hs' : Hp) (m M' : Bud), Keeps lk σ σ' -> Good H' Hs' (fun b => m b + M' b) -> Stp H Hs M H' Hs' (fun b => m b + M' b) -> Rep K H' Hs' v d m -> RepS K H' Hs' σ' δ' M' -> E.rt v H'
inductive tS (K : Fg) (lk : Nat -> Bool) (c : M Fl) (E : Ends) (σ : St) (H : Hp) : Prop
 | mk (δ : List D) (Hs : Hp) (M : Bud) (f : Fl) (δ' : List D) (h0 : Good H Hs M) (h1 : RepS K H Hs σ δ M) (h2 : c δ = .ok (f, δ')) (h3 : Post K lk E σ H Hs M f δ') : tS K lk c E σ H
theorem Post.ahead {K : Fg} {lk : Nat -> Bool} {E : Ends} {σ σ1 : St} {H Hs H1 Hs1 : Hp} {M M1 : Bud} {f : Fl} {δ' : List D} (k : Keeps lk σ σ1) (g : Good H Hs M) (g1 : Good H1 Hs1 M1) (st : Stp H Hs M H1 Hs1 M1) (h : Post K lk E σ H Hs M f δ') : Post K lk E σ1 H1 Hs1 M1 f δ' := by
 have tr : ∀ {H' Hs' : Hp} {M' : Bud}, Good H' Hs' M' -> Stp H1 Hs1 M1 H' Hs' M' -> Stp H Hs M H' Hs' M' := fun {H' Hs' M'} g' st' => by
  have z := Zq (m1 := fun _ => 0) g (g1.re fun b => by simp) (st.drop (fun b => by simp) g1.le) g' st'
  exact z.2.1.drop (fun b => by simp) z.1.le
 cases f with
 | nx => exact fun σ' H' Hs' M' k' g' st' r => h σ' H' Hs' M' (k.trans k') g' (tr g' st') r
 | bk => exact fun σ' H' Hs' M' k' g' st' r => h σ' H' Hs' M' (k.trans k') g' (tr g' st') r
 | ct => exact fun σ' H' Hs' M' k' g' st' r => h σ' H' Hs' M' (k.trans k') g' (tr g' st') r
 | rt d => exact fun v σ' H' Hs' m M' k' g' st' rv r => h v σ' H' Hs' m M' (k.trans k') g' (tr g' st') rv r
section
variable {X : Cx} {e a b c o : Expr} {st : Stmt} {rest : List Stmt} {pos pos' : Pos} {lk : Nat -> Bool} {i : Nat} {x : Str}
theorem PS.imp (h : PS X st t) (w : ∀ E σ H, t' E σ H -> t E σ H) : PS X st t' := fun pins s σ H E I q => h pins s σ H E I (w E σ H q)
theorem PSs.imp (h : PSs X rest t) (w : ∀ E σ H, t' E σ H -> t E σ H) : PSs X rest t' := fun pins s σ H E I q => h pins s σ H E I (w E σ H q)
theorem Zd : PSs X [] (tS X.K lk (M.ret .nx)) := PSs.imp Zkh fun E σ H h => by
 obtain ⟨δ, Hs, M, f, δ', g, s, e, q⟩ := h
 have := Zh e
 cases this
 exact q σ H Hs M (Keeps.refl _ _) g (Stp.refl _ _ _) s
theorem Za {c r : M Fl} (h1 : PS X st (tS X.K lk c)) (h2 : PSs X rest (tS X.K lk r)) : PSs X (st :: rest) (tS X.K lk (seqL c r)) := PSs.imp (ZiG h1 h2) fun E σ H h => by
 obtain ⟨δ, Hs, M, f, δ', g, s, e, q⟩ := h
 obtain ⟨f1, δ1, e1, e2⟩ := Zc e
 refine ⟨δ, Hs, M, f1, δ1, g, s, e1, ?_⟩
 cases f1 with
 | nx => exact fun σ' H' Hs' M' k g' st' r => ⟨δ1, Hs', M', f, δ', g', r, e2, q.ahead k g g' st'⟩
 | bk => have := Zh e2; cases this; exact q
 | ct => have := Zh e2; cases this; exact q
 | rt d => have := Zh e2; cases this; exact q
theorem ZbG : PS X st (tS X.K lk stk) := fun pins s σ H E I z0 => by obtain ⟨δ, Hs, M, f, δ', g, _, e, q⟩ := z0; cases e
theorem ZW {c : M D} (he : PE X e (tM X.K c)) (hs : swapsWith e none pos.line X.env = pure false := by rfl) : PS X (.Expr e pos) (tS X.K lk (c.bnd fun _ => M.ret .nx)) := PS.imp (Zki he hs) fun E σ H h => by
 obtain ⟨δ, Hs, M, f, δ', g, s, e, q⟩ := h
 obtain ⟨d, δ1, e1, e2⟩ := Zc e
 have := Zh e2
 cases this
 exact ⟨δ, Hs, M, d, _, g, s, e1, fun v H' Hs' m M' g' st' r s' => q σ H' Hs' M' (Keeps.refl _ _) g'.re (st'.drop (fun b => by omega) g'.le) s'⟩
theorem Zo {c : M D} (he : PE X e (tM X.K c)) : PS X (.Return (some e) pos) (tS X.K lk (c.bnd fun d => M.ret (.rt d))) := PS.imp (Zl9 he) fun E σ H h => by
 obtain ⟨δ, Hs, M, f, δ', g, s, e, q⟩ := h
 obtain ⟨d, δ1, e1, e2⟩ := Zc e
 have := Zh e2
 cases this
 exact ⟨δ, Hs, M, d, _, g, s, e1, fun v H' Hs' m M' g' st' r s' => q v σ H' Hs' m M' (Keeps.refl _ _) g' st' r s'⟩
theorem Zbr (h : PE X e (tVar i)) : PE X e (tM X.K (movV i)) := PE.imp h fun σ H Q z0 => by
 obtain ⟨δ, Hs, M, d, δ', g, s, e, q⟩ := z0
 unfold movV at e
 split at e
 . rename_i u hd
   cases e
   obtain ⟨v, m1, m2, e3, r, _⟩ := s.slot hd (by simp)
   cases r
   exact ⟨u, e3, q u H Hs (fun _ => 0) M (Zaq g) (stp0 H Hs M) (.sc _ _) s⟩
 . rename_i k oo ds hd
   cases e
   obtain ⟨v, m1, m2, e3, r, l, f⟩ := s.slot hd (by simp)
   have z := f H Hs (some v) .hole (fun _ => 0) (Same.refl _) (fun _ _ _ => rfl) (.inl rfl)
   rw [ZC e3] at z
   exact ⟨v, e3, q v H Hs m1 m2 (g.re fun b => by have := l b; omega) ((Stp.refl H Hs M).drop (fun b => by have := l b; omega) g.le) r (z.mono fun b => by simp)⟩
 . cases e
theorem Zu (hc : PT X c (tT X.K cc)) (ha : PSs X A (tS X.K lk ca)) (hb : PSs X B (tS X.K lk cb)) : PS X (.If c A B pos) (tS X.K lk (cc.bnd fun t => if t then ca else cb)) := PS.imp (Zn0 hc ha hb) fun E σ H h => by
 obtain ⟨δ, Hs, M, f, δ', g, s, e, q⟩ := h
 obtain ⟨t, δ1, e1, e2⟩ := Zc e
 refine ⟨δ, Hs, M, t, δ1, g, s, e1, fun H' Hs' M' g' st' s' => ?_⟩
 cases t with
 | true => exact ⟨δ1, Hs', M', f, δ', g', s', e2, q.ahead (Keeps.refl _ _) g g' st'⟩
 | false => exact ⟨δ1, Hs', M', f, δ', g', s', e2, q.ahead (Keeps.refl _ _) g g' st'⟩
theorem ZbH {K : Fg} {H Hs : Hp} {σ : St} {δ : List D} {m M : Bud} {v : V} {d : D} (s : RepS K H Hs σ δ M) (hi : i < δ.length) (r : Rep K H Hs v d m) : RepS K H Hs (σ.set i (some v)) (δ.set i d) (fun b => m b + M b) := by
 obtain ⟨o, m1, m2, e1, q, l, f⟩ := s.focus (List.getElem?_eq_getElem hi)
 exact (f (RepO K H Hs) (some v) d m (fun a d m' _ q => q) (.inr ⟨v, rfl, r⟩)).mono fun b => by have := l b; (try dsimp only); omega
theorem Zdg (h : asgN lk i d δ = .ok (u, δ')) : i < δ.length /\ lk i = false /\ δ' = δ.set i d := by
 unfold asgN at h
 split at h
 . rename_i hc
   simp only [Bool.and_eq_true, decide_eq_true_eq, Bool.not_eq_true'] at hc
   cases h
   exact ⟨hc.1, hc.2, rfl⟩
 . cases h
theorem ZbT (h : lk i = false) : Keeps lk σ (σ.set i v) := fun j hj => by
 have : i ≠ j := fun q => by subst q; rw [h] at hj; cases hj
 rw [List.getElem?_set_ne this]
theorem Zmn {c : M D} (hN : X.N.Nodup) (hi : X.N[i]? = some x) (hx : Loc X.env.scope x) (he : PE X e (tM X.K c)) (hs : swapsWith e (some (.Name x pos')) pos.line X.env = pure false := by rfl)
 (hf : X.fn x = true \/ X.env.scope.names.lookup x = some .local := by first | exact .inl rfl | exact .inr rfl | assumption) :
 PS X (.Assign [.Name x pos'] e pos) (tS X.K lk (c.bnd fun d => (asgN lk i d).bnd fun _ => M.ret .nx)) := PS.imp (ZlB hN hi hx he hs hf) fun E σ H h => by
 obtain ⟨δ, Hs, M, f, δ', g, s, e, q⟩ := h
 obtain ⟨d, δ1, e1, e2⟩ := Zc e
 obtain ⟨u, δ2, e3, e4⟩ := Zc e2
 have := Zh e4
 cases this
 obtain ⟨h1, h2, rfl⟩ := Zdg e3
 exact ⟨δ, Hs, M, d, δ1, g, s, e1, fun v H' Hs' m M' g' st' r s' => q _ H' Hs' _ (ZbT h2) g' st' (ZbH s' h1 r)⟩
end
end T
namespace T
open PySem PySem.Spec L2
noncomputable def gNs : List Nat -> TGs
 | [] => gNil
 | i :: is => ZjB (ZbM i) (gNs is)
theorem Zdh : ∀ {is : List Nat} {ds : List D} {vs : List V} {σ : St} {δ δ' : List D} {m M : Bud} {u : Unit} {Q : St -> Hp -> Prop}, ZaX lk is ds δ = .ok (u, δ') -> RepL K H Hs vs ds m -> RepS K H Hs σ δ M ->
 (∀ σ', Keeps lk σ σ' -> RepS K H Hs σ' δ' (fun b => m b + M b) -> Q σ' H) -> vs.length = is.length /\ gNs is vs σ H Q
 | [], [], _, σ, δ, δ', m, M, u, Q, e, .nil _, s, q => by
  have := Zh e
  cases this
  exact ⟨rfl, rfl, q σ (Keeps.refl _ _) (s.mono fun b => by omega)⟩
 | [], _ :: _, _, _, _, _, _, _, _, _, e, _, _, _ => by cases e
 | _ :: _, [], _, _, _, _, _, _, _, _, e, _, _, _ => by cases e
 | i :: is, d :: ds, _, σ, δ, δ', m, M, u, Q, e, .cons (v := v) (vs := vs) (m1 := m1) (m2 := m2) x y l, s, q => by
  obtain ⟨u1, δ1, e1, e2⟩ := Zc e
  obtain ⟨h1, h2, rfl⟩ := Zdg e1
  obtain ⟨hl, hq⟩ := Zdh (Q := Q) e2 y (ZbH s h1 x) fun σ' k r => q σ' ((ZbT h2).trans k) (r.mono fun b => by have := l b; (try dsimp only); omega)
  exact ⟨by rw [List.length_cons, List.length_cons, hl], v, vs, rfl, hq⟩
section
variable {X : Cx} {e o k : Expr} {es : List Expr} {pos pos' : Pos} {lk : Nat -> Bool} {i j : Nat} {is : List Nat} {x : Str}
theorem Zcz : PGs X [] (gNs []) := Zkj
theorem ok_g (hN : X.N.Nodup) (hi : X.N[i]? = some x) (hx : Loc X.env.scope x) (hr : PGs X es (gNs is)) (hf : X.fn x = true \/ X.env.scope.names.lookup x = some .local := by first | exact .inl rfl | exact .inr rfl | assumption)
 (hs : (assignEach (.Name x pos :: es) X.env).map (·.2) = assign (.Name x pos) X.env :: (assignEach es X.env).map (·.2) := by rfl) : PGs X (.Name x pos :: es) (gNs (i :: is)) := ZiH (Zgt hN hi hx hf) hr hs
theorem ZkI {K : Fg} {H Hs : Hp} {σ : St} {δ δ' : List D} {m M : Bud} {x : V} {w : W} {u : Unit} {Q : St -> Hp -> Prop} (v : View K H Hs x w m) (s : RepS K H Hs σ δ M) (e : unpM lk is w δ = .ok (u, δ'))
 (q : ∀ σ', Keeps lk σ σ' -> RepS K H Hs σ' δ' (fun b => m b + M b) -> Q σ' H) : gSeq K is.length (gNs is) x σ H Q := by
 unfold unpM at e
 split at e
 . cases v with
   | nd n r =>
    obtain ⟨hl, hq⟩ := Zdh e r s q
    exact ⟨_, _, rfl, .inl (.inl (.inl n)), hl, hq⟩
 . cases v with
   | nd n r =>
    obtain ⟨hl, hq⟩ := Zdh e r s q
    exact ⟨_, _, rfl, .inr (.inl (.inl n)), hl, hq⟩
 . cases e
theorem Zcg (hc : X.calm = true) (he : PE X e (tP X.K ca)) (hg : PGs X es (gNs is)) (hn : (assignEach es X.env).length = is.length := by rfl) (hst : (assignEach es X.env).findIdx? (·.1) = none := by rfl)
 (hs : swapsWithSole [.Tuple es j pos'] e pos.line X.env = pure false := by rfl) (hw : swappedStores [.Tuple es j pos'] e X.env = pure none := by rfl)
 (h1 : (assignEach [.Tuple es j pos'] X.env).map (·.2) = [assign (.Tuple es j pos') X.env] := by rfl) :
 PS X (.Assign [.Tuple es j pos'] e pos) (tS X.K lk ((ca.bnd view).bnd fun w => (unpM lk is w).bnd fun _ => M.ret .nx)) := PS.imp (Zfe he (Zij hc hg hn hst) hs hw h1) fun E σ H h => by
 obtain ⟨δ, Hs, M, f, δ', g, s, ea, q⟩ := h
 obtain ⟨w, δ2, eb, ec⟩ := Zc ea
 obtain ⟨p, δ1, e1, e2⟩ := Zc eb
 obtain ⟨u, δ3, e3, e4⟩ := Zc ec
 have := Zh e4
 cases this
 refine ⟨δ, Hs, M, p, δ1, g, s, e1, fun x H2 Hs2 m1 M2 g2 st2 r1 s2 => ?_⟩
 obtain ⟨Hs3, M3, g3, st3, v1, s3⟩ := ZV (B := m1) g2 s2 r1 e2
 have z := Zq (m1 := fun _ => 0) g (g2.re fun b => by simp) (st2.drop (fun b => by simp) g2.le) g3 st3
 exact ZkI v1 s3 e3 fun σ' kk r => q σ' H2 Hs3 _ kk g3 (z.2.1.drop (fun b => by simp) z.1.le) r
theorem RepL.set (r : RepL K H Hs vs ds m) (hn : ds[n]? = some d0) (x : Rep K H Hs v d m1) : RepL K H Hs (vs.set n v) (ds.set n d) (fun b => m b + m1 b) := by
 obtain ⟨a, n1, n2, e1, q, l, f⟩ := r.sep.focus hn
 exact ((f (Rep K H Hs) v d m1 (fun a d m' _ q => q) x).mono fun b => by have := l b; (try dsimp only); omega).repL
theorem Zg6 {K : Fg} {H Hs : Hp} {σ : St} {δ δ' : List D} {M : Bud} {p : Op} (s : RepS K H Hs σ δ M) (h : ZL i δ = .ok (p, δ')) : δ' = δ /\ ∃ v, σ[i]? = some (some v) := by
 unfold ZL at h
 split at h
 . rename_i hd
   cases h
   obtain ⟨v, _, _, e, _⟩ := s.slot hd (by simp)
   exact ⟨rfl, v, e⟩
 . rename_i hd
   cases h
   obtain ⟨v, _, _, e, _⟩ := s.slot hd (by simp)
   exact ⟨rfl, v, e⟩
 . cases h
theorem Zf0 (hp : PassesOwn (model X.prog X.w) X.A X.env X.xe) (hc : PT X c (tT X.K cc)) (hb : PSs X body (tS X.K lk cb)) : PS X (.While c body [] pos) (tS X.K lk (Z8 cc cb n)) :=
 PS.imp (ZiI hp hc hb) fun E σ H h => by
 obtain ⟨δ, Hs, M, f, δ', g, s, ea, q⟩ := h
 refine ⟨fun k σ1 H1 => ∃ (δ1 : List D) (Hs1 : Hp) (M1 : Bud), Good H1 Hs1 M1 /\ RepS X.K H1 Hs1 σ1 δ1 M1 /\ Z8 cc cb k δ1 = .ok (f, δ') /\ Post X.K lk E σ1 H1 Hs1 M1 f δ', ⟨n, δ, Hs, M, g, s, ea, q⟩, ?_⟩
 rintro k σ1 H1 ⟨δ1, Hs1, M1, g1, s1, e1, q1⟩
 cases k with
 | zero => cases e1
 | succ k =>
  obtain ⟨t, δ2, e2, e3⟩ := Zc e1
  refine ⟨δ1, Hs1, M1, t, δ2, g1, s1, e2, fun H2 Hs2 M2 g2 st2 s2 => ?_⟩
  have q2 := q1.ahead (Keeps.refl _ _) g1 g2 st2
  cases t with
  | false =>
   dsimp only
   rw [if_neg Bool.false_ne_true]
   have := Zh e3
   cases this
   exact q2 σ1 H2 Hs2 M2 (Keeps.refl _ _) g2 (Stp.refl _ _ _) s2
  | true =>
   dsimp only
   rw [if_pos rfl]
   rw [if_pos rfl] at e3
   obtain ⟨fl, δ3, e4, e5⟩ := Zc e3
   refine ⟨fun σ' H' => ∃ (δ1 : List D) (Hs1 : Hp) (M1 : Bud), Good H' Hs1 M1 /\ RepS X.K H' Hs1 σ' δ1 M1 /\ Z8 cc cb k δ1 = .ok (f, δ') /\ Post X.K lk E σ' H' Hs1 M1 f δ', fun σ' H' hN => ⟨k, Nat.lt_succ_self k, hN⟩, δ2, Hs2, M2, fl, δ3, g2, s2, e4, ?_⟩
   cases fl with
   | nx => exact fun σ3 H3 Hs3 M3 k3 g3 st3 s3 => ⟨δ3, Hs3, M3, g3, s3, e5, q2.ahead k3 g2 g3 st3⟩
   | ct => exact fun σ3 H3 Hs3 M3 k3 g3 st3 s3 => ⟨δ3, Hs3, M3, g3, s3, e5, q2.ahead k3 g2 g3 st3⟩
   | bk => have := Zh e5; cases this; exact q2
   | rt d => have := Zh e5; cases this; exact q2
end
end T
namespace T
open PySem PySem.Spec L2
structure WalkV (J : It) (vs : List V) (B : Bud) (Pp : Hp -> Hp -> Prop) : Prop where
 stay : ∀ {H Hs H' Hs' : Hp}, Pp H Hs -> Same Hs Hs' -> (∀ b, B b ≥ 1 -> H b ≠ none -> H' b = H b) -> Pp H' Hs'
 go : ∀ {H Hs : Hp} {i : Nat} {v : V}, Same Hs H -> Pp H Hs -> vs[i]? = some v -> J.go i H
 yld : ∀ {H Hs H' : Hp} {i : Nat} {x v : V}, Same Hs H -> Pp H Hs -> vs[i]? = some v -> J.yld i H x H' -> H' = H /\ x = v
 stop : ∀ {H Hs : Hp} {i : Nat}, Same Hs H -> Pp H Hs -> vs.length <= i -> J.stop i H
def Grow (H Hs H' Hs' : Hp) : Prop := (H' = H /\ Hs' = Hs) \/ ∃ A o, H A = none /\ H' = upd H A o /\ Hs' = upd Hs A o
theorem Grow.same (w : Grow H Hs H' Hs') (g : Same Hs H) : Same Hs Hs' /\ (∀ b, H b ≠ none -> H' b = H b) /\ Same Hs' H' := by
 rcases w with ⟨rfl, rfl⟩ | ⟨A, o, h, rfl, rfl⟩
 . exact ⟨Same.refl _, fun _ _ => rfl, g⟩
 . have hs : Hs A = none := by
    cases q : Hs A with
    | none => rfl
    | some u => rw [g A u q] at h; cases h
   have ne : ∀ b u, Hs b = some u -> b ≠ A := fun b u e z => by subst z; rw [hs] at e; cases e
   refine ⟨fun b u e => ?_, fun b n => Zm fun z => n (by rw [z]; exact h), fun b u e => ?_⟩
   . rw [Zm (ne b u e)]; exact e
   . by_cases z : b = A
     . subst z; rw [Zl] at e ⊢; exact e
     . rw [Zm z] at e ⊢; exact g b u e
theorem Grow.good {H Hs H' Hs' : Hp} {M : Bud} (w : Grow H Hs H' Hs') (g : Good H Hs M) : Good H' Hs' M := by
 obtain ⟨s1, s2, s3⟩ := w.same g.sub
 refine ⟨s3, g.le, fun b h => ?_, fun b h => ?_⟩
 . rcases w with ⟨rfl, rfl⟩ | ⟨A, o, n, rfl, rfl⟩
   . exact g.ne b h
   . rw [Zm fun z => g.has b h (by rw [z]; exact n)]; exact g.ne b h
 . rw [s2 b (g.has b h)]; exact g.has b h
theorem Grow.stp {H Hs H' Hs' H0 Hs0 : Hp} {M M0 : Bud} (w : Grow H Hs H' Hs') (g : Good H Hs M) (t : Stp H0 Hs0 M0 H Hs M) : Stp H0 Hs0 M0 H' Hs' M := by
 obtain ⟨s1, s2, s3⟩ := w.same g.sub
 refine ⟨fun b o e z => ?_, t.own, t.grow.trans s1, fun b n n' => ?_, fun b n => ?_⟩
 . have e1 := t.keep b o e z
   rw [s2 b (by rw [e1]; simp)]; exact e1
 . by_cases q : Hs b = none
   . rcases w with ⟨rfl, rfl⟩ | ⟨A, o, h, rfl, rfl⟩
     . exact absurd q n'
     . by_cases z : b = A
       . subst z
         cases y : H0 b with
         | none => exact .inr rfl
         | some u => exact absurd h (t.stay b (by rw [y]; simp))
       . rw [Zm z] at n'; exact absurd q n'
   . exact t.shr b n q
 . have := t.stay b n
   rw [s2 b this]; exact this
structure Walk (K : Fg) (J : It) (items : List D) (B : Bud) (Pp : Hp -> Hp -> Prop) : Prop where
 stay : ∀ {H Hs H' Hs' : Hp}, Pp H Hs -> Same Hs Hs' -> (∀ b, B b ≥ 1 -> H b ≠ none -> H' b = H b) -> Pp H' Hs'
 go : ∀ {H Hs : Hp} {i : Nat}, Same Hs H -> Pp H Hs -> i < items.length -> J.go i H
 yld : ∀ {H Hs H' : Hp} {i : Nat} {x : V} {d : D}, Same Hs H -> Pp H Hs -> items[i]? = some d -> J.yld i H x H' -> ∃ Hs', Grow H Hs H' Hs' /\ Rep K H' Hs' x d (fun _ => 0)
 stop : ∀ {H Hs : Hp} {i : Nat}, Same Hs H -> Pp H Hs -> items.length <= i -> J.stop i H
theorem WalkV.w (w : WalkV J vs B Pp) : Walk K J items B (fun H Hs => Pp H Hs /\ RepL K H Hs vs items (fun _ => 0)) where
 stay := fun h g k => ⟨w.stay h.1 g k, h.2.frame g fun b hb => absurd hb (by simp)⟩
 go := fun {H Hs i} g h l => by
  have e := h.2.len
  exact w.go g h.1 (List.getElem?_eq_getElem (show i < vs.length by omega))
 yld := fun {H Hs H' i x d} g h e y => by
  obtain ⟨v, m1, ev, rv, lv⟩ := h.2.at e
  obtain ⟨rfl, rfl⟩ := w.yld g h.1 ev y
  exact ⟨Hs, .inl ⟨rfl, rfl⟩, rv.mono lv⟩
 stop := fun {H Hs i} g h l => w.stop g h.1 (by have := h.2.len; omega)
def Held (K : Fg) (H Hs : Hp) (σ : St) : List (Nat × D) -> Bud -> Prop
 | [], _ => True
 | (i, d) :: r, m => ∃ (v : V) (m1 m2 : Bud), σ[i]? = some (some v) /\ Rep K H Hs v d m1 /\ Held K H Hs σ r m2 /\ ∀ b, m1 b + m2 b <= m b
theorem Held.frame (g : Same Hs Hs') : ∀ {hs : List (Nat × D)} {m : Bud}, (∀ b, m b ≥ 1 -> H b ≠ none -> H' b = H b) -> Held K H Hs σ hs m -> Held K H' Hs' σ hs m
 | [], _, _, h => h
 | (i, d) :: r, m, k, ⟨v, m1, m2, e, x, y, l⟩ => ⟨v, m1, m2, e, x.frame g fun b hb => k b (by have := l b; omega), y.frame g fun b hb => k b (by have := l b; omega), l⟩
theorem Held.keeps (k : Keeps lk σ σ') : ∀ {hs : List (Nat × D)} {m : Bud}, (∀ p ∈ hs, lk p.1 = true) -> Held K H Hs σ hs m -> Held K H Hs σ' hs m
 | [], _, _, h => h
 | (i, d) :: r, m, hl, ⟨v, m1, m2, e, x, y, l⟩ => ⟨v, m1, m2, (k i (hl (i, d) List.mem_cons_self)).trans e, x, y.keeps k fun p hp => hl p (List.mem_cons_of_mem _ hp), l⟩
theorem Zc0 : ∀ {hs : List (Nat × D)} {m M : Bud} {δ δ' : List D} {u : Unit}, ZT hs δ = .ok (u, δ') -> Held K H Hs σ hs m -> RepS K H Hs σ δ M -> RepS K H Hs σ δ' (fun b => m b + M b)
 | [], m, M, δ, δ', u, e, h, s => by
  have := Zh e
  cases this
  exact s.mono fun b => by omega
 | (i, d) :: r, m, M, δ, δ', u, e, ⟨v, m1, m2, e1, x, y, l⟩, s => by
  have hi : i < δ.length := by
   have := s.length
   have := (List.getElem?_eq_some_iff.mp e1).1
   omega
  have z := ZbH s hi x
  rw [ZC e1] at z
  exact (Zc0 (show ZT r (δ.set i d) = _ from e) y z).mono fun b => by have := l b; (try dsimp only); omega
inductive tI (K : Fg) (ik : IK) (cs : M (List Op)) (σ : St) (H : Hp) (R : It -> Hp -> Prop) : Prop
 | mk (δ : List D) (Hs : Hp) (M : Bud) (h : List W × List (Nat × D)) (items : List D) (δ' : List D) (h0 : Good H Hs M) (h1 : RepS K H Hs σ δ M) (h2 : (cs.bnd Z0) δ = .ok (h, δ')) (h3 : itW ik h.1 = some items) (h4 : ∀ (J : It) (Pp : Hp -> Hp -> Prop) (H' Hs' : Hp) (B M' : Bud), Good H' Hs' (fun b => B b + M' b) -> Stp H Hs M H' Hs' (fun b => B b + M' b) -> RepS K H' Hs' σ δ' M' -> Held K H' Hs' σ h.2 B -> Walk K J items B Pp -> Pp H' Hs' -> R J H') : tI K ik cs σ H R
theorem PI.imp (h : PI X tg it w) (q : ∀ σ H R, w' σ H R -> w σ H R) : PI X tg it w' := fun pins s σ H R I z => h pins s σ H R I (q σ H R z)
def HW (K : Fg) (H Hs : Hp) (B : Bud) (v : V) : W -> Prop
 | .sc u => v = u
 | .nd k ds => ∃ a vs, v = .ref a /\ RepL K H Hs vs ds (fun _ => 0) /\ (Zcv K Hs a vs k \/ (Zaz K H a vs k /\ B a ≥ 1))
theorem Zdi {K : Fg} {H Hs : Hp} {σ : St} {δ δ' : List D} {m M : Bud} {p : Op} {v : V} {w : W × Option (Nat × D)} (g : Good H Hs (fun b => m b + M b)) (s : RepS K H Hs σ δ M) (r : RepP K H Hs σ v p m) (e : Zai p δ = .ok (w, δ')) :
 ∃ Hs' B M', Good H Hs' (fun b => B b + M' b) /\ Stp H Hs (fun b => m b + M b) H Hs' (fun b => B b + M' b) /\ RepS K H Hs' σ δ' M' /\ Held K H Hs' σ w.2.toList B /\ HW K H Hs' B v w.1 := by
 have dropM : ∀ {Hs' : Hp} {M' : Bud}, Good H Hs' M' -> Good H Hs' (fun b => (fun _ => 0) b + M' b) := fun g => g.re fun b => by simp
 cases p with
 | tmp d =>
  cases d with
  | hole => cases e
  | sc u =>
   have := Zh e
   cases this
   cases r
   exact ⟨Hs, fun _ => 0, M, g.re fun b => by simp, (Stp.refl H Hs _).drop (fun b => by simp) g.le, s, trivial, rfl⟩
  | node k o ds =>
   have := Zh e
   cases this
   have hsame := ZaP g (m := m) fun b => by omega
   have r2 := Rep.share hsame (Zcf (H := H) (Hs := Hs) (m := m)) r
   refine ⟨shH H Hs m, fun _ => 0, M, dropM g.share, (Stp.share g).drop (fun b => by simp) g.share.le, s.frame hsame fun _ _ _ => rfl, trivial, ?_⟩
   simp only [shr] at r2
   cases r2 with
   | shd n r3 => exact ⟨_, _, rfl, r3, .inl n⟩
 | late i =>
  have r : σ[i]? = some (some v) := r
  unfold Zai at e
  dsimp only at e
  split at e
  . rename_i u hi
    cases e
    obtain ⟨v', m1, m2, e1, q, l, f⟩ := s.slot hi (by simp)
    rw [r] at e1
    cases e1
    cases q
    exact ⟨Hs, fun _ => 0, M, g.re fun b => by simp, (Stp.refl H Hs _).drop (fun b => by simp) g.le, s, trivial, rfl⟩
  . rename_i k ds hi
    cases e
    obtain ⟨v', m1, m2, e1, q, l, f⟩ := s.slot hi (by simp)
    rw [r] at e1
    cases e1
    cases q with
    | shd n q => exact ⟨Hs, fun _ => 0, M, g.re fun b => by simp, (Stp.refl H Hs _).drop (fun b => by simp) g.le, s, trivial, _, _, rfl, q, .inl n⟩
  . rename_i k ds hi
    cases e
    obtain ⟨v', m1, m2, e1, q, l, f⟩ := s.slot hi (by simp)
    rw [r] at e1
    cases e1
    cases q with
    | @own a _ vs _ _ m' n q l' =>
     have g2 : Good H Hs (fun b => m' b + (one a b + m2 b)) := g.re fun b => by have := l b; have := l' b; omega
     have hsame := ZaP g2 (m := m') fun b => by omega
     have q2 := RepL.share hsame (Zcf (H := H) (Hs := Hs) (m := m')) q
     have st := Stp.share g2
     have z := f H (shH H Hs m') (some (.ref a)) .hole (fun _ => 0) hsame (fun _ _ _ => rfl) (.inl rfl)
     rw [ZC r] at z
     refine ⟨shH H Hs m', one a, m2, g2.share, ⟨fun b o h _ => h, fun b h => ?_, st.grow, fun b h h' => ?_, fun b h => h⟩, z.mono fun b => by simp, ⟨_, one a, fun _ => 0, r, .own n q2 fun b => by simp, trivial, fun b => by simp⟩, _, _, rfl, q2, .inr ⟨n, by simp [one]⟩⟩
     . have h : one a b + m2 b = 1 := h
       have l0 : m b + M b <= 1 := g.le b
       have := l b
       have := l' b
       left
       show m b + M b = 1
       omega
     . rcases st.shr b h h' with z | z
       . have z : m' b + (one a b + m2 b) = 1 := z
         have l0 : m b + M b <= 1 := g.le b
         have := l b
         have := l' b
         left
         show m b + M b = 1
         omega
       . exact .inr z
  . cases e
theorem ZdO (lo : Int) (n : Nat) (B : Bud) : WalkV (Itr lo n) ((List.range n).map fun (k : Nat) => V.int (lo + k)) B (fun _ _ => True) where
 stay := fun _ _ _ => trivial
 go := fun {H Hs i v} _ _ h => by
  have := (List.getElem?_eq_some_iff.mp h).1
  simp only [List.length_map, List.length_range] at this
  exact this
 yld := fun {H Hs H' i x v} _ _ h y => by
  obtain ⟨e, y⟩ := y
  have := (List.getElem?_eq_some_iff.mp h).1
  simp only [List.length_map, List.length_range] at this
  rw [List.getElem?_map, List.getElem?_range this] at h
  simp only [Option.map_some, Option.some.injEq] at h
  exact ⟨e, y.trans h⟩
 stop := fun {H Hs i} _ _ h => by
  simp only [List.length_map, List.length_range] at h
  exact h
theorem Ze6 : WalkV (Itl K a) vs B (fun H Hs => SqL K Hs a vs \/ (H a = some (.lst vs) /\ B a ≥ 1)) := by
 have sq : ∀ {H Hs : Hp}, Same Hs H -> (SqL K Hs a vs \/ (H a = some (.lst vs) /\ B a ≥ 1)) -> SqL K H a vs := fun g h => by
  rcases h with h | h
  . exact g.seq h
  . exact .inl (.inl h.1)
 refine ⟨fun h g k => ?_, fun g h e => ⟨vs, _, sq g h, e⟩, fun g h e y => ?_, fun g h e => ⟨vs, sq g h, e⟩⟩
 . rcases h with h | ⟨h, hb⟩
   . exact .inl (g.seq h)
   . exact .inr ⟨(k a hb (by rw [h]; simp)).trans h, hb⟩
 . obtain ⟨e1, y⟩ := y
   have := y vs (sq g h)
   rw [e] at this
   exact ⟨e1, (Option.some.inj this).symm⟩
theorem Zf1 : WalkV (Itt K a) vs B (fun H Hs => SqT K Hs a vs \/ (H a = some (.tup vs) /\ B a ≥ 1)) := by
 have sq : ∀ {H Hs : Hp}, Same Hs H -> (SqT K Hs a vs \/ (H a = some (.tup vs) /\ B a ≥ 1)) -> SqT K H a vs := fun g h => by
  rcases h with h | h
  . exact Same.tupq' g h
  . exact .inl (.inl h.1)
 refine ⟨fun h g k => ?_, fun g h e => ⟨vs, _, sq g h, e⟩, fun g h e y => ?_, fun g h e => ⟨vs, sq g h, e⟩⟩
 . rcases h with h | ⟨h, hb⟩
   . exact .inl (Same.tupq' g h)
   . exact .inr ⟨(k a hb (by rw [h]; simp)).trans h, hb⟩
 . obtain ⟨e1, y⟩ := y
   have := y vs (sq g h)
   rw [e] at this
   exact ⟨e1, (Option.some.inj this).symm⟩
section
variable {X : Cx} {tg a b l : Expr} {ca cb : M Op} {pos p : Pos}
theorem Zhe {c : M Op} {δ δ' : List D} {h : List W × List (Nat × D)} (e : ((c.bnd fun p => (M.ret ([] : List Op)).bnd fun ps => M.ret (p :: ps)).bnd Z0) δ = .ok (h, δ')) : ∃ p δ1 w, c δ = .ok (p, δ1) /\ Zai p δ1 = .ok (w, δ') /\ h = ([w.1], w.2.toList) := by
 obtain ⟨ps, δ1, e1, e2⟩ := Zc e
 obtain ⟨p, δ2, e3, e4⟩ := Zc e1
 obtain ⟨z, δ3, e5, e6⟩ := Zc e4
 have := Zh e5
 cases this
 have := Zh e6
 cases this
 obtain ⟨w, δ4, e7, e8⟩ := Zc e2
 obtain ⟨z, δ5, e9, e10⟩ := Zc e8
 have := Zh e9
 cases this
 have := Zh e10
 cases this
 exact ⟨p, δ1, w, e3, e7, by simp⟩
theorem ZcM : ∀ (l : List Int), RepL K H Hs (l.map V.int) (l.map fun i => D.sc (.int i)) (fun _ => 0)
 | [] => .nil _
 | i :: l => .cons (m1 := fun _ => 0) (m2 := fun _ => 0) (.sc _ _) (ZcM l) fun b => by simp
theorem Zg7 (lo hi : Int) : RepL K H Hs ((List.range (hi - lo).toNat).map fun (k : Nat) => V.int (lo + k)) (rng lo hi) (fun _ => 0) := by
 have z := ZcM (K := K) (H := H) (Hs := Hs) ((List.range (hi - lo).toNat).map fun (k : Nat) => lo + k)
 rw [List.map_map, List.map_map] at z
 exact z
theorem Zb6 (hm : X.mg "range" = none) (ha : PE X a (tP X.K ca)) (hz : glOk X.env.scope "range" = true := by kernel_rfl) (hs : starEach [a] X.env = [(false, eval a X.env)] := by rfl) :
 PI X tg (.Call (.Name "range" p) [a] [] pos) (tI X.K .rng1 (ca.bnd fun p => (M.ret ([] : List Op)).bnd fun ps => M.ret (p :: ps))) := PI.imp (ZhF (glk hz) hm (ZaR ha Zcb (by rw [hs]; rfl)) hs) fun σ H R h => by
 obtain ⟨δ, Hs, M, h, items, δ', g, s, e, ei, q⟩ := h
 obtain ⟨p, δ1, w, e1, e2, rfl⟩ := Zhe e
 refine ⟨δ, Hs, M, p, δ1, g, s, e1, fun x H2 Hs2 m1 M2 g2 st2 r1 s2 => ?_⟩
 obtain ⟨Hs3, B, M3, g3, st3, s3, hh, hw⟩ := Zdi g2 s2 r1 e2
 have z := Zq (m1 := fun _ => 0) g (g2.re fun b => by simp) (st2.drop (fun b => by simp) g2.le) g3 st3
 obtain ⟨w1, w2⟩ := w
 replace ei : Zhc _ = _ := ei
 unfold Zhc at ei
 split at ei
 rotate_left
 . cases ei
 rename_i n hx
 cases hx
 split at ei
 . rename_i hok
   cases ei
   obtain rfl := hw
   simp only [okR, Bool.and_eq_true, decide_eq_true_eq] at hok
   have hz : (n - 0).toNat = n.toNat := by omega
   refine ⟨n, rfl, hok.1, hok.2, ?_⟩
   have := Zg7 (K := X.K) (H := H2) (Hs := Hs3) 0 n
   rw [hz] at this
   exact q _ _ H2 Hs3 B M3 g3 (z.2.1.drop (fun b => by simp) z.1.le) s3 hh (ZdO 0 n.toNat B).w ⟨trivial, this⟩
 . cases ei
theorem Zo7 (e : ((ca.bnd fun p => (cb.bnd fun p => (M.ret ([] : List Op)).bnd fun ps => M.ret (p :: ps)).bnd fun ps => M.ret (p :: ps)).bnd Z0) δ = .ok (h, δ')) : ∃ p1 δ1 p2 δ2 w1 δ3 w2, ca δ = .ok (p1, δ1) /\ cb δ1 = .ok (p2, δ2) /\ Zai p1 δ2 = .ok (w1, δ3) /\ Zai p2 δ3 = .ok (w2, δ') /\ h = ([w1.1, w2.1], w1.2.toList ++ (w2.2.toList ++ [])) := by
 obtain ⟨ps, δ1, e1, e2⟩ := Zc e
 obtain ⟨p1, δ2, e3, e4⟩ := Zc e1
 obtain ⟨qs, δ3, e5, e6⟩ := Zc e4
 obtain ⟨p2, δ4, e7, e8⟩ := Zc e5
 obtain ⟨z, δ5, e9, e10⟩ := Zc e8
 clear e e1 e4 e5 e8
 have := Zh e9
 cases this
 have := Zh e10
 cases this
 have := Zh e6
 cases this
 obtain ⟨w1, δ6, e11, e12⟩ := Zc e2
 obtain ⟨ws, δ7, e13, e14⟩ := Zc e12
 obtain ⟨w2, δ8, e15, e16⟩ := Zc e13
 obtain ⟨z, δ9, e17, e18⟩ := Zc e16
 clear e2 e12 e13 e16
 have := Zh e17
 cases this
 have := Zh e18
 cases this
 have := Zh e14
 cases this
 exact ⟨p1, δ2, p2, _, w1, _, w2, e3, e7, e11, e15, rfl⟩
theorem Zg8 {p : Op} {δ δ' : List D} {v : V} {h : Option (Nat × D)} (e : Zai p δ = .ok ((.sc v, h), δ')) : h = none := by
 cases p with
 | tmp d => cases d with
  | sc u => cases e; rfl
  | hole => cases e
  | node k o ds => cases e
 | late i =>
  unfold Zai at e
  dsimp only at e
  split at e <;> cases e
  rfl
theorem ZkJ (hm : X.mg "range" = none) (ha : PE X a (tP X.K ca)) (hb : PE X b (tP X.K cb)) (hz : glOk X.env.scope "range" = true := by kernel_rfl) (hs : starEach [a, b] X.env = [(false, eval a X.env), (false, eval b X.env)] := by rfl) (hs2 : starEach [b] X.env = [(false, eval b X.env)] := by rfl) :
 PI X tg (.Call (.Name "range" p) [a, b] [] pos) (tI X.K .rng2 (ca.bnd fun p => (cb.bnd fun p => (M.ret ([] : List Op)).bnd fun ps => M.ret (p :: ps)).bnd fun ps => M.ret (p :: ps))) := PI.imp (ZhG (glk hz) hm (ZaR ha (ZaR hb Zcb (by rw [hs2]; rfl)) (by rw [hs, hs2])) hs hs2) fun σ H R h => by
 obtain ⟨δ, Hs, M, h, items, δ', g, s, e, ei, q⟩ := h
 obtain ⟨p1, δ2, p2, δ4, w1, δ6, w2, e3, e7, e11, e15, rfl⟩ := Zo7 e
 obtain ⟨w1, h1⟩ := w1
 obtain ⟨w2, h2⟩ := w2
 replace ei : Zhd _ = _ := ei
 unfold Zhd at ei
 split at ei
 rotate_left
 . cases ei
 rename_i lo hi hx
 cases hx
 split at ei
 . rename_i hok
   cases ei
   simp only [okR, Bool.and_eq_true, decide_eq_true_eq] at hok
   refine ⟨δ, Hs, M, p1, δ2, g, s, e3, fun x H1 Hs1 m1 M1 g1 st1 r1 s1 => ⟨δ2, Hs1, M1, p2, _, g1.re, s1, e7, fun y H2 Hs2 m2 M2 g2 st2 r2 s2 => ?_⟩⟩
   obtain ⟨G2, S2, k2⟩ := Zq g g1 st1 g2 st2
   have r1' := RepP.frame st2.grow k2 r1
   have r2b : RepP X.K H2 Hs2 σ x p1 (fun b => m1 b + m2 b) := by
    cases p1 with
    | late i => exact r1'
    | tmp d => exact Rep.mono r1' fun b => by omega
   obtain ⟨Hs3, B3, M3, g3, st3, s3, hh3, hw3⟩ := Zdi (m := fun b => m1 b + m2 b) (G2.re fun b => by (try dsimp only); omega) s2 r2b e11
   obtain rfl := hw3
   have r2' : RepP X.K H2 Hs3 σ y p2 (fun _ => 0) := by
    cases p2 with
    | late i => exact r2
    | tmp d =>
     cases d with
     | sc u => cases r2; exact .sc _ _
     | hole => cases e15
     | node k o ds => cases e15
   have nh1 : h1 = none := Zg8 e11
   have nh2 : h2 = none := Zg8 e15
   subst nh1 nh2
   obtain ⟨Hs4, B4, M4, g4, st4, s4, hh4, hw4⟩ := Zdi (m := fun _ => 0) (g3.re fun b => by simp) s3 r2' e15
   obtain rfl := hw4
   have S2' : Stp H Hs M H2 Hs2 (fun b => m1 b + m2 b + M2 b) := S2.drop (fun b => by omega) G2.le
   have G2' : Good H2 Hs2 (fun b => m1 b + m2 b + M2 b) := G2.re fun b => by omega
   have z3 := Zq (m1 := fun _ => 0) g (G2'.re fun b => by simp) (S2'.drop (fun b => by simp) G2'.le) g3 st3
   have S3 : Stp H Hs M H2 Hs3 (fun b => B3 b + M3 b) := z3.2.1.drop (fun b => by simp) z3.1.le
   have st4' : Stp H2 Hs3 (fun b => B3 b + M3 b) H2 Hs4 (fun b => B4 b + M4 b) := ⟨fun b o h _ => h, fun b h => by
    rcases st4.own b h with z | z
    . have z : 0 + M3 b = 1 := z
      have : B3 b + M3 b <= 1 := g3.le b
      left; show B3 b + M3 b = 1; omega
    . exact .inr z, st4.grow, fun b h h' => by
    rcases st4.shr b h h' with z | z
    . have z : 0 + M3 b = 1 := z
      have : B3 b + M3 b <= 1 := g3.le b
      left; show B3 b + M3 b = 1; omega
    . exact .inr z, fun b h => h⟩
   have z4 := Zq (m1 := fun _ => 0) g (g3.re fun b => by simp) (S3.drop (fun b => by simp) g3.le) g4 st4'
   exact ⟨lo, hi, rfl, ⟨hok.1.1, hok.1.2, hok.2.1, hok.2.2⟩, q _ _ H2 Hs4 B4 M4 g4 (z4.2.1.drop (fun b => by simp) z4.1.le) s4 trivial (ZdO lo _ B4).w ⟨trivial, Zg7 lo hi⟩⟩
 . cases ei
theorem ZdP : ∀ (l : List Nat), RepL K H Hs (l.map fun c => V.str ⟨#[c]⟩) (l.map fun c => D.sc (.str ⟨#[c]⟩)) (fun _ => 0)
 | [] => .nil _
 | i :: l => .cons (m1 := fun _ => 0) (m2 := fun _ => 0) (.sc _ _) (ZdP l) fun b => by simp
theorem Zjg (x : Str) (B : Bud) : WalkV (Its x) (x.cps.toList.map fun c => V.str ⟨#[c]⟩) B (fun _ _ => True) where
 stay := fun _ _ _ => trivial
 go := fun {H Hs i v} _ _ h => by
  have := (List.getElem?_eq_some_iff.mp h).1
  have : i < x.cps.size := by simpa using this
  exact this
 yld := fun {H Hs H' i y v} _ _ h z => by
  obtain ⟨e, c, h1, h2⟩ := z
  refine ⟨e, ?_⟩
  rw [List.getElem?_map, Array.getElem?_toList, h1] at h
  simp only [Option.map_some, Option.some.injEq] at h
  exact h2.trans h
 stop := fun {H Hs i} _ _ h => by
  have h : x.cps.size <= i := by simpa using h
  exact h
theorem Zao (hl : PE X l (tP X.K ca)) : PI X tg l (tI X.K .val (ca.bnd fun p => (M.ret ([] : List Op)).bnd fun ps => M.ret (p :: ps))) := by
 intro pins st0 σ H R I hh0
 obtain ⟨δ, Hs, M, h, items, δ', g, s, e, ei, q⟩ := hh0
 obtain ⟨p, δ1, w, e1, e2, rfl⟩ := Zhe e
 obtain ⟨w1, w2⟩ := w
 have core : ∀ (x : V) (H2 Hs2 : Hp) (m1 M2 : Bud), Good H2 Hs2 (fun b => m1 b + M2 b) -> Stp H Hs M H2 Hs2 (fun b => m1 b + M2 b) -> RepP X.K H2 Hs2 σ x p m1 -> RepS X.K H2 Hs2 σ δ1 M2 ->
  ∃ Hs3 B M3, Good H2 Hs3 (fun b => B b + M3 b) /\ Stp H Hs M H2 Hs3 (fun b => B b + M3 b) /\ RepS X.K H2 Hs3 σ δ' M3 /\ Held X.K H2 Hs3 σ w2.toList B /\ HW X.K H2 Hs3 B x w1 := fun x H2 Hs2 m1 M2 g2 st2 r1 s2 => by
  obtain ⟨Hs3, B, M3, g3, st3, s3, hh, hw⟩ := Zdi g2 s2 r1 e2
  have z := Zq (m1 := fun _ => 0) g (g2.re fun b => by simp) (st2.drop (fun b => by simp) g2.le) g3 st3
  exact ⟨Hs3, B, M3, g3, z.2.1.drop (fun b => by simp) z.1.le, s3, hh, hw⟩
 cases w1 with
 | sc u =>
  cases u with
  | str z =>
   cases ei
   refine ZlW hl pins st0 σ H R I ⟨δ, Hs, M, p, δ1, g, s, e1, fun x H2 Hs2 m1 M2 g2 st2 r1 s2 => ?_⟩
   obtain ⟨Hs3, B, M3, g3, st3, s3, hh, hw⟩ := core x H2 Hs2 m1 M2 g2 st2 r1 s2
   exact ⟨z, hw, q _ _ H2 Hs3 B M3 g3 st3 s3 hh (Zjg z B).w ⟨trivial, ZdP _⟩⟩
  | _ => cases ei
 | nd k ds =>
  cases k with
  | lst =>
   cases ei
   refine Zgu hl pins st0 σ H R I ⟨δ, Hs, M, p, δ1, g, s, e1, fun x H2 Hs2 m1 M2 g2 st2 r1 s2 => ?_⟩
   obtain ⟨Hs3, B, M3, g3, st3, s3, hh, a, vs, hx, hr, hn⟩ := core x H2 Hs2 m1 M2 g2 st2 r1 s2
   have hp : SqL X.K Hs3 a vs \/ (H2 a = some (.lst vs) /\ B a ≥ 1) := hn.elim (fun n => .inl (.inl (.inl n))) fun n => .inr n
   refine ⟨a, hx, ⟨vs, ?_⟩, q _ _ H2 Hs3 B M3 g3 st3 s3 hh Ze6.w ⟨hp, hr⟩⟩
   rcases hp with hp | hp
   . exact g3.sub.seq hp
   . exact .inl (.inl hp.1)
  | frl =>
   cases ei
   refine Zgu hl pins st0 σ H R I ⟨δ, Hs, M, p, δ1, g, s, e1, fun x H2 Hs2 m1 M2 g2 st2 r1 s2 => ?_⟩
   obtain ⟨Hs3, B, M3, g3, st3, s3, hh, a, vs, hx, hr, hn⟩ := core x H2 Hs2 m1 M2 g2 st2 r1 s2
   have hp : SqL X.K Hs3 a vs \/ (H2 a = some (.lst vs) /\ B a ≥ 1) := hn.elim (fun n => .inl n) fun n => n.1.elim
   refine ⟨a, hx, ⟨vs, ?_⟩, q _ _ H2 Hs3 B M3 g3 st3 s3 hh Ze6.w ⟨hp, hr⟩⟩
   rcases hp with hp | hp
   . exact g3.sub.seq hp
   . exact .inl (.inl hp.1)
  | tup =>
   cases ei
   refine ZhE hl pins st0 σ H R I ⟨δ, Hs, M, p, δ1, g, s, e1, fun x H2 Hs2 m1 M2 g2 st2 r1 s2 => ?_⟩
   obtain ⟨Hs3, B, M3, g3, st3, s3, hh, a, vs, hx, hr, hn⟩ := core x H2 Hs2 m1 M2 g2 st2 r1 s2
   have hp : SqT X.K Hs3 a vs \/ (H2 a = some (.tup vs) /\ B a ≥ 1) := hn.elim (fun n => .inl (.inl (.inl n))) fun n => .inr n
   refine ⟨a, hx, ⟨vs, ?_⟩, q _ _ H2 Hs3 B M3 g3 st3 s3 hh Zf1.w ⟨hp, hr⟩⟩
   rcases hp with hp | hp
   . exact Same.tupq' g3.sub hp
   . exact .inl (.inl hp.1)
  | ftp =>
   cases ei
   refine ZhE hl pins st0 σ H R I ⟨δ, Hs, M, p, δ1, g, s, e1, fun x H2 Hs2 m1 M2 g2 st2 r1 s2 => ?_⟩
   obtain ⟨Hs3, B, M3, g3, st3, s3, hh, a, vs, hx, hr, hn⟩ := core x H2 Hs2 m1 M2 g2 st2 r1 s2
   have hp : SqT X.K Hs3 a vs \/ (H2 a = some (.tup vs) /\ B a ≥ 1) := hn.elim (fun n => .inl (.inr n)) fun n => n.1.elim
   refine ⟨a, hx, ⟨vs, ?_⟩, q _ _ H2 Hs3 B M3 g3 st3 s3 hh Zf1.w ⟨hp, hr⟩⟩
   rcases hp with hp | hp
   . exact Same.tupq' g3.sub hp
   . exact .inl (.inl hp.1)
  | dic ks => cases ei
  | dpp ks => cases ei
  | ins C fs => cases ei
  | exc ns fr fs => cases ei
end
end T
namespace T
open PySem PySem.Spec L2
noncomputable def gT (K : Fg) : Tg -> TG
 | .name i => ZbM i
 | .tup is => gSeq K is.length (gNs is)
theorem Zg9 {K : Fg} {H Hs : Hp} {lk : Nat -> Bool} {tg : Tg} {d : D} {v : V} {σ : St} {δ δ' : List D} {M : Bud} {u : Unit} {Q : St -> Hp -> Prop} (hs : Same Hs H) (e : asgT lk tg d δ = .ok (u, δ')) (r : Rep K H Hs v d (fun _ => 0)) (s : RepS K H Hs σ δ M)
 (q : ∀ σ', Keeps lk σ σ' -> RepS K H Hs σ' δ' M -> Q σ' H) : gT K tg v σ H Q := by
 cases tg with
 | name i =>
  obtain ⟨h1, h2, rfl⟩ := Zdg e
  exact q _ (ZbT h2) ((ZbH s h1 r).mono fun b => by simp)
 | tup is =>
  cases d with
  | sc v => cases e
  | hole => cases e
  | node k o ds =>
   cases k with
   | tup =>
    have e : ZaX lk is ds δ = .ok (u, δ') := e
    cases r with
    | own n r l =>
     rename_i a _ _
     have := l a
     simp [one] at this
    | shd n r =>
     obtain ⟨hl, hq⟩ := Zdh (Q := Q) e r s fun σ' k z => q σ' k (z.mono fun b => by simp)
     exact ⟨_, _, rfl, .inl (.inl (.inl (hs _ _ n))), hl, hq⟩
   | _ => cases e
theorem ZkK (h : ∀ j, a ≠ .v j) : Zn a c = c.bnd fun d => M.ret (.tmp d) := by
 cases a <;> first | rfl | exact absurd rfl (h _)
theorem Zd0 : ∀ {ps : List Op} {δ δ' : List D} {h : List W × List (Nat × D)}, Z0 ps δ = .ok (h, δ') -> ∀ q ∈ h.2, .late q.1 ∈ ps
 | [], δ, δ', h, e, q, hq => by
  have := Zh (show T.M.ret (([] : List W), ([] : List (Nat × D))) δ = .ok (h, δ') from e)
  cases this
  simp at hq
 | p :: ps, δ, δ', h, e, q, hq => by
  obtain ⟨w, δ1, e1, e2⟩ := Zc e
  obtain ⟨ws, δ2, e3, e4⟩ := Zc e2
  have := Zh e4
  cases this
  rcases List.mem_append.mp hq with h | h
  . have : p = .late q.1 := by
     cases p with
     | tmp d => cases d <;> cases e1 <;> simp at h
     | late i =>
      unfold Zai at e1
      dsimp only at e1
      split at e1 <;> cases e1 <;> simp at h
      subst h
      rfl
    rw [this]
    exact List.mem_cons_self
  . exact List.mem_cons_of_mem _ (Zd0 e3 q h)
def HWs (cs : M (List Op)) (lk : Nat -> Bool) : Prop := ∀ δ h δ', (cs.bnd Z0) δ = .ok (h, δ') -> ∀ q ∈ h.2, lk q.1 = true
def LkLe (lk lk' : Nat -> Bool) : Prop := ∀ i, lk i = true -> lk' i = true
theorem Za0 (lk f : Nat -> Bool) : LkLe lk (fun j => lk j || f j) := fun i h => by
 show (lk i || f i) = true
 rw [h]
 rfl
section
theorem Zaf (hp : PassesOwn (model X.prog X.w) X.A X.env X.xe) (hc : X.calm = true) (hl : LkLe lk lk') (hw : HWs cs lk')
 (hi : PI X tg iter (tI X.K ik cs)) (hg : PG X tg (gT X.K tgt)) (hb : PSs X body (tS X.K lk' cb)) (hs : ∀ x, foldedSetIterable iter X.env x = pure x := by intro _; rfl) :
 PS X (.For tg iter body [] pos) (tS X.K lk (cs.bnd fun ps => (Z0 ps).bnd fun h => (lift (itW ik h.1)).bnd fun items => (forL (asgT lk' tgt) cb items).bnd fun f => (ZT h.2).bnd fun _ => M.ret f)) :=
 PS.imp (ZlD hp hc hi hg hb hs) fun E σ H h => by
 obtain ⟨δ, Hs, M, f, δ', g, s, ea, q⟩ := h
 obtain ⟨ps, δ1, e1, eb⟩ := Zc ea
 obtain ⟨hh, δ2, e2, ec⟩ := Zc eb
 obtain ⟨items, δ3, e3, ed⟩ := Zc ec
 obtain ⟨e3', rfl⟩ := Z9 e3
 obtain ⟨f1, δ4, e4, ee⟩ := Zc ed
 obtain ⟨u, δ5, e5, e6⟩ := Zc ee
 have := Zh e6
 cases this
 have e12 : (cs.bnd Z0) δ = .ok (hh, δ3) := by
  show T.M.bnd cs Z0 δ = _
  unfold T.M.bnd
  rw [e1]
  exact e2
 have locked := hw _ _ _ e12
 refine ⟨δ, Hs, M, hh, items, δ3, g, s, e12, e3', fun J Pp H1 Hs1 B M1 g1 st1 s1 held wk pp => ?_⟩
 have kl : ∀ {σ1 σ2 : St}, Keeps lk' σ1 σ2 -> Keeps lk σ1 σ2 := fun k i h => k i (hl i h)
 refine ⟨fun i m σ2 H2 => m = items.length - i /\ i <= items.length /\ Keeps lk' σ σ2 /\ ∃ (δ2 : List D) (Hs2 : Hp) (M2 : Bud), Good H2 Hs2 (fun b => B b + M2 b) /\ Stp H Hs M H2 Hs2 (fun b => B b + M2 b) /\ RepS X.K H2 Hs2 σ2 δ2 M2 /\ Held X.K H2 Hs2 σ2 hh.2 B /\ Pp H2 Hs2 /\ forL (asgT lk' tgt) cb (items.drop i) δ2 = .ok (f, δ4),
  ⟨items.length, by simp, Nat.zero_le _, Keeps.refl _ _, δ3, Hs1, M1, g1, st1, s1, held, pp, by rw [List.drop_zero]; exact e4⟩, ?_⟩
 rintro i m σ2 H2 ⟨rfl, hle, k2, δ2, Hs2, M2, g2, st2, s2, held2, pp2, e7⟩
 have fin_nx : ∀ {σ3 : St} {H3 Hs3 : Hp} {M3 : Bud}, f = .nx -> Keeps lk' σ σ3 -> Good H3 Hs3 (fun b => B b + M3 b) -> Stp H Hs M H3 Hs3 (fun b => B b + M3 b) -> RepS X.K H3 Hs3 σ3 δ4 M3 -> Held X.K H3 Hs3 σ3 hh.2 B -> E.nx σ3 H3 := fun {σ3 H3 Hs3 M3} ef k3 g3 st3 s3 held3 => by
  subst ef
  exact q σ3 H3 Hs3 _ (kl k3) g3 st3 (Zc0 e5 held3 s3)
 by_cases hlt : i < items.length
 . right
   have hd : items[i]? = some (items[i]'(by omega)) := List.getElem?_eq_getElem (by omega)
   have hdrop : items.drop i = items[i]'(by omega) :: items.drop (i + 1) := List.drop_eq_getElem_cons (by omega)
   rw [hdrop] at e7
   obtain ⟨u1, δ5', e8, e9⟩ := Zc e7
   obtain ⟨fl, δ6, e10, e11⟩ := Zc e9
   refine ⟨wk.go g2.sub pp2 hlt, fun σ3 H3 => Keeps lk' σ σ3 /\ ∃ (δ2 : List D) (Hs2 : Hp) (M2 : Bud), Good H3 Hs2 (fun b => B b + M2 b) /\ Stp H Hs M H3 Hs2 (fun b => B b + M2 b) /\ RepS X.K H3 Hs2 σ3 δ2 M2 /\ Held X.K H3 Hs2 σ3 hh.2 B /\ Pp H3 Hs2 /\ forL (asgT lk' tgt) cb (items.drop (i + 1)) δ2 = .ok (f, δ4),
    fun σ3 H3 ⟨k3, z⟩ => ⟨items.length - (i + 1), by omega, rfl, hlt, k3, z⟩, fun x H' y => ?_⟩
   obtain ⟨Hs3, gr, rv⟩ := wk.yld g2.sub pp2 hd y
   obtain ⟨sm, fr, _⟩ := gr.same g2.sub
   have pp2 := wk.stay pp2 sm fun b _ n => fr b n
   have s2 := RepS.frame sm (fun b _ n => fr b n) s2
   have held2 := held2.frame sm fun b _ n => fr b n
   have st2 := gr.stp g2 st2
   have g2 := gr.good g2
   clear gr sm fr y
   generalize Hs3 = Hs2 at *
   refine Zg9 (Hs := Hs2) g2.sub e8 rv s2 fun σ3 k3 s3 => ?_
   refine ⟨δ5', Hs2, M2, fl, δ6, g2.re, s3, e10, ?_⟩
   have held3 : Held X.K H' Hs2 σ3 hh.2 B := held2.keeps k3 locked
   have nxt : ∀ {σ4 : St} {H4 Hs4 : Hp} {M4 : Bud}, Keeps lk' σ3 σ4 -> Good H4 Hs4 M4 -> Stp H' Hs2 M2 H4 Hs4 M4 ->
    Keeps lk' σ σ4 /\ Good H4 Hs4 (fun b => B b + M4 b) /\ Stp H Hs M H4 Hs4 (fun b => B b + M4 b) /\ Held X.K H4 Hs4 σ4 hh.2 B /\ Pp H4 Hs4 := fun {σ4 H4 Hs4 M4} k4 g4 st4 => by
    obtain ⟨G, S, kk⟩ := Zq g g2 st2 g4 st4
    exact ⟨k2.trans (k3.trans k4), G, S, (held3.keeps k4 locked).frame st4.grow kk, wk.stay pp2 st4.grow kk⟩
   cases fl with
   | nx =>
    refine fun σ4 H4 Hs4 M4 k4 g4 st4 s4 => ?_
    obtain ⟨a1, a2, a3, a4, a6⟩ := nxt k4 g4 st4
    exact ⟨a1, δ6, Hs4, M4, a2, a3, s4, a4, a6, e11⟩
   | ct =>
    refine fun σ4 H4 Hs4 M4 k4 g4 st4 s4 => ?_
    obtain ⟨a1, a2, a3, a4, a6⟩ := nxt k4 g4 st4
    exact ⟨a1, δ6, Hs4, M4, a2, a3, s4, a4, a6, e11⟩
   | bk =>
    refine fun σ4 H4 Hs4 M4 k4 g4 st4 s4 => ?_
    obtain ⟨a1, a2, a3, a4, a6⟩ := nxt k4 g4 st4
    have := Zh e11
    cases this
    exact fin_nx rfl a1 a2 a3 s4 a4
   | rt d =>
    refine fun v σ4 H4 Hs4 m4 M4 k4 g4 st4 rd s4 => ?_
    obtain ⟨a1, a2, a3, a4, a6⟩ := nxt k4 g4 st4
    have := Zh e11
    cases this
    exact q v σ4 H4 Hs4 m4 (fun b => B b + M4 b) (kl a1) (a2.re fun b => by (try dsimp only); omega) (a3.drop (fun b => by (try dsimp only); omega) a2.le) rd (Zc0 e5 a4 s4)
 . left
   have e0 : items.drop i = [] := List.drop_of_length_le (by omega)
   rw [e0] at e7
   have := Zh e7
   cases this
   exact ⟨wk.stop g2.sub pp2 (by omega), fin_nx rfl k2 g2 st2 s2 held2⟩
end
theorem RepS.toL : ∀ {vs : List V} {ds : List D} {m : Bud}, RepS K H Hs (vs.map some) ds m -> RepL K H Hs vs ds m
 | [], _, _, h => by cases h; exact .nil _
 | v :: vs, _, _, h => by
  cases h with
  | cons x y l =>
   refine .cons ?_ (RepS.toL y) l
   rcases x with rfl | ⟨w, e, r⟩
   . exact .hole _ _
   . cases e
     exact r
end T
namespace T
open PySem PySem.Spec L2
section
theorem Zhf (hn : vs.length = n) (k : Keeps (fun i => decide (i < n)) (L2.start N vs) σ') : σ'.take n = vs.map some := by
 apply List.ext_getElem?
 intro i
 by_cases hi : i < n
 . rw [List.getElem?_take_of_lt hi, k i (by simpa using hi)]
   unfold L2.start
   rw [List.getElem?_append_left (by rw [List.length_map]; omega)]
 . rw [List.getElem?_eq_none (by rw [List.length_take]; omega), List.getElem?_eq_none (by rw [List.length_map]; omega)]
theorem Zik (r : RepL K H Hs vs ds m) : RepS K H Hs (L2.start N vs) (ds ++ List.replicate (N.length - ds.length) .hole) m := by
 unfold L2.start
 rw [r.len]
 have z := Sep.append (RepL.slots r) (holes (K := K) (H := H) (Hs := Hs) (fun _ => none) (N.length - ds.length) (fun _ => 0) (List.replicate (N.length - ds.length) none) (by simp))
 exact z.mono fun b => by simp
theorem Zmo (F : FunV dV K x qual st f fd) (Sc : FnScope N ps (Zy st))
 (hb : ∀ (cdv : Value) (A : Around) (outer : List Env) (s : Shared) (H : Hp) (E : XK), Room k (A.deeper (PyProof.Rows.envOfC qual (Zy st) s.heap.objs.size f cdv)) ->
  PSs (cxOf CX0 P w K mg base N qual (Zy st) f cdv A outer s H E).nox (Zan st) (tS K (fun i => decide (i < ps.length)) (exs { C with lock := fun i => decide (i < ps.length) } body))) :
 FnOk P w K mg base CX0 (k + 1) f fd ps (spF K (Zs C ps.length N.length body)) := by
 refine F.ok Sc (fun vs H Q E h => ?_) (fun cdv A outer s H vs Q E hr h => ⟨_, hb cdv A outer s H E hr, ?_⟩)
 . obtain ⟨ds, Hs, m, d, ds', g, r, e, q⟩ := h
   unfold Zs at e
   split at e
   . rename_i hl
     rw [r.len]
     exact hl
   . cases e
 . obtain ⟨ds, Hs, m, d, ds', g, r, e, q⟩ := h
   unfold Zs at e
   split at e
   . rename_i hl
     have hv : vs.length = ps.length := by rw [r.len]; exact hl
     have hr0 := Zik (N := N) r
     rw [hl] at hr0
     cases he : exs { C with lock := fun i => decide (i < ps.length) } body (ds ++ List.replicate (N.length - ps.length) .hole) with
     | ok z =>
      obtain ⟨fl, δ'⟩ := z
      rw [he] at e
      refine ⟨_, Hs, m, fl, δ', g, hr0, he, ?_⟩
      have back : ∀ {σ' : St} {H' Hs' : Hp} {M' : Bud}, Keeps (fun i => decide (i < ps.length)) (L2.start N vs) σ' -> RepS K H' Hs' σ' δ' M' -> RepL K H' Hs' vs (δ'.take ps.length) M' := fun k' s' => by
       have z := s'.take ps.length
       rw [Zhf hv k'] at z
       exact RepS.toL z
      cases fl with
      | nx =>
       cases e
       exact fun σ' H' Hs' M' k' g' st' s' => q .non H' Hs' (fun _ => 0) M' (Zaq g') (st'.drop (fun b => by simp) g'.le) (.sc _ _) (back k' s')
      | rt dd =>
       cases e
       exact fun v σ' H' Hs' m1 M' k' g' st' rv s' => q v H' Hs' m1 M' g' st' rv (back k' s')
      | bk => cases e
      | ct => cases e
     | exc x y => rw [he] at e; cases e
     | stuck => rw [he] at e; cases e
   . cases e
theorem Zdj (F : FunV dV K x qual st f fd) (Sc : FnScope N ps (Zy st)) (hn : ps.length = n) (hN : N.length = nN)
 (hb : ∀ (cdv : Value) (A : Around) (outer : List Env) (s : Shared) (H : Hp) (E : XK), Room k (A.deeper (PyProof.Rows.envOfC qual (Zy st) s.heap.objs.size f cdv)) ->
  PSs (cxOf CX0 P w K mg base N qual (Zy st) f cdv A outer s H E).nox (Zan st) (tS K (fun i => decide (i < n)) (exs { C with lock := fun i => decide (i < n) } body))) :
 FnOk P w K mg base CX0 (k + 1) f fd ps (spF K (Zs C n nN body)) := by
 subst hn hN
 exact Zmo F Sc hb
end
end T
namespace T
open PySem PySem.Spec L2
theorem ZdQ : ∀ {js : List Nat} {δ δ' : List D} {caps : List D} {M : Bud}, Zcd js δ = .ok (caps, δ') -> RepS K H Hs σ δ M -> ∃ mc M', RepS K H Hs (ZaW js σ) caps mc /\ RepS K H Hs σ δ' M' /\ (∀ b, mc b + M' b <= M b) /\ ∀ j ∈ js, j < σ.length
 | [], δ, δ', caps, M, e, s => by
  have := Zh e
  cases this
  exact ⟨fun _ => 0, M, .nil _, s, fun b => by simp, fun j hj => by simp at hj⟩
 | j :: js, δ, δ', caps, M, e, s => by
  unfold Zcd at e
  split at e
  . rename_i d hd
    obtain ⟨ds, δ1, e1, e2⟩ := Zc e
    have := Zh e2
    cases this
    obtain ⟨o, m1, m2, q1, q2, l, f⟩ := s.focus hd
    have z := f (RepO K H Hs) o .hole (fun _ => 0) (fun a d m' _ q => q) (.inl rfl)
    rw [ZC q1] at z
    obtain ⟨mc, M', h1, h2, h3, h4⟩ := ZdQ e1 z
    refine ⟨fun b => m1 b + mc b, M', ?_, h2, fun b => by have := l b; have := h3 b; dsimp only at *; omega, fun i hi => ?_⟩
    . rw [Zdz]
      have ho : (σ[j]?).join = o := by rw [q1]; rfl
      rw [ho]
      exact .cons q2 h1 fun b => Nat.le_refl _
    . rcases List.mem_cons.mp hi with rfl | hi
      . exact (List.getElem?_eq_some_iff.mp q1).1
      . exact h4 i hi
  . cases e
theorem ZaL (caps : List D) : ZaS [] caps = M.ret () := by cases caps <;> rfl
theorem Zf2 (j : Nat) (js : List Nat) (d : D) (ds δ : List D) : ZaS (j :: js) (d :: ds) δ = ZaS js ds (δ.set j d) := rfl
theorem Zhg (js : List Nat) : ∀ (caps δ δ' : List D) (mc M : Bud) (u : Unit), (∀ j ∈ js, j < σ.length) -> ZaS js caps δ = .ok (u, δ') -> RepS K H Hs (ZaW js σ) caps mc -> RepS K H Hs σ δ M -> RepS K H Hs σ δ' (fun b => mc b + M b) := by
 induction js with
 | nil =>
  intro caps δ δ' mc M u hj e c s
  rw [ZaL] at e
  have := Zh e
  cases this
  exact s.mono fun b => by omega
 | cons j js ih =>
  intro caps δ δ' mc M u hj e c s
  rw [Zdz] at c
  cases c with
  | @cons _ d _ ds m1 m2 _ x y l =>
   rw [Zf2] at e
   have hlt := hj j List.mem_cons_self
   have hlt2 : j < δ.length := by rw [<- s.length]; exact hlt
   obtain ⟨o, n1, n2, q1, q2, l2, f⟩ := s.focus (List.getElem?_eq_getElem hlt2)
   have ho : (σ[j]?).join = o := by rw [q1]; rfl
   rw [ho] at x
   have z := f (RepO K H Hs) o d m1 (fun a d m' _ q => q) x
   rw [ZC q1] at z
   have fin := ih ds (δ.set j d) δ' m2 _ u (fun i hi => hj i (List.mem_cons_of_mem _ hi)) e y z
   exact fin.mono fun b => by have := l b; have := l2 b; (try dsimp only); omega
theorem Zjh {H Hs H0 Hs0 : Hp} {M0 N : Bud} {A : Addr} {o : HO} (hA0 : H0 A = none) (hA : Hs A = none) (g : Good H Hs (fun b => one A b + N b)) (st : Stp H0 Hs0 M0 H Hs (fun b => one A b + N b)) : Good (upd H A o) Hs (fun b => one A b + N b) /\ Stp H0 Hs0 M0 (upd H A o) Hs (fun b => one A b + N b) /\ ∀ b, N b ≥ 1 -> upd H A o b = H b := by
 have hn : N A = 0 := by have : one A A + N A <= 1 := g.le A; simp [one] at this; omega
 have ne : ∀ b, b ≠ A -> upd H A o b = H b := fun b hb => Zm hb
 refine ⟨⟨fun b u e => ?_, g.le, g.ne, fun b h => ?_⟩, ⟨fun b u e z => ?_, st.own, st.grow, st.shr, fun b h => ?_⟩, fun b hb => ne b fun q => by subst q; omega⟩
 . have hb : b ≠ A := fun q => by subst q; rw [hA] at e; cases e
   rw [ne b hb]
   exact g.sub b u e
 . by_cases hb : b = A
   . subst hb; rw [Zl]; simp
   . rw [ne b hb]; exact g.has b h
 . have hb : b ≠ A := fun q => by subst q; rw [hA0] at e; cases e
   rw [ne b hb]
   exact st.keep b u e z
 . by_cases hb : b = A
   . subst hb; rw [Zl]; simp
   . rw [ne b hb]; exact st.stay b h
theorem ZgA
 (h : tM K (cs.bnd fun ps => (Z0 ps).bnd fun h => (lift (itW ik h.1)).bnd fun items => (Zap k js (Zae (asgT (fun i => decide (k <= i)) tgt) cc celt items [])).bnd fun d => (ZT h.2).bnd fun _ => M.ret d) σ H Q) :
 ZeS k js (tI K ik cs) (gT K tgt) (tT K cc) (tM K celt) σ H Q := by
 obtain ⟨δ, Hs, M, d, δ', g, s, ea, q⟩ := h
 obtain ⟨ps, δ1, e1, eb⟩ := Zc ea
 obtain ⟨hh, δ2, e2, ec⟩ := Zc eb
 obtain ⟨items, δ3, e3, ed⟩ := Zc ec
 obtain ⟨e3', rfl⟩ := Z9 e3
 obtain ⟨dd, δ4, e4, ee⟩ := Zc ed
 obtain ⟨u, δ5, e5, e6⟩ := Zc ee
 have := Zh e6
 cases this
 have e12 : (cs.bnd Z0) δ = .ok (hh, δ3) := by
  show T.M.bnd cs Z0 δ = _
  unfold T.M.bnd
  rw [e1]
  exact e2
 refine ⟨δ, Hs, M, hh, items, δ3, g, s, e12, e3', fun J Pp H1 Hs1 B M1 g1 st1 s1 held wk pp A hA => ?_⟩
 unfold Zap at e4
 obtain ⟨caps, δ6, e7, e8⟩ := Zc e4
 obtain ⟨mc, M2, c1, c2, c3, c4⟩ := ZdQ e7 s1
 have hA0 : H A = none := by
  cases q : H A with
  | none => rfl
  | some o => exact absurd hA (st1.stay A (by rw [q]; simp))
 cases hL : Zae (asgT (fun i => decide (k <= i)) tgt) cc celt items [] (List.replicate k .hole ++ caps) with
 | exc x y => rw [hL] at e8; cases e8
 | stuck => rw [hL] at e8; cases e8
 | ok r =>
 obtain ⟨accF, δF⟩ := r
 rw [hL] at e8
 obtain ⟨u2, δ7, e9, e10⟩ := Zc e8
 obtain ⟨e11, rfl⟩ := Z9 e10
 have hs1A : Hs1 A = none := by
  cases q : Hs1 A with
  | none => rfl
  | some o => rw [g1.sub A o q] at hA; cases hA
 have zA : B A = 0 /\ M1 A = 0 := by
  have l : B A + M1 A <= 1 := g1.le A
  have : B A + M1 A ≠ 1 := fun e => g1.has A e hA
  omega
 have z2 : mc A = 0 /\ M2 A = 0 := by have := c3 A; omega
 have fr : ∀ b, b ≠ A -> upd H1 A (.lst []) b = H1 b := fun b hb => Zm hb
 have g2 : Good (upd H1 A (.lst [])) Hs1 (fun b => (one A b + (B b + M2 b)) + mc b) := by
  refine ⟨fun b o e => ?_, fun b => ?_, fun b hb => ?_, fun b hb => ?_⟩
  . have hb : b ≠ A := fun q => by subst q; rw [hs1A] at e; cases e
    rw [fr b hb]; exact g1.sub b o e
  . have l : B b + M1 b <= 1 := g1.le b
    have := c3 b
    unfold one
    (try dsimp only)
    split
    . rename_i e; subst e; omega
    . omega
  . by_cases e : b = A
    . subst e; exact hs1A
    . have hb : (one A b + (B b + M2 b)) + mc b = 1 := hb
      simp only [one, if_neg e] at hb
      have l : B b + M1 b <= 1 := g1.le b
      have := c3 b
      exact g1.ne b (by show B b + M1 b = 1; omega)
  . by_cases e : b = A
    . subst e; rw [Zl]; simp
    . rw [fr b e]
      have hb : (one A b + (B b + M2 b)) + mc b = 1 := hb
      simp only [one, if_neg e] at hb
      have l : B b + M1 b <= 1 := g1.le b
      have := c3 b
      exact g1.has b (by show B b + M1 b = 1; omega)
 have st2 : Stp H Hs M (upd H1 A (.lst [])) Hs1 (fun b => (one A b + (B b + M2 b)) + mc b) := by
  refine ⟨fun b o e z => ?_, fun b hb => ?_, st1.grow, st1.shr, fun b hb => ?_⟩
  . have hb : b ≠ A := fun q => by subst q; rw [hA0] at e; cases e
    rw [fr b hb]; exact st1.keep b o e z
  . by_cases e : b = A
    . subst e; exact .inr hA0
    . have hb : (one A b + (B b + M2 b)) + mc b = 1 := hb
      simp only [one, if_neg e] at hb
      have l : B b + M1 b <= 1 := g1.le b
      have := c3 b
      exact st1.own b (by show B b + M1 b = 1; omega)
  . by_cases e : b = A
    . subst e; rw [Zl]; simp
    . rw [fr b e]; exact st1.stay b hb
 have keepA : ∀ (N : Bud), N A = 0 -> ∀ b, N b ≥ 1 -> H1 b ≠ none -> upd H1 A (.lst []) b = H1 b := fun N hN b hb _ => fr b fun q => by subst q; omega
 refine ⟨fun i m σ2 ys H2 => m = items.length - i /\ i <= items.length /\ Keeps (fun i => decide (k <= i)) (ZaH k js σ) σ2 /\ ∃ (δ2 : List D) (Hs2 : Hp) (N ma : Bud) (acc : List D), Good H2 Hs2 (fun b => (one A b + (B b + M2 b + ma b)) + N b) /\ Stp H Hs M H2 Hs2 (fun b => (one A b + (B b + M2 b + ma b)) + N b) /\ RepS K H2 Hs2 σ2 δ2 N /\
  RepL K H2 Hs2 ys acc ma /\ RepS K H2 Hs2 σ δ6 M2 /\ Held K H2 Hs2 σ hh.2 B /\ Pp H2 Hs2 /\ Zae (asgT (fun i => decide (k <= i)) tgt) cc celt (items.drop i) acc δ2 = .ok (accF, δF),
  ⟨items.length, by simp, Nat.zero_le _, Keeps.refl _ _, List.replicate k .hole ++ caps, Hs1, mc, fun _ => 0, [], g2.re fun b => by (try dsimp only); omega, st2.drop (fun b => by (try dsimp only); omega) g2.le, ?_, .nil _, c2.frame (Same.refl _) (keepA M2 z2.2), held.frame (Same.refl _) (keepA B zA.1), wk.stay pp (Same.refl _) (keepA B zA.1), by rw [List.drop_zero]; exact hL⟩, ?_⟩
 . have z := Sep.append (holes (K := K) (H := H1) (Hs := Hs1) (fun _ => none) k (fun _ => 0) (List.replicate k none) (by simp)) c1
   exact RepS.frame (Same.refl _) (keepA mc z2.1) (z.mono fun b => by simp)
 rintro i m σ2 ys H2 ⟨rfl, hle, k2, δ2, Hs2, N, ma, acc, g3, st3, s3, ra, so, held2, pp2, e13⟩ hD
 have hsA : Hs2 A = none := g3.ne A (by have := g3.le A; (try dsimp only at this ⊢); simp only [one, if_pos] at this ⊢; omega)
 by_cases hlt : i < items.length
 . right
   have hd : items[i]? = some (items[i]'(by omega)) := List.getElem?_eq_getElem (by omega)
   have hdrop : items.drop i = items[i]'(by omega) :: items.drop (i + 1) := List.drop_eq_getElem_cons (by omega)
   rw [hdrop] at e13
   obtain ⟨u3, δ8, e14, e15⟩ := Zc e13
   obtain ⟨t, δ9, e16, e17⟩ := Zc e15
   refine ⟨wk.go g3.sub pp2 hlt, fun x H' y => ?_⟩
   obtain ⟨Hs3, gr, rv⟩ := wk.yld g3.sub pp2 hd y
   obtain ⟨sm, fr, _⟩ := gr.same g3.sub
   have pp2 := wk.stay pp2 sm fun b _ n => fr b n
   have s3 := RepS.frame sm (fun b _ n => fr b n) s3
   have so := RepS.frame sm (fun b _ n => fr b n) so
   have ra := ra.frame sm fun b _ n => fr b n
   have held2 := held2.frame sm fun b _ n => fr b n
   have hD : H' A = some (.lst ys) := (fr A (by rw [hD]; simp)).trans hD
   have st3 := gr.stp g3 st3
   have g3 := gr.good g3
   clear gr sm fr y hsA
   generalize Hs3 = Hs2 at *
   generalize H' = H2 at *
   refine Zg9 (Hs := Hs2) g3.sub e14 rv s3 fun σ3 k3 s4 => ?_
   refine ⟨δ8, Hs2, N, t, δ9, g3.re fun b => by (try dsimp only); omega, s4, e16, fun H4 Hs4 M4 g4 st4 s5 => ?_⟩
   obtain ⟨G, S, kk⟩ := Zq (m1 := fun b => one A b + (B b + M2 b + ma b)) g g3 st3 g4 st4
   have kA : H4 A = some (.lst ys) := by rw [<- hD]; exact kk A (by simp [one]) (by rw [hD]; simp)
   have ra4 := ra.frame st4.grow fun b hb => kk b (by (try dsimp only); omega)
   have so4 := RepS.frame st4.grow (fun b hb => kk b (by (try dsimp only); omega)) so
   have held4 := held2.frame st4.grow fun b hb => kk b (by (try dsimp only); omega)
   have pp4 := wk.stay pp2 st4.grow fun b hb => kk b (by (try dsimp only); omega)
   have lmeas : items.length - (i + 1) < items.length - i := by omega
   cases t with
   | false =>
    dsimp only
    rw [if_neg Bool.false_ne_true]
    exact ⟨kA, _, lmeas, rfl, hlt, k2.trans k3, δ9, Hs4, M4, ma, acc, G, S, s5, ra4, so4, held4, pp4, e17⟩
   | true =>
    dsimp only
    rw [if_pos rfl]
    rw [if_pos rfl] at e17
    obtain ⟨xd, δ10, e18, e19⟩ := Zc e17
    refine ⟨δ9, Hs4, M4, xd, δ10, g4, s5, e18, fun yv H5 Hs5 m5 M5 g5 st5 r5 s6 => ?_⟩
    obtain ⟨G5, S5, kk5⟩ := Zq (m1 := fun b => one A b + (B b + M2 b + ma b)) g G S g5 st5
    have kA5 : H5 A = some (.lst ys) := by rw [<- kA]; exact kk5 A (by simp [one]) (by rw [kA]; simp)
    have hsz : ys.length < sizeLine := by
     have e20 : accF.length <= sizeLine := by
      unfold newL at e11
      split at e11
      . rename_i hz; exact hz
      . cases e11
     have grow : ∀ (its acc : List D) (δ : List D) (r : List D × List D), Zae (asgT (fun i => decide (k <= i)) tgt) cc celt its acc δ = .ok r -> acc.length <= r.1.length := by
      intro its
      induction its with
      | nil => intro acc δ r e; have := Zh e; subst this; exact Nat.le_refl _
      | cons a its ih =>
       intro acc δ r e
       obtain ⟨_, _, _, f1⟩ := Zc e
       obtain ⟨tt, _, _, f2⟩ := Zc f1
       cases tt with
       | false => exact ih _ _ _ f2
       | true =>
        rw [if_pos rfl] at f2
        obtain ⟨_, _, _, f3⟩ := Zc f2
        have := ih _ _ _ f3
        rw [List.length_append, List.length_singleton] at this
        omega
     have := grow _ _ _ _ e19
     dsimp only at this
     rw [List.length_append, List.length_singleton] at this
     have := ra.len
     omega
    have hsA5 : Hs5 A = none := G5.ne A (by have := G5.le A; (try dsimp only at this ⊢); simp only [one, if_pos] at this ⊢; omega)
    have G5' : Good H5 Hs5 (fun b => one A b + (B b + M2 b + ma b + (m5 b + M5 b))) := G5.re fun b => by (try dsimp only); omega
    obtain ⟨G6, S6, k6⟩ := Zjh (o := .lst (ys ++ [yv])) hA0 hsA5 G5' (S5.drop (fun b => by (try dsimp only); omega) G5.le)
    have fr6 : ∀ (R : Bud), (∀ b, R b <= B b + M2 b + ma b + (m5 b + M5 b)) -> ∀ b, R b ≥ 1 -> H5 b ≠ none -> upd H5 A (.lst (ys ++ [yv])) b = H5 b := fun R hR b hb _ => k6 b (by have := hR b; omega)
    refine ⟨kA5, hsz, _, lmeas, rfl, hlt, k2.trans k3, δ10, Hs5, M5, fun b => ma b + m5 b, acc ++ [xd], G6.re fun b => by (try dsimp only); omega, S6.drop (fun b => by (try dsimp only); omega) G6.le, RepS.frame (Same.refl _) (fr6 M5 fun b => by omega) s6, ?_, ?_, ?_, ?_, e19⟩
    . exact RepL.frame (Same.refl _) (fr6 _ fun b => by (try dsimp only); omega) ((ra4.frame st5.grow fun b hb => kk5 b (by (try dsimp only); omega)).app (.cons r5 (.nil (fun _ => 0)) fun b => by simp))
    . exact RepS.frame (Same.refl _) (fr6 M2 fun b => by omega) (RepS.frame st5.grow (fun b hb => kk5 b (by (try dsimp only); omega)) so4)
    . exact (held4.frame st5.grow fun b hb => kk5 b (by (try dsimp only); omega)).frame (Same.refl _) (fr6 B fun b => by omega)
    . exact wk.stay (wk.stay pp4 st5.grow fun b hb => kk5 b (by (try dsimp only); omega)) (Same.refl _) (fr6 B fun b => by omega)
 . left
   have e0 : items.drop i = [] := List.drop_of_length_le (by omega)
   rw [e0] at e13
   have := Zh e13
   cases this
   refine ⟨wk.stop g3.sub pp2 (by omega), ?_⟩
   have hdrop : σ2.drop k = ZaW js σ := by
    have hl2 : σ2.length = δF.length := s3.length
    apply List.ext_getElem?
    intro j
    rw [List.getElem?_drop, k2 (k + j) (by simp)]
    unfold ZaH
    rw [List.getElem?_append_right (by simp)]
    simp
   have sd := s3.drop k
   rw [hdrop] at sd
   have so' := Zhg js _ _ _ _ _ _ c4 e9 sd so
   unfold newL at e11
   split at e11
   . cases e11
     have rD : Rep K H2 Hs2 (.ref A) (.node .lst true accF) (fun b => one A b + ma b) := .own hD ra fun b => Nat.le_refl _
     exact q _ H2 Hs2 (fun b => one A b + ma b) (fun b => B b + (N b + M2 b)) (g3.re fun b => by (try dsimp only); omega) (st3.drop (fun b => by (try dsimp only); omega) g3.le) rD (Zc0 e5 held2 so')
   . cases e11
section
theorem PIf.imp (h : PIf X ifs t) (w : ∀ σ H Q, t' σ H Q -> t σ H Q) : PIf X ifs t' := fun pins s σ H Q I q => h pins s σ H Q I (w σ H Q q)
theorem Zch : PIf X [] (tT X.K (M.ret true)) := PIf.imp Zk4 fun σ H Q h => ZdL h
theorem Zdk (hc : X.calm = true) (S : CompScope X k js N' scope) (hi : PI X tg iter (tI X.K ik cs))
 (hin : ∀ (cl : List (Str × Addr)) (C : Addr) (s₀ : Shared) (H₀ : Hp) (ex : List Addr), PG (cxC X N' scope cl C s₀ H₀ ex) tg (gT X.K tgt) /\ PIf (cxC X N' scope cl C s₀ H₀ ex) ifs (tT X.K cc) /\ PE (cxC X N' scope cl C s₀ H₀ ex) elt (tM X.K celt))
 (hs : ∀ x, foldedSetIterable iter X.env x = pure x := by intro _; rfl) :
 PE X (.ListComp elt [⟨tg, iter, ifs, 0⟩] scope pos) (tM X.K (cs.bnd fun ps => (Z0 ps).bnd fun h => (lift (itW ik h.1)).bnd fun items => (Zap k js (Zae (asgT (fun i => decide (k <= i)) tgt) cc celt items [])).bnd fun d => (ZT h.2).bnd fun _ => M.ret d)) :=
 PE.imp (Zk5 hc S hi hin hs) fun σ H Q h => ZgA h
theorem ZkL (h : Zx sc N i x false = true) (nd : N.Nodup) (hw : ZcL sc scope x = true) (hc : X.calm = true) (S : CompScope X k js N' scope) (hi : PI X tg iter (tI X.K ik cs))
 (hin : ∀ (cl : List (Str × Addr)) (C : Addr) (s₀ : Shared) (H₀ : Hp) (ex : List Addr), PG (cxC X N' scope cl C s₀ H₀ ex) tg (gT X.K tgt) /\ PIf (cxC X N' scope cl C s₀ H₀ ex) ifs (tT X.K cc) /\ PE (cxC X N' scope cl C s₀ H₀ ex) elt (tM X.K celt))
 (hl : (pos'.line == pos.line) = true := by rfl) (e1 : X.env.scope = sc := by rfl) (e2 : X.N = N := by rfl) (hs : ∀ x, foldedSetIterable iter X.env x = pure x := by intro _; rfl) :
 PS X (.Assign [.Name x pos'] (.ListComp elt [⟨tg, iter, ifs, 0⟩] scope pos) spos) (tS X.K lk ((cs.bnd fun ps => (Z0 ps).bnd fun h => (lift (itW ik h.1)).bnd fun items => (Zap k js (Zae (asgT (fun i => decide (k <= i)) tgt) cc celt items [])).bnd fun d => (ZT h.2).bnd fun _ => M.ret d).bnd fun d => (asgN lk i d).bnd fun _ => M.ret .nx)) :=
 PS.imp (Zjd h nd hw hc S hi hin hl e1 e2 hs) fun E σ H hh => by
 obtain ⟨δ, Hs, M, f, δ', g, s, e, q⟩ := hh
 obtain ⟨d, δ1, e1, e2⟩ := Zc e
 obtain ⟨u, δ2, e3, e4⟩ := Zc e2
 have := Zh e4
 cases this
 obtain ⟨h1, h2, rfl⟩ := Zdg e3
 exact ZgA ⟨δ, Hs, M, d, δ1, g, s, e1, fun v H' Hs' m M' g' st' r s' => q _ H' Hs' _ (ZbT h2) g' st' (ZbH s' h1 r)⟩
theorem ZkM (h : Zx sc N i x b = true) (nd : N.Nodup) (he : PE X e (tM X.K c)) (hs : swapsWith e (some (.Name x pos')) pos.line X.env = pure false := by rfl) (e1 : X.env.scope = sc := by rfl) (e2 : X.N = N := by rfl)
 (hf : X.fn x = true \/ b = false := by first | exact .inl rfl | exact .inr rfl) : PS X (.Assign [.Name x pos'] e pos) (tS X.K lk (c.bnd fun d => (asgN lk i d).bnd fun _ => M.ret .nx)) := by
 obtain ⟨h1, h2, h3, h4⟩ := Zx.at h
 have l := Zx.loc h
 subst e1 e2
 refine Zmn nd h1 l he hs ?_
 rcases hf with q | q
 . exact .inl q
 . subst q
   exact .inr h2
theorem Zo8 (h : Zx sc N i x b = true) (nd : N.Nodup) (hr : PGs X es (gNs is)) (e1 : X.env.scope = sc := by rfl) (e2 : X.N = N := by rfl) (hf : X.fn x = true \/ b = false := by first | exact .inl rfl | exact .inr rfl)
 (hs : (assignEach (.Name x pos :: es) X.env).map (·.2) = assign (.Name x pos) X.env :: (assignEach es X.env).map (·.2) := by rfl) : PGs X (.Name x pos :: es) (gNs (i :: is)) := by
 obtain ⟨h1, h2, h3, h4⟩ := Zx.at h
 have l := Zx.loc h
 subst e1 e2
 refine ok_g nd h1 l hr ?_ hs
 rcases hf with q | q
 . exact .inl q
 . subst q
   exact .inr h2
theorem Zo9 (h : Zx sc N i x b = true) (nd : N.Nodup) (e1 : X.env.scope = sc := by rfl) (e2 : X.N = N := by rfl) (hf : X.fn x = true \/ b = false := by first | exact .inl rfl | exact .inr rfl) : PG X (.Name x pos) (gT X.K (.name i)) := Zjc h nd e1 e2 hf
end
end T
namespace T
open PySem PySem.Spec L2
def Zb7 (ca : M Op) (lk : Nat -> Bool) : Prop := ∀ δ p δ', ca δ = .ok (p, δ') -> ∀ i, p = .late i -> lk i = true
theorem Zax (h : lk i = true) : Zb7 (ZL i) lk := fun δ p δ' e j hj => by
 unfold ZL at e
 split at e <;> cases e <;> cases hj <;> exact h
theorem Zf3 {c : M D} {lk : Nat -> Bool} : Zb7 (c.bnd fun d => M.ret (.tmp d)) lk := fun δ p δ' e j hj => by
 obtain ⟨d, δ1, e1, e2⟩ := Zc e
 have := Zh e2
 cases this
 cases hj
theorem Zil (e : Zai p δ = .ok (w, δ')) : ∀ q ∈ w.2.toList, p = .late q.1 := fun q hq => by
 cases p with
 | tmp d => cases d <;> cases e <;> simp at hq
 | late i =>
  unfold Zai at e
  dsimp only at e
  split at e <;> cases e <;> simp at hq
  subst hq
  rfl
theorem hw_1 (h : Zb7 ca lk) : HWs (ca.bnd fun p => (M.ret ([] : List Op)).bnd fun ps => M.ret (p :: ps)) lk := fun δ w δ' e q hq => by
 obtain ⟨p, δ1, w1, e1, e2, rfl⟩ := Zhe e
 exact h _ _ _ e1 _ (Zil e2 q hq)
theorem hw_2 (h1 : Zb7 ca lk) (h2 : Zb7 cb lk) : HWs (ca.bnd fun p => (cb.bnd fun p => (M.ret ([] : List Op)).bnd fun ps => M.ret (p :: ps)).bnd fun ps => M.ret (p :: ps)) lk := fun δ w δ' e q hq => by
 obtain ⟨ps, δ1, e1, e2⟩ := Zc e
 obtain ⟨p1, δ2, e3, e4⟩ := Zc e1
 obtain ⟨qs, δ3, e5, e6⟩ := Zc e4
 obtain ⟨p2, δ4, e7, e8⟩ := Zc e5
 obtain ⟨z, δ5, e9, e10⟩ := Zc e8
 have := Zh e9
 cases this
 have := Zh e10
 cases this
 have := Zh e6
 cases this
 have := Zd0 e2 q hq
 rcases List.mem_cons.mp this with z | z
 . exact h1 _ _ _ e3 _ z.symm
 . exact h2 _ _ _ e7 _ (List.mem_singleton.mp z).symm
section
theorem ZoA (h : PE X e (tC v)) (hr : ∀ H Hs m, Rep X.K H Hs v d m) : PE X e (tM X.K (M.ret d)) := PE.imp h fun σ H Q z0 => by
 obtain ⟨δ, Hs, M, d', δ', g, r, e, q⟩ := z0
 have := Zh e
 cases this
 exact q v H Hs (fun _ => 0) M (Zaq g) (stp0 H Hs M) (hr H Hs _) r
theorem Zdl (h : View K H Hs x w m) : isNW true w = .sc (.bl (decide (x = .non))) /\ isNW false w = .sc (.bl (!decide (x = .non))) := by
 cases h with
 | sc v m => constructor <;> simp only [isNW] <;> cases decide (x = V.non) <;> rfl
 | nd n r => constructor <;> simp [isNW]
theorem Zf4 (ha : PE X a (tP X.K ca)) {j pos'} : PE X (.Compare a [.Is] [.Constant .none j pos'] pos) (tM X.K ((ca.bnd view).bnd fun x => M.ret (isNW true x))) := PE.imp (ZhA (Zh9 ha)) fun σ H Q h => by
 have h2 : tM X.K ((ca.bnd view).bnd fun x => lift (some (isNW true x))) σ H Q := h
 exact op1 (r := fun x H1 Q => Q (.bl (decide (x = .non))) H1) h2 fun x H Hs w m d g h1 h2 v e o => by
  cases e
  rw [(Zdl v).1] at o
  exact o.sc
theorem ZgB (ha : PE X a (tP X.K ca)) {j pos'} : PE X (.Compare a [.IsNot] [.Constant .none j pos'] pos) (tM X.K ((ca.bnd view).bnd fun x => M.ret (isNW false x))) := PE.imp (ZhA (Zgs ha)) fun σ H Q h => by
 have h2 : tM X.K ((ca.bnd view).bnd fun x => lift (some (isNW false x))) σ H Q := h
 exact op1 (r := fun x H1 Q => Q (.bl (!decide (x = .non))) H1) h2 fun x H Hs w m d g h1 h2 v e o => by
  cases e
  rw [(Zdl v).2] at o
  exact o.sc
end
noncomputable def Zeh : Expr -> Option V
 | .Constant (.int n) _ _ => some (.int n)
 | .Constant (.str z) _ _ => some (.str z)
 | .Constant (.bool b) _ _ => some (.bl b)
 | .Constant .none _ _ => some .non
 | _ => none
noncomputable def ZbI : List Expr -> Option (List V)
 | [] => some []
 | e :: es => (Zeh e).bind fun v => (ZbI es).map (v :: ·)
theorem Zji (h : Zeh e = some v) : PE X e (tC v) /\ ∀ es : List Expr, starEach (e :: es) X.env = (false, eval e X.env) :: starEach es X.env := by
 unfold Zeh at h
 split at h
 . cases h; exact ⟨Zam, fun es => rfl⟩
 . cases h; exact ⟨Zr, fun es => rfl⟩
 . cases h; exact ⟨Zcr, fun es => rfl⟩
 . cases h; exact ⟨ZH, fun es => rfl⟩
 . cases h
theorem Ze7 : ∀ {es : List Expr} {vs : List V}, ZbI es = some vs -> PA X es (fun _ H Q => Q vs H)
 | [], vs, h => by
  simp only [ZbI, Option.some.injEq] at h
  subst h
  exact Zcb
 | e :: es, vs, h => by
  simp only [ZbI, Option.bind_eq_some_iff, Option.map_eq_some_iff] at h
  obtain ⟨v, h1, ws, h2, rfl⟩ := h
  obtain ⟨c1, c2⟩ := Zji (X := X) h1
  exact ZaR c1 (Ze7 h2) (c2 es)
theorem Zdm : ∀ (vs : List V), RepL K H Hs vs (vs.map D.sc) (fun _ => 0)
 | [] => .nil _
 | v :: vs => .cons (m1 := fun _ => 0) (m2 := fun _ => 0) (.sc v _) (Zdm vs) fun b => by simp
theorem Zhh (h : ZbI es = some vs) : PE X (.List es pos) (tM X.K (lift (newL (vs.map D.sc)))) := PE.imp (ZhN (Ze7 h)) fun σ H Q hq => by
 obtain ⟨δ, Hs, M, d, δ', g, s, e, q⟩ := hq
 obtain ⟨e1, rfl⟩ := Z9 e
 unfold newL at e1
 split at e1
 . rename_i hl
   cases e1
   have o : Outs X.K H Hs (fun _ => 0) _ Q := Zb5 (B := fun _ => 0) (M := M) (stp0 H Hs M) (Zaq g) s q
   exact ⟨by simpa using hl, fun p hp => o.new (fun b => by simp) (fun b hb => by simp at hb) hp (vs := vs) Zl (Zdm vs)⟩
 . cases e1
theorem ZB : bootBuiltins "len" = some (.builtin "len") := by decide +kernel
theorem Zmp : bootBuiltins "sum" = some (.builtin "sum") := by decide +kernel
theorem Zmq : bootBuiltins "all" = some (.builtin "all") := by decide +kernel
theorem Zf5 : bootBuiltins "max" = some (.builtin "max") := by decide +kernel
theorem Zim : bootBuiltins "str" = some (.type "str") := by decide +kernel
theorem Zmr : bootBuiltins "int" = some (.type "int") := by decide +kernel
theorem ZkN : bootBuiltins "list" = some (.type "list") := by decide +kernel
noncomputable def C0 : Ctx := { lock := fun _ => false, fok := fun _ _ => false, fuel := 0 }
end T
namespace T
open PySem PySem.Spec L2
section
variable {X : Cx} {o e a : Expr} {es : List Expr} {cpos apos pos p : Pos} {ca : M Op} {cs : M (List Op)} {i : Nat} {name m x f : Str} {A : Addr} {fi : FI} {j n : Nat} {ps : List Str}
theorem ZjP
 (h : tM K ((ca.bnd view).bnd fun w => (lift (strW w)).bnd fun z => cs.bnd fun ps => (views ps).bnd fun ws => lift (bmW bm z ws)) σ H Q)
 (hr : ∀ (z : Str) (vs : List V) (H1 : Hp), rNW K (bmW bm z) vs H1 Q -> r (.str z) vs H1 Q) : tBM K "str" r (tP K ca) (tPs K cs) σ H Q := by
 obtain ⟨δ, Hs, M, d, δ', g, s, e, q⟩ := h
 obtain ⟨w, δ2, e, e5⟩ := Zc e
 obtain ⟨p, δ1, e1, e3⟩ := Zc e
 obtain ⟨z, δ3, e6, e7⟩ := Zc e5
 obtain ⟨e8, rfl⟩ := Z9 e6
 refine ⟨δ, Hs, M, p, δ1, g, s, e1, fun x H2 Hs2 m1 M2 g2 st2 r1 s2 => ?_⟩
 obtain ⟨Hs3, M3, g3, st3, v1, s3⟩ := ZV (B := m1) g2 s2 r1 e3
 have z2 := Zq (m1 := fun _ => 0) g (g2.re fun b => by simp) (st2.drop (fun b => by simp) g2.le) g3 st3
 have S3 : Stp H Hs M H2 Hs3 (fun b => m1 b + M3 b) := z2.2.1.drop (fun b => by simp) z2.1.le
 have hx : x = .str z := by
  cases v1 with
  | sc u _ => cases x with
   | str y => cases e8; rfl
   | _ => cases e8
  | nd n r => cases e8
 subst hx
 refine ⟨rfl, ?_⟩
 have h2 : tM K (cs.bnd fun ps => (views ps).bnd fun ws => lift (bmW bm z ws)) σ H2 Q := ⟨_, Hs3, M3, d, δ', g3.re, s3, e7, fun v H4 Hs4 m4 M4 g4 st4 r4 s4 => by
  obtain ⟨G, S, k⟩ := Zq (m1 := m1) (M1 := M3) g g3 S3 g4 st4
  exact q v H4 Hs4 m4 M4 g4 (S.drop (fun b => by omega) G.le) r4 s4⟩
 obtain ⟨δa, Hsa, Ma, aa, δb, ga, sa, ea, qa⟩ := opN h2
 exact ⟨δa, Hsa, Ma, aa, δb, ga, sa, ea, fun vs H5 Hs5 m5 M5 g5 st5 r5 s5 => hr z vs H5 (qa vs H5 Hs5 m5 M5 g5 st5 r5 s5)⟩
theorem Zf6 : ∀ {ds : List D} {vs : List V} {m : Bud} {ts : List Str}, RepL K H Hs vs ds m -> Zbq ds = some ts -> vs = ts.map V.str
 | [], _, _, is, .nil _, h => by simp only [Zbq, Option.some.injEq] at h; subst h; rfl
 | d :: ds, _, _, is, .cons x y _, h => by
  unfold Zbq at h
  split at h
  . rename_i hh; cases hh
  . rename_i i r hh
    injection hh with h1 h2
    subst h1 h2
    (simp only [Option.map_eq_some_iff] at h)
    obtain ⟨js, h, rfl⟩ := h
    cases x
    rw [Zf6 y h]
    rfl
  . cases h
theorem Zf7 (ho : PE X o (tP X.K ca)) (ha : PA X [e] (tPs X.K cs))
 (hbase : attributeBase o "split" X.env (eval o X.env) = eval o X.env := by rfl)
 (hfew : ((backTo cpos (starEach [e] X.env)).all (fun x => !x.1) && (backToKw cpos (keywordEach [] X.env)).all (fun x => x.1.isSome)
  && decide ([e].length + ([] : List Keyword).length + (if ([] : List Keyword).isEmpty then 0 else 1) < 30)) = true := by rfl)
 (hline : (apos.endLine == cpos.line) = true := by rfl) (hs : starEach [e] X.env = (false, eval e X.env) :: starEach [] X.env := by rfl) (hplain : (backTo cpos (starEach [] X.env)).any (·.1) = false := by rfl) :
 PE X (.Call (.Attribute o "split" apos) [e] [] cpos) (tM X.K ((ca.bnd view).bnd fun w => (lift (strW w)).bnd fun z => cs.bnd fun ps => (views ps).bnd fun ws => lift (bmW .split z ws))) :=
 PE.imp (ZeQ PySem.F.plainAttrs_str PySem.F.slot_str_split PySem.F.type_str_split ZiY ho ha hbase hfew hline hs hplain) fun σ H Q h => ZjP h fun z vs H1 hq => by
  obtain ⟨Hs, ws, m, d, hs, h1, h2, v, e, o⟩ := hq
  match ws, e with
  | [.sc (.str s)], e =>
   simp only [bmW] at e
   split at e
   . rename_i hc
     cases e
     obtain ⟨y, m1, rfl, v, l⟩ := v.one
     cases v
     have hs1 : ∃ c, s = ⟨#[c]⟩ := by
      cases s with
      | mk cps =>
       cases cps with
       | mk l =>
        have hl : l.length = 1 := by simpa using hc.1
        match l, hl with
        | [c], _ => exact ⟨c, rfl⟩
     obtain ⟨c, rfl⟩ := hs1
     refine ⟨z, c, rfl, rfl, hc.2, fun p hp => ?_⟩
     have rr : RepL X.K H1 Hs ((Txt.split z ⟨#[c]⟩).map V.str) ((Txt.split z ⟨#[c]⟩).map fun x => D.sc (.str x)) m := by
      have := Zdm (K := X.K) (H := H1) (Hs := Hs) ((Txt.split z ⟨#[c]⟩).map V.str)
      rw [List.map_map] at this
      exact this.mono fun b => Nat.zero_le _
     exact o.new h1 h2 hp (vs := (Txt.split z ⟨#[c]⟩).map V.str) Zl rr
   . cases e
theorem ZgC (ho : PE X o (tP X.K ca)) (ha : PA X [e] (tPs X.K cs))
 (hbase : attributeBase o "join" X.env (eval o X.env) = eval o X.env := by rfl)
 (hfew : ((backTo cpos (starEach [e] X.env)).all (fun x => !x.1) && (backToKw cpos (keywordEach [] X.env)).all (fun x => x.1.isSome)
  && decide ([e].length + ([] : List Keyword).length + (if ([] : List Keyword).isEmpty then 0 else 1) < 30)) = true := by rfl)
 (hline : (apos.endLine == cpos.line) = true := by rfl) (hs : starEach [e] X.env = (false, eval e X.env) :: starEach [] X.env := by rfl) (hplain : (backTo cpos (starEach [] X.env)).any (·.1) = false := by rfl) :
 PE X (.Call (.Attribute o "join" apos) [e] [] cpos) (tM X.K ((ca.bnd view).bnd fun w => (lift (strW w)).bnd fun z => cs.bnd fun ps => (views ps).bnd fun ws => lift (bmW .join z ws))) :=
 PE.imp (ZeQ PySem.F.plainAttrs_str PySem.F.slot_str_join PySem.F.type_str_join Zk7 ho ha hbase hfew hline hs hplain) fun σ H Q h => ZjP h fun z vs H1 hq => by
  obtain ⟨Hs, ws, m, d, hs, h1, h2, v, e, o⟩ := hq
  match ws, e with
  | [.nd .lst ds], e =>
   simp only [bmW, Option.bind_eq_some_iff] at e
   obtain ⟨ts, e1, e2⟩ := e
   split at e2
   . rename_i hj
     cases e2
     obtain ⟨y, m1, rfl, v, l⟩ := v.one
     cases v with
     | nd n r =>
      have := Zf6 r e1
      subst this
      exact ⟨z, _, ts, rfl, rfl, .inl (.inl n), hj, o.sc⟩
   . cases e2
theorem ZkO {K : Fg} {H Hs : Hp} {σ : St} {δ δ' : List D} {m0 M : Bud} {p : Op} {v : V} {u : Unit} (g : Good H Hs (fun b => m0 b + M b)) (s : RepS K H Hs σ δ M) (r : RepP K H Hs σ v p m0) (h : chkI A m p δ = .ok (u, δ')) :
 δ' = δ /\ ∃ a dx fs, v = .ref a /\ H a = some (.ins A dx fs) /\ fs.lookup m = none := by
 have fin : ∀ {B : Addr} {fs : List Str} {o : Bool} {ds : List D} {m1 : Bud}, Rep K H Hs v (.node (.ins B fs) o ds) m1 -> B = A -> m ∉ fs -> ∃ a dx fs, v = .ref a /\ H a = some (.ins A dx fs) /\ fs.lookup m = none := fun {B fs o ds m1} q hB hm => by
  subst hB
  have nl : ∀ {vs : List V}, fs.length = vs.length -> (fs.zip vs).lookup m = none := fun {vs} hl => by
   rw [List.lookup_eq_none_iff]
   intro p hp
   have := (List.of_mem_zip (a := p.1) (b := p.2) hp).1
   have hne : m ≠ p.1 := fun q => hm (by rw [q]; exact this)
   simpa using hne
  cases q with
  | own n q _ => obtain ⟨hl, dx, e⟩ := n; exact ⟨_, dx, _, rfl, e, nl hl⟩
  | shd n q => obtain ⟨hl, dx, e⟩ := n; exact ⟨_, dx, _, rfl, g.sub _ _ e, nl hl⟩
 cases p with
 | late i =>
  unfold chkI at h
  dsimp only at h
  split at h
  . rename_i B fs oo ds hi
    split at h
    . rename_i hc
      cases h
      obtain ⟨v', m1, m2, e1, q, l, f⟩ := s.slot hi (by simp)
      rw [show σ[i]? = some (some v) from r] at e1
      cases e1
      exact ⟨rfl, fin q hc.1 hc.2⟩
    . cases h
  . cases h
 | tmp d =>
  cases d with
  | sc u => cases h
  | hole => cases h
  | node k oo ds =>
   cases k with
   | ins B fs =>
    unfold chkI at h
    dsimp only at h
    split at h
    . rename_i hc
      cases h
      exact ⟨rfl, fin r hc.1 hc.2⟩
    . cases h
   | _ => cases h
theorem ZgD {K : Fg} {σ : St} {H : Hp} {Q : VK} {E : XK} (h : tM K (ca.bnd fun p => (chkI A m p).bnd fun _ => cs.bnd fun ps => ZaC fi (p :: ps)) σ H Q) :
 tP K ca σ H fun x H1 => ∃ a dx fs, x = .ref a /\ H1 a = some (.ins A dx fs) /\ fs.lookup m = none /\ tPs K cs σ H1 fun vs H2 => spF K fi.run (x :: vs) H2 Q E := by
 obtain ⟨δ, Hs, M, d, δ', g, s, ea, q⟩ := h
 obtain ⟨p, δ1, e1, eb⟩ := Zc ea
 obtain ⟨u, δ2, e2, ec⟩ := Zc eb
 obtain ⟨ps, δ3, e3, ed⟩ := Zc ec
 refine ⟨δ, Hs, M, p, δ1, g, s, e1, fun x H1 Hs1 m1 M1 g1 st1 r1 s1 => ?_⟩
 obtain ⟨rfl, a, dx, fs, hx, ha, hl⟩ := ZkO g1 s1 r1 e2
 refine ⟨a, dx, fs, hx, ha, hl, δ2, Hs1, M1, ps, δ3, g1.re, s1, e3, fun vs H2 Hs2 m2 M2 g2 st2 r2 s2 => ?_⟩
 obtain ⟨G2, S2, k2⟩ := Zq g g1 st1 g2 st2
 have r1' := RepP.frame st2.grow k2 r1
 exact Zfz (m1 := fun b => m1 b + m2 b) g (G2.re fun b => by (try dsimp only); omega) (S2.drop (fun b => by (try dsimp only); omega) G2.le) (show ZaY K H2 Hs2 σ (x :: vs) (p :: ps) (fun b => m1 b + m2 b) from ⟨m1, m2, r1', r2, fun b => Nat.le_refl _⟩) s2 ed q
theorem ZkP {pl : Sem Bool} (G : MeAt X.prog X.w X.K X.mg X.base A m j ps (spF X.K fi.run)) (hr : Room n X.A) (ho : PE X o (tP X.K ca)) (ha : PA X (e :: es) (tPs X.K cs)) (hj : j <= n := by decide)
 (hst : starEach (e :: es) X.env = (false, eval e X.env) :: starEach es X.env := by rfl) (hpl : (backTo pos (starEach es X.env)).any (·.1) = false := by rfl)
 (ht : eval (.Call (.Attribute o m apos) (e :: es) [] pos) X.env = (do
  let ov <- eval o X.env
  standAt apos.atName
  let (f, first) <- holding [ov] (getMethod ov m pl)
  callWith pos f first (backTo pos (starEach (e :: es) X.env)) (backToKw pos (keywordEach [] X.env))) := by rfl) :
 PE X (.Call (.Attribute o m apos) (e :: es) [] pos) (tM X.K (ca.bnd fun p => (chkI A m p).bnd fun _ => cs.bnd fun ps => ZaC fi (p :: ps))) := PE.imp (ZnM G hr ho ha hj hst hpl ht) fun σ H Q h => by
 refine tG.mono (ZgD (E := E0) h) fun x H1 ⟨a, dx, fs, hx, hh, hl, z⟩ => ⟨a, dx, fs, hx, hh, hl, ?_⟩
 obtain ⟨δ, Hs, M, aa, δ', g, s, e, q⟩ := z
 refine ⟨δ, Hs, M, aa, δ', g, s, e, fun vs H' Hs' m M' g' st r s' => ?_⟩
 show spF X.K fi.run (x :: (vs ++ [])) H' Q E0
 rw [List.append_nil]
 exact q vs H' Hs' m M' g' st r s'
theorem Zc1 {pl : Sem Bool} (G : MeAt X.prog X.w X.K X.mg X.base A m j ps (spF X.K fi.run)) (hr : Room n X.A) (ho : PE X o (tP X.K ca)) (hj : j <= n := by decide)
 (ht : eval (.Call (.Attribute o m apos) [] [] pos) X.env = (do
  let ov <- eval o X.env
  standAt apos.atName
  let (f, first) <- holding [ov] (getMethod ov m pl)
  callWith pos f first (backTo pos (starEach [] X.env)) (backToKw pos (keywordEach [] X.env))) := by rfl) :
 PE X (.Call (.Attribute o m apos) [] [] pos) (tM X.K (ca.bnd fun p => (chkI A m p).bnd fun _ => (M.ret ([] : List Op)).bnd fun ps => ZaC fi (p :: ps))) := PE.imp (ZlX G hr ho hj ht) fun σ H Q h => by
 refine tG.mono (ZgD (E := E0) h) fun x H1 ⟨a, dx, fs, hx, hh, hl, z⟩ => ⟨a, dx, fs, hx, hh, hl, ?_⟩
 obtain ⟨δ, Hs, M, aa, δ', g, s, e, q⟩ := z
 have := Zh e
 cases this
 exact q [] H1 Hs (fun _ => 0) M (Zaq g) (stp0 _ _ _) trivial s
theorem Zms {K : Fg} {σ : St} {H : Hp} {Q : VK} {E : XK} (h : tM K (cs.bnd fun ps => newF A fi ps) σ H Q) :
 tPs K cs σ H fun vs H1 => ∀ x dx, H1 x = none -> H1 dx = none -> dx ≠ x -> spF K fi.run (.ref x :: vs) (upd (upd H1 dx (.own x)) x (.ins A dx [])) (fun v H2 => v = .non /\ Q (.ref x) H2) E := by
 obtain ⟨δ, Hs, M, d, δ', g, s, e, q⟩ := h
 obtain ⟨ps, δ1, e1, e⟩ := Zc e
 refine ⟨δ, Hs, M, ps, δ1, g, s, e1, fun vs H1 Hs1 m1 M1 g1 st1 r1 s1 x dx hx hdx hne => ?_⟩
 unfold newF at e
 obtain ⟨ds, δ2, e2, e⟩ := Zc e
 cases hF : fi.run (.node (.ins A []) true [] :: ds) with
 | exc x y => rw [hF] at e; cases e
 | stuck => rw [hF] at e; cases e
 | ok r =>
  obtain ⟨d', ds'⟩ := r
  rw [hF] at e
  match d', ds', e, hF with
  | .sc .non, dI :: ds', e, hF =>
   dsimp only at e
   obtain ⟨u, δ3, e3, e⟩ := Zc e
   have := Zh e
   cases this
   obtain ⟨Hs2, m2, M2, g2, st2, q2, s2⟩ := Zd6 (B := fun _ => 0) (g1.re fun b => by simp) s1 r1 e2
   have z0 := Zq (m1 := fun _ => 0) g (g1.re fun b => by simp) (st1.drop (fun b => by simp) g1.le) (g2.re fun b => by simp) (M1 := fun b => m1 b + M1 b) (M2 := fun b => m2 b + M2 b) (by
    have := st2
    exact ⟨fun b o h z => this.keep b o h (by simpa using z), fun b h => by have := this.own b (by simpa using h); simpa using this, this.grow, fun b h h' => by have := this.shr b h h'; simpa using this, this.stay⟩)
   have G2 : Good H1 Hs2 (fun b => M2 b + m2 b) := g2.re fun b => by simp; omega
   have S2 : Stp H Hs M H1 Hs2 (fun b => M2 b + m2 b) := z0.2.1.drop (fun b => by simp; omega) z0.1.le
   have hsx : Hs2 x = none := by
    cases w : Hs2 x with
    | none => rfl
    | some o => rw [G2.sub x o w] at hx; cases hx
   have hsd : Hs2 dx = none := by
    cases w : Hs2 dx with
    | none => rfl
    | some o => rw [G2.sub dx o w] at hdx; cases hdx
   have zz : ∀ b, H1 b = none -> M2 b = 0 /\ m2 b = 0 := fun b hb => by
    have l : M2 b + m2 b <= 1 := G2.le b
    have : M2 b + m2 b ≠ 1 := fun e => G2.has b e hb
    omega
   have nw : ∀ b, b ≠ x -> b ≠ dx -> upd (upd H1 dx (.own x)) x (.ins A dx []) b = H1 b := fun b h1 h2 => by rw [Zm h1, Zm h2]
   have atx : upd (upd H1 dx (.own x)) x (.ins A dx []) x = some (.ins A dx []) := Zl
   have atd : upd (upd H1 dx (.own x)) x (.ins A dx []) dx = some (.own x) := by rw [Zm hne]; exact Zl
   have old : ∀ b, H1 b ≠ none -> b ≠ x /\ b ≠ dx := fun b hb => ⟨fun e => hb (by rw [e]; exact hx), fun e => hb (by rw [e]; exact hdx)⟩
   have same : Same H1 (upd (upd H1 dx (.own x)) x (.ins A dx [])) := fun b o e => by
    obtain ⟨h1, h2⟩ := old b (by rw [e]; simp)
    rw [nw b h1 h2]; exact e
   have G3 : Good (upd (upd H1 dx (.own x)) x (.ins A dx [])) Hs2 (fun b => M2 b + (one x b + m2 b)) := by
    refine ⟨fun b o e => same b o (G2.sub b o e), fun b => ?_, fun b hb => ?_, fun b hb => ?_⟩
    . have l : M2 b + m2 b <= 1 := G2.le b
      unfold one
      (try dsimp only)
      split
      . rename_i e; subst e; have := zz b hx; omega
      . omega
    . by_cases e : b = x
      . subst e; exact hsx
      . have hb : M2 b + (one x b + m2 b) = 1 := hb
        simp only [one, if_neg e] at hb
        exact G2.ne b (by show M2 b + m2 b = 1; omega)
    . by_cases e : b = x
      . subst e; rw [atx]; simp
      . have hb : M2 b + (one x b + m2 b) = 1 := hb
        simp only [one, if_neg e] at hb
        have := G2.has b (by show M2 b + m2 b = 1; omega)
        obtain ⟨h1, h2⟩ := old b this
        rw [nw b h1 h2]; exact this
   have S3 : Stp H Hs M (upd (upd H1 dx (.own x)) x (.ins A dx [])) Hs2 (fun b => M2 b + (one x b + m2 b)) := by
    refine ⟨fun b o e z => same b o (S2.keep b o e z), fun b hb => ?_, S2.grow, S2.shr, fun b hb => ?_⟩
    . by_cases e : b = x
      . subst e
        right
        cases w : H b with
        | none => rfl
        | some o => exact absurd hx (S2.stay b (by rw [w]; simp))
      . have hb : M2 b + (one x b + m2 b) = 1 := hb
        simp only [one, if_neg e] at hb
        exact S2.own b (by show M2 b + m2 b = 1; omega)
    . have := S2.stay b hb
      obtain ⟨h1, h2⟩ := old b this
      rw [nw b h1 h2]; exact this
   have fr : ∀ b, H1 b ≠ none -> upd (upd H1 dx (.own x)) x (.ins A dx []) b = H1 b := fun b hb => nw b (old b hb).1 (old b hb).2
   have q3 : RepL K (upd (upd H1 dx (.own x)) x (.ins A dx [])) Hs2 vs ds m2 := q2.frame (Same.refl _) fun b _ hb => fr b hb
   have s3 : RepS K (upd (upd H1 dx (.own x)) x (.ins A dx [])) Hs2 σ δ2 M2 := RepS.frame (Same.refl _) (fun b _ hb => fr b hb) s2
   have rx : Rep K (upd (upd H1 dx (.own x)) x (.ins A dx [])) Hs2 (.ref x) (.node (.ins A []) true []) (one x) := .own (vs := []) (m' := fun _ => 0) ⟨rfl, dx, atx⟩ (.nil _) fun b => by simp
   refine ⟨_, Hs2, fun b => one x b + m2 b, _, _, G3.re fun b => by (try dsimp only); omega, .cons rx q3 fun b => Nat.le_refl _, hF, fun v H4 Hs4 n1 n2 g4 st4 r4 rl4 => ?_⟩
   cases r4
   refine ⟨rfl, ?_⟩
   cases rl4 with
   | @cons _ _ _ _ k1 k2 _ ra rb lk =>
    obtain ⟨G, S, k⟩ := Zq g G3 S3 g4 st4
    have s4 := RepS.frame st4.grow k s3
    have fin := Zd7 s4 rb (lates r1) e3
    exact q _ H4 Hs4 k1 (fun b => k2 b + M2 b) (G.re fun b => by have := lk b; (try dsimp only); omega) (S.drop (fun b => by have := lk b; (try dsimp only); omega) G.le) ra fin
theorem Zmt (G : MkAt X.prog X.w X.K X.mg X.base x A j ps (spF X.K fi.run)) (hr : Room n X.A) (ha : PA X (e :: es) (tPs X.K cs)) (hj : j + 1 <= n := by decide) (hz : glOk X.env.scope x = true := by kernel_rfl) (he : starEach (e :: es) X.env = (false, eval e X.env) :: starEach es X.env := by rfl) (hpl : (backTo pos (starEach es X.env)).any (·.1) = false := by rfl) :
 PE X (.Call (.Name x p) (e :: es) [] pos) (tM X.K (cs.bnd fun ps => newF A fi ps)) := PE.imp (ZnN G hr ha hj (glk hz) (dbk hz) he hpl) fun σ H Q h => by
 obtain ⟨δ, Hs, M, aa, δ', g, s, e, q⟩ := Zms (E := E0) h
 refine ⟨δ, Hs, M, aa, δ', g, s, e, fun vs H' Hs' m M' g' st r s' x dx h1 h2 h3 => ?_⟩
 show spF X.K fi.run (.ref x :: (vs ++ [])) _ _ E0
 rw [List.append_nil]
 exact q vs H' Hs' m M' g' st r s' x dx h1 h2 h3
theorem Zf8 (f : Str) (v : V) : ∀ (fs : List Str) (vs : List V), fs.length = vs.length -> putF f v (fs.zip vs) = (putN f fs).zip (putV f v fs vs) /\ (putN f fs).length = (putV f v fs vs).length
 | [], [], _ => ⟨rfl, rfl⟩
 | g :: fs, x :: vs, h => by
  obtain ⟨i1, i2⟩ := Zf8 f v fs vs (by simpa using h)
  rw [List.zip_cons_cons]
  show (if g = f then (g, v) :: fs.zip vs else (g, x) :: putF f v (fs.zip vs)) = _ /\ _
  simp only [putN, putV]
  split
  . exact ⟨rfl, by simpa using h⟩
  . rw [i1]
    exact ⟨rfl, by rw [List.length_cons, List.length_cons, i2]⟩
 | [], _ :: _, h => by simp at h
 | _ :: _, [], h => by simp at h
theorem RepL.putV (f : Str) (x : Rep K H Hs v d m1) : ∀ {fs : List Str} {vs : List V} {ds : List D} {m : Bud}, fs.length = vs.length -> RepL K H Hs vs ds m -> RepL K H Hs (T.putV f v fs vs) (T.putV f d fs ds) (fun b => m b + m1 b)
 | [], _, _, m, h, .nil _ => .cons x (.nil (fun _ => 0)) fun b => by (try dsimp only); omega
 | [], _, _, m, h, .cons _ _ _ => by simp at h
 | _ :: _, _, _, m, h, .nil _ => by simp at h
 | g :: fs, _, _, m, h, .cons (m1 := a1) (m2 := a2) y z l => by
  simp only [T.putV]
  split
  . exact .cons x z fun b => by have := l b; (try dsimp only); omega
  . exact .cons y (RepL.putV f x (by simpa using h) z) fun b => by have := l b; (try dsimp only); omega
theorem Zei (hf : ∀ C f, ok C f = true -> Cls X.K C /\ Zad X.K C f) (ho : PE X o (tVar i)) (hv : PE X value (tM X.K c)) (hs : swapsWith value (some (.Attribute o f pos')) pos.line X.env = pure false := by rfl) :
 PS X (.Assign [.Attribute o f pos'] value pos) (tS X.K lk (c.bnd fun d => (ZL i).bnd fun _ => (modS i (putD ok f d)).bnd fun _ => M.ret .nx)) := PS.imp (ZlL ho hv hs) fun E σ H h => by
 obtain ⟨δ, Hs, M, fl, δ', g, s, ea, q⟩ := h
 obtain ⟨d, δ1, e1, eb⟩ := Zc ea
 obtain ⟨p0, δ2, e2, ec⟩ := Zc eb
 obtain ⟨r0, δ3, e3, ed⟩ := Zc ec
 have := Zh ed
 cases this
 obtain ⟨kk, ds0, k', ds', hi, hff, rfl⟩ := Zdf e3
 refine ⟨δ, Hs, M, d, δ1, g, s, e1, fun v H1 Hs1 m1 M1 g1 st1 r1 s1 => ?_⟩
 obtain ⟨rfl, vo, hvo⟩ := Zg6 s1 e2
 obtain ⟨p1, us, m', n2, e8, nn, rl, le, fin⟩ := modL g1 s1 hi
 rw [hvo] at e8
 cases e8
 refine ⟨_, hvo, ?_⟩
 unfold putD at hff
 split at hff
 . rename_i ds C fs
   split at hff
   . rename_i hc
     cases hff
     obtain ⟨hl, dx, hH⟩ := nn
     obtain ⟨z1, z2⟩ := Zf8 f v fs us hl
     obtain ⟨G, S, R, SS⟩ := fin (.ins C dx (putF f v (fs.zip us))) (.ins C (putN f fs)) (T.putV f v fs us) (T.putV f d fs ds0) (fun b => m' b + m1 b) (fun _ => 0) .non (.sc .non) (fun b => by (try dsimp only); omega) ⟨z2, dx, by rw [Zl, z1]⟩ (rl.putV f r1 hl) (.sc _ _)
     have z := Zq (m1 := fun _ => 0) g (g1.re fun b => by simp) (st1.drop (fun b => by simp) g1.le) G S
     refine ⟨p1, C, dx, fs.zip us, rfl, hH, (hf C f hc.2).1, (hf C f hc.2).2, ?_, ?_⟩
     . rw [List.length_zip, hl, Nat.min_self]
       rw [<- hl]
       exact hc.1
     . exact q σ _ Hs1 _ (Keeps.refl _ _) (G.re fun b => by (try dsimp only); omega) ((z.2.1.drop (fun b => by simp) z.1.le).drop (fun b => by (try dsimp only); omega) G.le) SS
   . cases hff
 . cases hff
end
end T
namespace T
open PySem PySem.Spec L2 PySem.W
noncomputable def scr (ns : List Int) : D := .node .frl false (ns.map fun i => .sc (.int i))
theorem Zmu {K : Fg} {H : Hp} {a : Addr} {ns : List Int} {F : List D -> Rs (D × List D)} {E : XK} (hS : SqL K H a (ns.map V.int)) (e : ∃ ds', F [scr ns] = .ok (.sc (.bl true), ds')) : spF K F [.ref a] H (fun v _ => v = .bl true) E := by
 obtain ⟨ds', e⟩ := e
 refine ⟨[scr ns], H, fun _ => 0, _, ds', ⟨Same.refl _, fun b => Nat.zero_le _, fun b h => by simp at h, fun b h => by simp at h⟩, .cons (m1 := fun _ => 0) (m2 := fun _ => 0) (.shd (vs := ns.map V.int) hS (ZcM ns)) (.nil _) fun b => by simp, e, fun v H' Hs' m1 m' g st r _ => ?_⟩
 cases r
 rfl
theorem Zjj {l : PySem.W.OpenLaw} {q : Program} {loose : List Str} {XP : (Str -> Option Value) -> Heap -> Prop} {YP : World -> Heap -> Prop} {d : DefRec} {K : Params -> Fg} {k : Nat} {x : Str} {R : Fg -> List D -> Rs (D × List D)} (hn : l.most = some 63) (hdf : d.params.defaults = []) (hr : Room k callerA)
 (hY : ∀ (w : World) (h : Heap), YP w h -> (K w.params).In h)
 (F : ∀ (w : World) (mg : Str -> Option Value) (fa : Addr) (h : Heap), (K w.params).In h -> h.Ns mainGlobals mg -> mg d.name = some (.ref fa) ->
  ∃ fd : FuncData, (∀ (s : Shared) (u : Value), BindsTo s fd ⟨[u], []⟩ [(x, u)]) /\ ∀ base : Heap, (K w.params).In base -> base.Ns mainGlobals mg -> FnOk l.prog w (K w.params) mg base CX0 k fa fd [x] (spF (K w.params) (R (K w.params))))
 (hL : ∀ (K : Fg) (ns : List Int), ns.length <= 63 -> ∃ ds', R K [scr ns] = .ok (.sc (.bl true), ds')) :
 PySem.W.WalkO q loose XP YP l.row.toRowW d [] (fun f vs => PySem.call f vs) :=
 L2.ZiV (n := 63) (k := k) (x := x) (CX := CX0) (sp := fun K => spF K (R K)) hn (by decide) hdf hr hY F (fun K H a ns hl _ hS => Zmu hS (hL K ns hl)) fun _ _ _ _ z => z
end T
namespace T
open PySem PySem.Spec L2 PySem.W
theorem Zin {α β : Type} {c : M α} {f : α -> M β} {δ δ' : List D} {a : α} (h : c δ = .ok (a, δ')) : c.bnd f δ = f a δ' := by
 unfold M.bnd
 rw [h]
theorem runA (h : ds.length = n) : Zs C n N body ds = Zce n (exs { C with lock := fun i => decide (i < n) } body (ds ++ List.replicate (N - n) .hole)) := if_pos h
theorem szl : sizeLine = 16777216 := by rw [sizeLine_eq]
section
noncomputable def bndR (f : α -> M β) : Rs (α × List D) -> Rs (β × List D)
 | .ok (a, δ) => f a δ
 | .exc x δ => .exc x δ
 | .stuck => .stuck
theorem bndA (c : M α) (f : α -> M β) (δ : List D) : c.bnd f δ = bndR f (c δ) := by
 unfold M.bnd bndR
 cases c δ <;> rfl
theorem ZkQ (f : α -> M β) : bndR f (.ok (a, δ)) = f a δ := (rfl)
theorem retA : M.ret a δ = .ok (a, δ) := (rfl)
theorem ZoB : lift (some a) δ = .ok (a, δ) := (rfl)
theorem ZkR (c : Prop) [Decidable c] (f g : M α) (δ : List D) : (if c then f else g) δ = if c then f δ else g δ := by split <;> rfl
theorem ZoC (c : M D) : Zn (.v i) c = ZL i := (rfl)
noncomputable def atR (i : Nat) (δ : List D) : Option D -> Rs (Op × List D)
 | some (.sc _) => .ok (.late i, δ)
 | some (.node _ _ _) => .ok (.late i, δ)
 | _ => .stuck
theorem ZoD : ZL i δ = atR i δ δ[i]? := by unfold ZL atR; cases δ[i]? with | none => rfl | some d => cases d <;> rfl
theorem Zmv : atR i δ (some (.sc v)) = .ok (.late i, δ) := (rfl)
theorem Zmw : atR i δ (some (.node k o ds)) = .ok (.late i, δ) := (rfl)
noncomputable def vwR (i : Nat) (δ : List D) : Option D -> Rs (W × List D)
 | some (.sc v) => .ok (.sc v, δ)
 | some (.node k false ds) => .ok (.nd k ds, δ)
 | some (.node k true ds) => .ok (.nd k (shrL ds), δ.set i (.node k true (shrL ds)))
 | _ => .stuck
theorem ZoE : view (.late i) δ = vwR i δ δ[i]? := by
 unfold view vwR
 (try dsimp only)
 all_goals
  cases δ[i]? with
  | none => rfl
  | some d => cases d with
   | node k o ds => cases o <;> rfl
   | _ => rfl
theorem Zmx : vwR i δ (some (.sc v)) = .ok (.sc v, δ) := (rfl)
theorem ZoF : vwR i δ (some (.node k false ds)) = .ok (.nd k ds, δ) := (rfl)
theorem ZoG : vwR i δ (some (.node k true ds)) = .ok (.nd k (shrL ds), δ.set i (.node k true (shrL ds))) := (rfl)
theorem ZkS : view (.tmp (.sc v)) = M.ret (.sc v) := (rfl)
theorem ZkT : view (.tmp (.node k o ds)) = M.ret (.nd k ds) := (rfl)
noncomputable def vlR (i : Nat) (δ : List D) : Option D -> Rs (D × List D)
 | some (.sc v) => .ok (.sc v, δ)
 | some (.node k false ds) => .ok (.node k false ds, δ)
 | some (.node k true ds) => .ok (.node k false (shrL ds), δ.set i (.node k false (shrL ds)))
 | _ => .stuck
theorem valA : T.valV i δ = vlR i δ δ[i]? := by
 unfold T.valV vlR
 cases δ[i]? with
 | none => rfl
 | some d => cases d with
  | node k o ds => cases o <;> rfl
  | _ => rfl
theorem Zmy : vlR i δ (some (.sc v)) = .ok (.sc v, δ) := (rfl)
theorem ZoH : vlR i δ (some (.node k false ds)) = .ok (.node k false ds, δ) := (rfl)
theorem ZoI : vlR i δ (some (.node k true ds)) = .ok (.node k false (shrL ds), δ.set i (.node k false (shrL ds))) := (rfl)
noncomputable def mvR (i : Nat) (δ : List D) : Option D -> Rs (D × List D)
 | some (.sc v) => .ok (.sc v, δ)
 | some (.node k o ds) => .ok (.node k o ds, δ.set i .hole)
 | _ => .stuck
theorem movA : movV i δ = mvR i δ δ[i]? := by unfold movV mvR; cases δ[i]? with | none => rfl | some d => cases d <;> rfl
theorem Zmz : mvR i δ (some (.sc v)) = .ok (.sc v, δ) := (rfl)
theorem Zm0 : mvR i δ (some (.node k o ds)) = .ok (.node k o ds, δ.set i .hole) := (rfl)
noncomputable def tkR (lend : Bool) (i : Nat) (δ : List D) : Option D -> Rs (D × List D)
 | some (.sc v) => .ok (.sc v, δ)
 | some (.node k false ds) => .ok (.node k false ds, δ)
 | some (.node k true ds) => if lend then .ok (.node k true ds, δ.set i .hole) else .ok (.node k false (shrL ds), δ.set i (.node k false (shrL ds)))
 | _ => .stuck
theorem ZoJ : Zcx lend (.late i) δ = tkR lend i δ δ[i]? := by
 unfold Zcx tkR
 (try dsimp only)
 all_goals
  cases δ[i]? with
  | none => rfl
  | some d => cases d with
   | node k o ds => cases o <;> rfl
   | _ => rfl
theorem ZoK : Zcx lend (.tmp d) = M.ret d := (rfl)
theorem Zm1 : tkR lend i δ (some (.sc v)) = .ok (.sc v, δ) := (rfl)
theorem ZoL : tkR lend i δ (some (.node k false ds)) = .ok (.node k false ds, δ) := (rfl)
theorem ZoM : tkR true i δ (some (.node k true ds)) = .ok (.node k true ds, δ.set i .hole) := (rfl)
theorem Zm2 : Zas lend [] = M.ret [] := (rfl)
theorem Zm3 : Zas lend (p :: ps) = (Zcx lend p).bnd fun d => (Zas lend ps).bnd fun ds => M.ret (d :: ds) := (rfl)
noncomputable def gvR (i : Nat) (δ : List D) (d : D) : Option D -> Rs (Unit × List D)
 | some .hole => .ok ((), δ.set i d)
 | _ => .ok ((), δ)
theorem ZoN : Zcy (.late i) d δ = gvR i δ d δ[i]? := by unfold Zcy gvR; (try dsimp only); all_goals (cases δ[i]? with | none => rfl | some d => cases d <;> rfl)
theorem ZoO : Zcy (.tmp d') d = M.ret () := (rfl)
theorem Zm4 : gvR i δ d (some (.sc v)) = .ok ((), δ) := (rfl)
theorem Zm5 : gvR i δ d (some (.node k o ds)) = .ok ((), δ) := (rfl)
theorem ZoP : gvR i δ d (some .hole) = .ok ((), δ.set i d) := (rfl)
theorem Zm6 : ZN [] ds = M.ret () := by cases ds <;> rfl
theorem Zm7 : ZN (p :: ps) (d :: ds) = (Zcy p d).bnd fun _ => ZN ps ds := (rfl)
theorem Zm8 : views [] = M.ret [] := (rfl)
theorem Zm9 : views (p :: ps) = (view p).bnd fun w => (views ps).bnd fun ws => M.ret (w :: ws) := (rfl)
noncomputable def cfR (ps : List Op) (δ : List D) : Rs (D × List D) -> Rs (D × List D)
 | .ok (d, ds') => ((ZN ps ds').bnd fun _ => M.ret d) δ
 | .exc _ _ => .stuck
 | .stuck => .stuck
theorem ZoQ : ZaC fi ps = (Zas fi.lend ps).bnd fun ds δ => cfR ps δ (fi.run ds) := by
 unfold ZaC cfR
 congr 1
 funext ds δ
 cases fi.run ds with
 | ok r => obtain ⟨d, ds'⟩ := r; rfl
 | exc x y => rfl
 | stuck => rfl
theorem ZmA : cfR ps δ (.ok (d, ds')) = ((ZN ps ds').bnd fun _ => M.ret d) δ := (rfl)
noncomputable def seqR (r : M Fl) : Rs (Fl × List D) -> Rs (Fl × List D)
 | .ok (.nx, δ) => r δ
 | .ok (f, δ) => .ok (f, δ)
 | .exc x δ => .exc x δ
 | .stuck => .stuck
theorem exs1 : exs C (s :: r) δ = seqR (exs C r) (ex C s δ) := by
 show seqL (ex C s) (exs C r) δ = _
 unfold seqL M.bnd seqR
 cases ex C s δ with
 | ok z => obtain ⟨f, δ1⟩ := z; cases f <;> rfl
 | exc x y => rfl
 | stuck => rfl
noncomputable def forR (asg : D -> M Unit) (body : M Fl) (ds : List D) : Rs (Fl × List D) -> Rs (Fl × List D)
 | .ok (.nx, δ) => forL asg body ds δ
 | .ok (.ct, δ) => forL asg body ds δ
 | .ok (.bk, δ) => .ok (.nx, δ)
 | .ok (.rt x, δ) => .ok (.rt x, δ)
 | .exc x δ => .exc x δ
 | .stuck => .stuck
theorem ZO : forL asg body (d :: ds) δ = forR asg body ds (((asg d).bnd fun _ => body) δ) := by
 show ((asg d).bnd fun _ => body.bnd fun f => match f with | .nx => forL asg body ds | .ct => forL asg body ds | .bk => M.ret .nx | .rt x => M.ret (.rt x)) δ = _
 unfold forR M.bnd
 cases asg d δ with
 | ok r =>
  dsimp only
  cases body r.2 with
  | ok z => obtain ⟨f, δ1⟩ := z; cases f <;> rfl
  | exc x y => rfl
  | stuck => rfl
 | exc x y => rfl
 | stuck => rfl
theorem ZkU : forR asg body ds (.ok (.nx, δ)) = forL asg body ds δ := (rfl)
theorem ZkV : forR asg body ds (.ok (.rt d, δ)) = .ok (.rt d, δ) := (rfl)
theorem exs0 : exs C [] δ = .ok (.nx, δ) := (rfl)
theorem Zdn (r : M Fl) : seqR r (.ok (.nx, δ)) = r δ := (rfl)
theorem ZkW (r : M Fl) : seqR r (.ok (.rt d, δ)) = .ok (.rt d, δ) := (rfl)
end
end T
namespace T
open PySem PySem.Spec L2 PySem.W
theorem e_k (C : Ctx) (v : V) : (evb C (.k v)).1 = (M.ret (.sc v)) := (rfl)
theorem o_k (v : V) (z : M D) : Zn (.k v) z = z.bnd fun d => M.ret (.tmp d) := (rfl)
theorem e_g (C : Ctx) (d : D) : (evb C (.g d)).1 = (M.ret d) := (rfl)
theorem ZoR (C : Ctx) (op : Operator) (a : E) (b : E) : (evb C (.bin op a b)).1 = ((Zn a (evb C a).1).bnd fun p => (Zn b (evb C b).1).bnd fun q => (view p).bnd fun x => (view q).bnd fun y => lift (binW op x y)) := (rfl)
theorem ZoS (op : Operator) (a : E) (b : E) (z : M D) : Zn (.bin op a b) z = z.bnd fun d => M.ret (.tmp d) := (rfl)
theorem ZoT (C : Ctx) (op : CmpOp) (a : E) (b : E) : (evb C (.cmp op a b)).1 = ((Zn a (evb C a).1).bnd fun p => (Zn b (evb C b).1).bnd fun q => (view p).bnd fun x => (view q).bnd fun y => lift ((Z4 op x y).map fun t => .sc (.bl t))) := (rfl)
theorem ZoU (C : Ctx) (op : CmpOp) (a : E) (b : E) : (evb C (.cmp op a b)).2 = ZbS (evb C (.cmp op a b)).1 := (rfl)
theorem ZoV (op : CmpOp) (a : E) (b : E) (z : M D) : Zn (.cmp op a b) z = z.bnd fun d => M.ret (.tmp d) := (rfl)
theorem ZoW (C : Ctx) (p : Bool) (a : E) : (evb C (.isN p a)).1 = (((Zn a (evb C a).1).bnd view).bnd fun x => M.ret (isNW p x)) := (rfl)
theorem ZoX (C : Ctx) (p : Bool) (a : E) : (evb C (.isN p a)).2 = ((Zn (.isN p a) (evb C (.isN p a)).1).bnd fun p => (view p).bnd fun w => lift (truW w)) := (rfl)
theorem ZoY (p : Bool) (a : E) (z : M D) : Zn (.isN p a) z = z.bnd fun d => M.ret (.tmp d) := (rfl)
theorem t_nt (C : Ctx) (a : E) : (evb C (.nt a)).2 = ((evb C a).2.bnd fun b => M.ret (!b)) := (rfl)
theorem ZoZ (C : Ctx) (a : E) (b : E) : (evb C (.and a b)).2 = ((evb C a).2.bnd fun t => if t then (evb C b).2 else M.ret false) := (rfl)
theorem e_or (C : Ctx) (a : E) (b : E) : (evb C (.or a b)).1 = (((Zn a (evb C a).1).bnd view).bnd (T.orM (evb C b).1)) := (rfl)
theorem t_or (C : Ctx) (a : E) (b : E) : (evb C (.or a b)).2 = ((evb C a).2.bnd fun t => if t then M.ret true else (evb C b).2) := (rfl)
theorem Zpa (C : Ctx) (c : E) (a : E) (b : E) : (evb C (.ife c a b)).1 = ((evb C c).2.bnd fun t => if t then (evb C a).1 else (evb C b).1) := (rfl)
theorem Zpb (c : E) (a : E) (b : E) (z : M D) : Zn (.ife c a b) z = z.bnd fun d => M.ret (.tmp d) := (rfl)
theorem e_ix (C : Ctx) (a : E) (b : E) : (evb C (.ix a b)).1 = ((Zn a (evb C a).1).bnd fun p => (Zn b (evb C b).1).bnd fun q => (view p).bnd fun x => (view q).bnd fun y => lift (ixW2 x y)) := (rfl)
theorem t_ix (C : Ctx) (a : E) (b : E) : (evb C (.ix a b)).2 = ((Zn (.ix a b) (evb C (.ix a b)).1).bnd fun p => (view p).bnd fun w => lift (truW w)) := (rfl)
theorem o_ix (a : E) (b : E) (z : M D) : Zn (.ix a b) z = z.bnd fun d => M.ret (.tmp d) := (rfl)
theorem e_sl (C : Ctx) (a : E) (b : E) (c : E) : (evb C (.sl a b c)).1 = ((Zn a (evb C a).1).bnd fun p => (ZbR b (Zn b (evb C b).1)).bnd fun l => (ZbR c (Zn c (evb C c).1)).bnd fun h => (view p).bnd fun x => lift (slD x l h)) := (rfl)
theorem o_sl (a : E) (b : E) (c : E) (z : M D) : Zn (.sl a b c) z = z.bnd fun d => M.ret (.tmp d) := (rfl)
theorem Zpc (C : Ctx) (a : E) (f : Str) : (evb C (.fld a f)).1 = (((Zn a (evb C a).1).bnd view).bnd fun x => lift (fldW C.fok f x)) := (rfl)
theorem Zpd (a : E) (f : Str) (z : M D) : Zn (.fld a f) z = z.bnd fun d => M.ret (.tmp d) := (rfl)
theorem Zpe (C : Ctx) (es : List E) : (evb C (.lst es)).1 = ((evs C es).bnd fun ds => lift (newL ds)) := (rfl)
theorem Zpf (es : List E) (z : M D) : Zn (.lst es) z = z.bnd fun d => M.ret (.tmp d) := (rfl)
theorem Zpg (C : Ctx) (es : List E) : (evb C (.tup es)).1 = ((evs C es).bnd fun ds => lift (newT ds)) := (rfl)
theorem Zph (es : List E) (z : M D) : Zn (.tup es) z = z.bnd fun d => M.ret (.tmp d) := (rfl)
theorem o_kl (vs : List V) (z : M D) : Zn (.kl vs) z = z.bnd fun d => M.ret (.tmp d) := (rfl)
theorem ZmB (C : Ctx) (fi : FI) (es : List E) : (evb C (.call fi es)).1 = ((opds C es).bnd fun ps => ZaC fi ps) := (rfl)
theorem ZmC (C : Ctx) (fi : FI) (es : List E) : (evb C (.call fi es)).2 = ((Zn (.call fi es) (evb C (.call fi es)).1).bnd fun p => (view p).bnd fun w => lift (truW w)) := (rfl)
theorem ZmD (fi : FI) (es : List E) (z : M D) : Zn (.call fi es) z = z.bnd fun d => M.ret (.tmp d) := (rfl)
theorem e_bf (C : Ctx) (f : BF) (es : List E) : (evb C (.bf f es)).1 = ((opds C es).bnd fun ps => (views ps).bnd fun ws => lift (bfW f ws)) := (rfl)
theorem t_bf (C : Ctx) (f : BF) (es : List E) : (evb C (.bf f es)).2 = ((Zn (.bf f es) (evb C (.bf f es)).1).bnd fun p => (view p).bnd fun w => lift (truW w)) := (rfl)
theorem o_bf (f : BF) (es : List E) (z : M D) : Zn (.bf f es) z = z.bnd fun d => M.ret (.tmp d) := (rfl)
theorem e_bm (C : Ctx) (m : BM) (a : E) (es : List E) : (evb C (.bm m a es)).1 = (((Zn a (evb C a).1).bnd view).bnd fun w => (lift (strW w)).bnd fun z => (opds C es).bnd fun ps => (views ps).bnd fun ws => lift (bmW m z ws)) := (rfl)
theorem ZmE (C : Ctx) (A : Addr) (f : Str) (fi : FI) (a : E) (es : List E) : (evb C (.meth A f fi a es)).1 = ((Zn a (evb C a).1).bnd fun p => (chkI A f p).bnd fun _ => (opds C es).bnd fun ps => ZaC fi (p :: ps)) := (rfl)
theorem ZmF (A : Addr) (f : Str) (fi : FI) (a : E) (es : List E) (z : M D) : Zn (.meth A f fi a es) z = z.bnd fun d => M.ret (.tmp d) := (rfl)
theorem Zpi (C : Ctx) (A : Addr) (fi : FI) (es : List E) : (evb C (.new A fi es)).1 = ((opds C es).bnd fun ps => newF A fi ps) := (rfl)
theorem ZmG (k : Nat) (js : List Nat) (tg : Tg) (ik : IK) (es : List E) (es' : List E) (a : E) (z : M D) : Zn (.comp k js tg ik es es' a) z = z.bnd fun d => M.ret (.tmp d) := (rfl)
theorem ix_d (ks : List Key) (ds : List D) (v : V) : ixW2 (.nd (.dic ks) ds) (.sc v) = (keyD v).bind fun k => Z3 k ks ds := (rfl)
theorem Zpj (x : Str) : keyD (.str x) = some (.inr x) := (rfl)
theorem c_in (v : V) (ks : List Key) (ds : List D) : Z4 .In (.sc v) (.nd (.dic ks) ds) = ((keyD v).map fun k => (Z3 k ks ds).isSome == true) := (rfl)
theorem e_dP (C : Ctx) (k e : E) : (evb C (.dctP k e)).1 = ((Zn k (evb C k).1).bnd fun p => (evb C e).1.bnd fun d => (view p).bnd fun w => lift ((keyP w).map fun key => .node (.dpp [key]) true [d])) := (rfl)
theorem Zpk (C : Ctx) (e : E) : (evb C (.bor e)).1 = borV (evb C e).1 := (rfl)
noncomputable def bvR (δ : List D) : Rs (D × List D) -> Rs (D × List D)
 | .ok (.sc v, _) => .ok (.sc v, δ)
 | _ => .stuck
theorem Zpl (c : M D) (δ : List D) : borV c δ = bvR δ (c (shrL δ)) := (rfl)
theorem ZmH (δ δ' : List D) (v : V) : bvR δ (.ok (.sc v, δ')) = .ok (.sc v, δ) := (rfl)
theorem Zio (C : Ctx) (i j l : Nat) (e : E) : ex C (.sub i [.v j] (.v l) e) = subV i j (evb C e).1 (.v l) := (rfl)
theorem e_v (C : Ctx) (i : Nat) : (evb C (.v i)).1 = T.valV i := (rfl)
theorem t_v (C : Ctx) (i : Nat) : (evb C (.v i)).2 = ((ZL i).bnd fun p => (view p).bnd fun w => lift (truW w)) := (rfl)
theorem Zjk (C : Ctx) (i : Nat) (es : List E) : (evb C (.mut .append i [] es)).1 = ((chkL i).bnd fun _ => (evs C es).bnd fun ds => appM i ds) := (rfl)
theorem Zpm (C : Ctx) : opds C [] = M.ret [] := (rfl)
theorem Zpn (C : Ctx) (e : E) (es : List E) : opds C (e :: es) = ((Zn e (evb C e).1).bnd fun p => (opds C es).bnd fun ps => M.ret (p :: ps)) := (rfl)
theorem evs0 (C : Ctx) : evs C [] = M.ret [] := (rfl)
theorem evs1 (C : Ctx) (e : E) (es : List E) : evs C (e :: es) = ((evb C e).1.bnd fun p => (evs C es).bnd fun ps => M.ret (p :: ps)) := (rfl)
theorem Zpo (C : Ctx) : tsts C [] = M.ret true := (rfl)
theorem Zpp (C : Ctx) (i : Nat) (e : E) : ex C (.asg i e) = ((evb C e).1.bnd fun d => (asgN C.lock i d).bnd fun _ => M.ret .nx) := (rfl)
theorem Zpq (C : Ctx) (is : List Nat) (e : E) : ex C (.unp is e) = (((Zn e (evb C e).1).bnd view).bnd fun w => (unpM C.lock is w).bnd fun _ => M.ret .nx) := (rfl)
theorem Zpr (C : Ctx) (i : Nat) (x e : E) : ex C (.sub i [] x e) = ((evb C e).1.bnd fun d => (ZL i).bnd fun _ => ((Zn x (evb C x).1).bnd view).bnd fun w => (modS i (Zb1 w d)).bnd fun _ => M.ret .nx) := (rfl)
theorem ZmI (C : Ctx) (i : Nat) (f : Str) (e : E) : ex C (.attr i f e) = ((evb C e).1.bnd fun d => (ZL i).bnd fun _ => (modS i (putD C.fok f d)).bnd fun _ => M.ret .nx) := (rfl)
theorem x_ex (C : Ctx) (e : E) : ex C (.ex e) = ((evb C e).1.bnd fun _ => M.ret .nx) := (rfl)
theorem Zps (C : Ctx) (e : E) : ex C (.ret e) = ((retV C e).bnd fun d => M.ret (.rt d)) := (rfl)
theorem Zpt (C : Ctx) (c : E) (a b : List S) : ex C (.iff c a b) = ((evb C c).2.bnd fun t => if t then exs C a else exs C b) := (rfl)
theorem ZmJ (C : Ctx) (tg : Tg) (ik : IK) (ies : List E) (body : List S) : ex C (.for_ tg ik ies body) = ((opds C ies).bnd fun ps => (Z0 ps).bnd fun h => (lift (itW ik h.1)).bnd fun items => (forL (asgT (fun j => C.lock j || walked ies j) tg) (exs { C with lock := fun j => C.lock j || walked ies j } body) items).bnd fun f => (ZT h.2).bnd fun _ => M.ret f) := (rfl)
theorem Zjl (C : Ctx) (c : E) (body : List S) : ex C (.while_ c body) = (Z8 (evb C c).2 (exs C body) C.fuel) := (rfl)
theorem Zpu (C : Ctx) (i : Nat) : retV C (.v i) = if C.lock i then T.valV i else movV i := (rfl)
theorem r_k (C : Ctx) (v : V) : retV C (.k v) = (evb C (.k v)).1 := (rfl)
theorem Zpv (C : Ctx) (op : Operator) (a : E) (b : E) : retV C (.bin op a b) = (evb C (.bin op a b)).1 := (rfl)
theorem Zpw (C : Ctx) (op : CmpOp) (a : E) (b : E) : retV C (.cmp op a b) = (evb C (.cmp op a b)).1 := (rfl)
theorem Zpx (C : Ctx) (p : Bool) (a : E) : retV C (.isN p a) = (evb C (.isN p a)).1 := (rfl)
theorem r_ix (C : Ctx) (a : E) (b : E) : retV C (.ix a b) = (evb C (.ix a b)).1 := (rfl)
theorem Zpy (C : Ctx) (a : E) (f : Str) : retV C (.fld a f) = (evb C (.fld a f)).1 := (rfl)
theorem Zpz (C : Ctx) (es : List E) : retV C (.tup es) = (evb C (.tup es)).1 := (rfl)
theorem r_bf (C : Ctx) (f : BF) (es : List E) : retV C (.bf f es) = (evb C (.bf f es)).1 := (rfl)
theorem r_bm (C : Ctx) (m : BM) (a : E) (es : List E) : retV C (.bm m a es) = (evb C (.bm m a es)).1 := (rfl)
theorem ZmK (C : Ctx) (A : Addr) (f : Str) (fi : FI) (a : E) (es : List E) : retV C (.meth A f fi a es) = (evb C (.meth A f fi a es)).1 := (rfl)
theorem Zp0 (i j : Int) : binW .Add (.sc (.int i)) (.sc (.int j)) = some (.sc (.int (i + j))) := (rfl)
theorem Zp1 (i j : Int) : binW .Sub (.sc (.int i)) (.sc (.int j)) = some (.sc (.int (i - j))) := (rfl)
theorem ZdR (i j : Int) (h : (-(2 ^ 64) < i /\ i < 2 ^ 64) \/ (-(2 ^ 64) < j /\ j < 2 ^ 64)) : binW .Mult (.sc (.int i)) (.sc (.int j)) = some (.sc (.int (i * j))) := if_pos h
theorem Zb2 (i j : Int) (h : 0 < j /\ j < 18446744073709551616) : binW .FloorDiv (.sc (.int i)) (.sc (.int j)) = some (.sc (.int (i / j))) := if_pos h
theorem Za1 (i j : Int) (h : 0 < j) : binW .Mod (.sc (.int i)) (.sc (.int j)) = some (.sc (.int (i % j))) := if_pos h
theorem Zay (ds : List D) (h : ds.length <= sizeLine) : newL ds = some (.node .lst true ds) := if_pos h
theorem Zp2 (i j : Int) : Z4 .Lt (.sc (.int i)) (.sc (.int j)) = some (decide (i < j)) := (rfl)
theorem Zp3 (i j : Int) : Z4 .Gt (.sc (.int i)) (.sc (.int j)) = some (decide (j < i)) := (rfl)
theorem Zp4 (i j : Int) : Z4 .GtE (.sc (.int i)) (.sc (.int j)) = some (decide (j <= i)) := (rfl)
theorem ZmL (i j : Int) : Z4 .Eq (.sc (.int i)) (.sc (.int j)) = some (decide (V.int i = V.int j)) := (rfl)
theorem ZmM (i j : Int) : Z4 .NotEq (.sc (.int i)) (.sc (.int j)) = some (!decide (V.int i = V.int j)) := (rfl)
theorem ZmN (i j : Str) : Z4 .Eq (.sc (.str i)) (.sc (.str j)) = some (decide (V.str i = V.str j)) := (rfl)
theorem Zp5 (c : M D) (δ : List D) : ZbS c δ = bndR (fun d => lift (match d with | .sc (.bl b) => some b | _ => none)) (c δ) := bndA _ _ _
theorem or_f (b : M D) : T.orM b (.sc (.bl false)) = b := (rfl)
theorem or_t (b : M D) : T.orM b (.sc (.bl true)) = M.ret (.sc (.bl true)) := (rfl)
theorem Zp6 (b : Bool) : truW (.sc (.bl b)) = some b := (rfl)
theorem Zp7 (ds : List D) : bfW .len [.nd .lst ds] = some (.sc (.int ds.length)) := (rfl)
theorem ZmO (ds : List D) : bfW .list [.nd .lst ds] = some (.node .lst true ds) := (rfl)
theorem ZmP (c : M Op) : ZbR (.k .non) c = M.ret none := (rfl)
theorem ZmQ (i : Int) (c : M Op) : ZbR (.k (.int i)) c = ((c.bnd view).bnd fun w => lift (intP w)) := (rfl)
theorem ZmR (i : Nat) (c : M Op) : ZbR (.v i) c = ((c.bnd view).bnd fun w => lift (intP w)) := (rfl)
theorem ZmS (op : Operator) (a b : E) (c : M Op) : ZbR (.bin op a b) c = ((c.bnd view).bnd fun w => lift (intP w)) := (rfl)
theorem intp (i : Int) : intP (.sc (.int i)) = some (some i) := (rfl)
theorem sl_l (ds : List D) (l h : Option Int) : slD (.nd .lst ds) l h = some (.node .lst true (cutD ds l h)) := (rfl)
theorem sl_f (ds : List D) (l h : Option Int) : slD (.nd .frl ds) l h = some (.node .lst true (cutD ds l h)) := (rfl)
theorem ZeU (lk : Nat -> Bool) (is : List Nat) (ds : List D) : unpM lk is (.nd .tup ds) = ZaX lk is ds := (rfl)
theorem Zp8 (lk : Nat -> Bool) : ZaX lk [] [] = M.ret () := (rfl)
theorem Zp9 (lk : Nat -> Bool) (i : Nat) (is : List Nat) (d : D) (ds : List D) : ZaX lk (i :: is) (d :: ds) = ((asgN lk i d).bnd fun _ => ZaX lk is ds) := (rfl)
theorem ZmT (lk : Nat -> Bool) (i : Nat) (d : D) : asgT lk (.name i) d = asgN lk i d := (rfl)
theorem asgn (lk : Nat -> Bool) (i : Nat) (d : D) (δ : List D) : asgN lk i d δ = if (decide (i < δ.length) && !lk i) = true then .ok ((), δ.set i d) else .stuck := (rfl)
theorem ZmU : Z0 [] = M.ret ([], []) := (rfl)
theorem ZmV (p : Op) (ps : List Op) : Z0 (p :: ps) = ((Zai p).bnd fun w => (Z0 ps).bnd fun ws => M.ret (w.1 :: ws.1, w.2.toList ++ ws.2)) := (rfl)
noncomputable def hdR (i : Nat) (δ : List D) : Option D -> Rs ((W × Option (Nat × D)) × List D)
 | some (.sc v) => .ok ((.sc v, none), δ)
 | some (.node k false ds) => .ok ((.nd k ds, none), δ)
 | some (.node k true ds) => .ok ((.nd k (shrL ds), some (i, .node k true (shrL ds))), δ.set i .hole)
 | _ => .stuck
theorem ZmW (i : Nat) (δ : List D) : Zai (.late i) δ = hdR i δ δ[i]? := by
 unfold Zai hdR
 (try dsimp only)
 all_goals
  cases δ[i]? with
  | none => rfl
  | some d => cases d with
   | node k o ds => cases o <;> rfl
   | _ => rfl
theorem ZmX (i : Nat) (δ : List D) (v : V) : hdR i δ (some (.sc v)) = .ok ((.sc v, none), δ) := (rfl)
theorem ZpA (i : Nat) (δ : List D) (k : Kd) (ds : List D) : hdR i δ (some (.node k false ds)) = .ok ((.nd k ds, none), δ) := (rfl)
theorem ZpB (i : Nat) (δ : List D) (k : Kd) (ds : List D) : hdR i δ (some (.node k true ds)) = .ok ((.nd k (shrL ds), some (i, .node k true (shrL ds))), δ.set i .hole) := (rfl)
theorem ZmY (v : V) : Zai (.tmp (.sc v)) = M.ret (.sc v, none) := (rfl)
theorem ZmZ (k : Kd) (o : Bool) (ds : List D) : Zai (.tmp (.node k o ds)) = M.ret (.nd k (shrL ds), none) := (rfl)
theorem Zna : ZT [] = M.ret () := (rfl)
theorem Znb (i : Nat) (d : D) (r : List (Nat × D)) (δ : List D) : ZT ((i, d) :: r) δ = ZT r (δ.set i d) := (rfl)
theorem it_l (ds : List D) : itW .val [.nd .lst ds] = some ds := (rfl)
theorem it_1 (n : Int) (h : okR n = true) : itW .rng1 [.sc (.int n)] = some (rng 0 n) := if_pos h
theorem it_2 (a b : Int) (h : (okR a && okR b) = true) : itW .rng2 [.sc (.int a), .sc (.int b)] = some (rng a b) := if_pos h
noncomputable def mdR (i : Nat) (δ : List D) (f : Kd -> List D -> Option (D × Kd × List D)) : Option D -> Rs (D × List D)
 | some (.node k true ds) => match f k ds with
  | some (r, k', ds') => .ok (r, δ.set i (.node k' true ds'))
  | none => .stuck
 | _ => .stuck
theorem modA (i : Nat) (f : Kd -> List D -> Option (D × Kd × List D)) (δ : List D) : modS i f δ = mdR i δ f δ[i]? := by
 unfold modS mdR
 cases δ[i]? with
 | none => rfl
 | some d => cases d with
  | node k o ds => cases o <;> rfl
  | _ => rfl
theorem Zba (i : Nat) (δ : List D) (d : D) (ds : List D) (h : ds.length < sizeLine) : mdR i δ (appD d) (some (.node .lst true ds)) = .ok (.sc .non, δ.set i (.node .lst true (ds ++ [d]))) := by
 show (match (if ds.length < sizeLine then some (D.sc .non, Kd.lst, ds ++ [d]) else none) with | some (r, k', ds') => Rs.ok (r, δ.set i (.node k' true ds')) | none => .stuck) = _
 rw [if_pos h]
theorem Znc (i : Nat) (δ : List D) (d : D) (ds : List D) (n : Int) (j : Nat) (h : ixN' ds.length n = some j) : mdR i δ (Zb1 (.sc (.int n)) d) (some (.node .lst true ds)) = .ok (.sc .non, δ.set i (.node .lst true (ds.set j d))) := by
 show (match ((ixN' ds.length n).map fun j => (D.sc .non, Kd.lst, ds.set j d)) with | some (r, k', ds') => Rs.ok (r, δ.set i (.node k' true ds')) | none => .stuck) = _
 rw [h]
 rfl
theorem ZpC (i : Nat) (d : D) : appM i [d] = modS i (appD d) := (rfl)
noncomputable def ckR (δ : List D) : Option D -> Rs (Unit × List D)
 | some (.node .lst _ _) => .ok ((), δ)
 | _ => .stuck
theorem chkA (i : Nat) (δ : List D) : chkL i δ = ckR δ δ[i]? := by
 unfold chkL ckR
 cases δ[i]? with
 | none => rfl
 | some d => cases d with
  | node k o ds => cases k <;> rfl
  | _ => rfl
theorem ZpD (δ : List D) (o : Bool) (ds : List D) : ckR δ (some (.node .lst o ds)) = .ok ((), δ) := (rfl)
theorem ix_l (ds : List D) (i : Int) : ixW2 (.nd .lst ds) (.sc (.int i)) = (ixN' ds.length i).bind fun j => ds[j]? := (rfl)
theorem ix_t (ds : List D) (i : Int) : ixW2 (.nd .tup ds) (.sc (.int i)) = (ixN' ds.length i).bind fun j => ds[j]? := (rfl)
theorem ZaU (n j : Nat) (h : j < n) : ixN' n (j : Int) = some j := by
 unfold ixN'
 rw [if_pos (Int.natCast_nonneg j), if_pos (by omega)]
 simp
end T
namespace T
open PySem PySem.Spec L2
section
def r2C (K : Fg) (f : W -> W -> Option Bool) : R2 := fun x y H Q => ∃ (Hs : Hp) (w1 w2 : W) (m1 m2 : Bud) (t : Bool), Same Hs H /\ View K H Hs x w1 m1 /\ View K H Hs y w2 m2 /\ f w1 w2 = some t /\ Q (.bl t) H
theorem ZkX (op : CmpOp) (hu : X.A.units + 64 < cLine) : OpR X (compareOp op) (r2C X.K (cmpW op)) := by
 intro pins s σ H x y v u Q I rx ry h
 obtain ⟨Hs, w1, w2, m1, m2, t, hs, v1, v2, e, q⟩ := h
 unfold cmpW at e
 split at e
 . rcases Zic hs v1 v2 e with ⟨h3, rfl⟩ | ⟨d, f, h3, h4, h5, h6, rfl⟩
   . exact Zn5 pins s σ H _ _ v u Q I rx ry ⟨h3, q⟩
   . exact ZlR hu pins s σ H _ _ v u Q I rx ry ⟨d, f, h3, h4, h5, h6, q⟩
 . simp only [Option.map_eq_some_iff] at e
   obtain ⟨t, e, rfl⟩ := e
   rcases Zic hs v1 v2 e with ⟨h3, rfl⟩ | ⟨d, f, h3, h4, h5, h6, rfl⟩
   . exact Zn6 pins s σ H _ _ v u Q I rx ry ⟨h3, q⟩
   . exact ZlS hu pins s σ H _ _ v u Q I rx ry ⟨d, f, h3, h4, h5, h6, q⟩
 . rename_i i j _ _
   cases v1; cases v2
   cases op with
   | Lt => cases e; exact Zn7 pins s σ H _ _ v u Q I rx ry ⟨_, _, rfl, rfl, q⟩
   | LtE => cases e; exact Zn8 pins s σ H _ _ v u Q I rx ry ⟨_, _, rfl, rfl, q⟩
   | Gt => cases e; exact Zn9 pins s σ H _ _ v u Q I rx ry ⟨_, _, rfl, rfl, q⟩
   | GtE => cases e; exact ZnA pins s σ H _ _ v u Q I rx ry ⟨_, _, rfl, rfl, q⟩
   | _ => cases e
 . cases e
end
section
theorem RepL.erase : ∀ {vs : List V} {ds : List D} {m : Bud} {j : Nat} {d : D}, RepL K H Hs vs ds m -> ds[j]? = some d -> ∃ (v : V) (n1 n2 : Bud), vs[j]? = some v /\ Rep K H Hs v d n1 /\ RepL K H Hs (vs.eraseIdx j) (ds.eraseIdx j) n2 /\ ∀ b, n2 b + n1 b <= m b
 | _, _, _, j, d, .nil _, e => by simp at e
 | _, _, _, 0, d, .cons (m1 := m1) (m2 := m2) x r l, e => by
  (simp only [List.getElem?_cons_zero, Option.some.injEq] at e)
  subst e
  exact ⟨_, m1, m2, rfl, x, r, fun b => by have := l b; omega⟩
 | _, _, _, j + 1, d, .cons (m1 := m1) (m2 := m2) x r l, e => by
  simp only [List.getElem?_cons_succ] at e
  obtain ⟨v, n1, n2, h1, h2, h3, h4⟩ := RepL.erase r e
  refine ⟨v, n1, fun b => m1 b + n2 b, by simpa using h1, h2, .cons x h3 fun b => Nat.le_refl _, fun b => ?_⟩
  have := l b
  have := h4 b
  (try dsimp only)
  omega
end
theorem ZpE (hj : ixN' n i = some j) : seqIndex? i n = some j := by
 unfold ixN' at hj
 unfold seqIndex?
 split at hj
 . rename_i h0
   split at hj
   . cases hj
     have h1 : ¬ i < 0 := by omega
     simp only [if_neg h1]
     simp [*]
   . cases hj
 . rename_i h0
   split at hj
   . cases hj
     have h1 : i < 0 := by omega
     simp only [if_pos h1]
     have h2 : 0 <= i + (n : Int) := by omega
     have h3 : i + (n : Int) < n := by omega
     simp [h1, h2, h3]
   . cases hj
section
variable {X : Cx} {o e : Expr} {es : List Expr} {cpos apos : Pos} {i : Nat}
noncomputable def mutM (m : MM) (i : Nat) (cs : M (List Op)) : M D := (chkL i).bnd fun _ => cs.bnd fun ps => (views ps).bnd fun ws => modS i (mutD m ws)
theorem ZpF (h : tM X.K (mutM m i cs) σ H Q)
 (hr : ∀ (vs : List V) (H1 : Hp) (p0 : Addr) (d : D) (ws : List W) (Hs2 : Hp) (ds ds' : List D) (us : List V) (m2 m' : Bud), mutD m ws .lst ds = some (d, .lst, ds') -> Views X.K H1 Hs2 vs ws m2 -> H1 p0 = some (.lst us) -> RepL X.K H1 Hs2 us ds m' ->
  (∀ (us' : List V) (n' nr : Bud) (rv : V), (∀ b, n' b + nr b <= m' b + m2 b) -> RepL X.K H1 Hs2 us' ds' n' -> Rep X.K H1 Hs2 rv d nr -> Q rv (upd H1 p0 (.lst us'))) -> rr (.ref p0) vs H1 Q) :
 tBM X.K "list" rr (tVar i) (tPs X.K cs) σ H Q := by
 obtain ⟨δ, Hs, M, d, δ', g, s, ea, q⟩ := h
 obtain ⟨u, δ0, e0, eb⟩ := Zc ea
 obtain ⟨ps, δ1, e1, ec⟩ := Zc eb
 obtain ⟨rfl, p0, h1, h2⟩ := Zii g s e0
 refine ⟨_, h1, h2, δ0, Hs, M, ps, δ1, g, s, e1, fun vs H1 Hs1 m1 M1 g1 st1 r1 s1 => ?_⟩
 exact ZkF (m := m) g g1 st1 r1 s1 h1 ec q fun ws Hs2 ds ds' us m2 m' a b c d' f => hr vs H1 p0 d ws Hs2 ds ds' us m2 m' a b c d' f
theorem Zjm (ho : PE X o (tVar i)) (ha : PA X [e] (tPs X.K cs))
 (hbase : attributeBase o "pop" X.env (eval o X.env) = eval o X.env := by rfl)
 (hfew : ((backTo cpos (starEach [e] X.env)).all (fun x => !x.1) && (backToKw cpos (keywordEach [] X.env)).all (fun x => x.1.isSome)
  && decide ([e].length + ([] : List Keyword).length + (if ([] : List Keyword).isEmpty then 0 else 1) < 30)) = true := by rfl)
 (hline : (apos.endLine == cpos.line) = true := by rfl) (hs : starEach [e] X.env = (false, eval e X.env) :: starEach [] X.env := by rfl) (hplain : (backTo cpos (starEach [] X.env)).any (·.1) = false := by rfl) :
 PE X (.Call (.Attribute o "pop" apos) [e] [] cpos) (tM X.K (mutM .popAt i cs)) :=
 PE.imp (ZeQ PySem.F.plainAttrs_list PySem.F.slot_list_pop PySem.F.type_list_pop ZiQ ho ha hbase hfew hline hs hplain) fun σ H Q h => ZpF h fun vs H1 p0 d ws Hs2 ds ds' us m2 m' hm hv n rl fin => by
  unfold mutD at hm
  split at hm
  case h_3 =>
   split at hm
   . rename_i hl
     simp only [Option.bind_eq_some_iff, Option.map_eq_some_iff] at hm
     obtain ⟨j, hj, x, hx, hm⟩ := hm
     cases hm
     obtain ⟨v, m1, rfl, hv, l⟩ := hv.one
     cases hv
     obtain ⟨z, n1, n2, a1, a2, a3, a4⟩ := rl.erase hx
     refine ⟨p0, us, _, j, z, rfl, rfl, n, hl.1, hl.2, ?_, a1, fin _ n2 n1 z (fun b => by have := a4 b; omega) a3 a2⟩
     rw [rl.len]
     exact ZpE hj
   . cases hm
  all_goals (first | contradiction | cases hm)
end
section
theorem ZpG (h : tM K ((c.bnd view).bnd f) σ H Q) : tP K c σ H fun x H1 => ∃ (Hs : Hp) (w : W) (m : Bud), View K H1 Hs x w m /\ tM K (f w) σ H1 Q := by
 obtain ⟨δ, Hs, M, d, δ', g, s, e, q⟩ := h
 obtain ⟨w, δ2, e, e5⟩ := Zc e
 obtain ⟨p, δ1, e1, e3⟩ := Zc e
 refine ⟨δ, Hs, M, p, δ1, g, s, e1, fun x H2 Hs2 m1 M2 g2 st2 r1 s2 => ?_⟩
 obtain ⟨Hs3, M3, g3, st3, v1, s3⟩ := ZV (B := m1) g2 s2 r1 e3
 have z := Zq (m1 := fun _ => 0) g (g2.re fun b => by simp) (st2.drop (fun b => by simp) g2.le) g3 st3
 have st : Stp H Hs M H2 Hs3 (fun b => m1 b + M3 b) := z.2.1.drop (fun b => by simp) z.1.le
 have G : Good H2 Hs3 (fun b => (fun _ => 0) b + M3 b) := g3.re fun b => by simp
 have st' : Stp H Hs M H2 Hs3 (fun b => (fun _ => 0) b + M3 b) := st.drop (fun b => by simp) g3.le
 refine ⟨Hs3, w, m1, v1, δ2, Hs3, M3, d, δ', g3.re, s3, e5, fun v H' Hs' m M' g' sx r s' => q v H' Hs' m M' g' ?_ r s'⟩
 have z2 := Zq (m1 := fun _ => 0) g G st' g' sx
 exact z2.2.1.drop (fun b => by simp) z2.1.le
def PF (X : Cx) (es : List Expr) (f : Str -> M D) : Prop := ∃ ts, PEs X es ts /\ ∀ acc σ H Q, tM X.K (f acc) σ H Q -> ZeT ts acc σ H Q
theorem Zhi : PF X [] fun acc => M.ret (.sc (.str acc)) := ⟨[], .nil, fun acc σ H Q z0 => by
 obtain ⟨δ, Hs, M, d, δ', g, s, e, q⟩ := z0
 have := Zh e
 cases this
 exact q _ H Hs (fun _ => 0) M (Zaq g) (stp0 H Hs M) (.sc _ _) s⟩
theorem Zf9 (h : tM K ((lift o).bnd f) σ H Q) : ∃ a, o = some a /\ tM K (f a) σ H Q := by
 obtain ⟨δ, Hs, M, d, δ', g, s, e, q⟩ := h
 obtain ⟨a, δ1, e1, e2⟩ := Zc e
 obtain ⟨e3, rfl⟩ := Z9 e1
 exact ⟨a, e3, δ1, Hs, M, d, δ', g, s, e2, q⟩
theorem ZgE (v : View K H Hs x w m) (h : fmtW acc w = some z) : ∃ y, fmtV x = some y /\ y.length <= sizeLine /\ (acc ++ y).length <= sizeLine /\ z = acc ++ y := by
 cases v with
 | sc v m =>
  have h : ((fmtD x).bind fun z => if z.length <= sizeLine /\ (acc ++ z).length <= sizeLine then some (acc ++ z) else none) = some z := h
  simp only [Option.bind_eq_some_iff] at h
  obtain ⟨y, h1, h2⟩ := h
  split at h2
  . rename_i hl
    cases h2
    exact ⟨y, h1, hl.1, hl.2, rfl⟩
  . cases h2
 | nd n r => cases h
theorem Zhj (ha : PE X e (tP X.K ca)) (hr : PF X es f) : PF X (.FormattedValue e (-1) none pos :: es) fun acc => (ca.bnd view).bnd fun w => (lift (fmtW acc w)).bnd f := by
 obtain ⟨ts, h1, h2⟩ := hr
 refine ⟨_ :: ts, .cons (ZlV ha) h1, fun acc σ H Q h => ?_⟩
 obtain ⟨δ, Hs, M, p, δ1, g, s, e1, q⟩ := ZpG h
 refine ⟨δ, Hs, M, p, δ1, g, s, e1, fun x H1 Hs1 m M1 g1 st1 r1 s1 => ?_⟩
 obtain ⟨Hs2, w, m2, v, h3⟩ := q x H1 Hs1 m M1 g1 st1 r1 s1
 obtain ⟨z, h4, h5⟩ := Zf9 h3
 obtain ⟨y, a1, a2, a3, rfl⟩ := ZgE v h4
 exact ⟨y, a1, a2, y, rfl, a3, h2 _ _ _ _ h5⟩
theorem Zhk {j pos'} (hr : PF X es f) : PF X (.Constant (.str z) j pos' :: es) fun acc => (((M.ret (D.sc (.str z))).bnd fun d => M.ret (Op.tmp d)).bnd view).bnd fun w => (lift (fmtW acc w)).bnd f := by
 obtain ⟨ts, h1, h2⟩ := hr
 refine ⟨_ :: ts, .cons Zr h1, fun acc σ H Q h => ?_⟩
 have h' : tM X.K ((lift (fmtW acc (.sc (.str z)))).bnd f) σ H Q := h
 obtain ⟨y, h4, h5⟩ := Zf9 h'
 obtain ⟨y, a1, a2, a3, rfl⟩ := ZgE (K := X.K) (H := H) (Hs := H) (View.sc (V.str z) (fun _ => 0)) h4
 cases a1
 exact ⟨_, rfl, a3, h2 _ _ _ _ h5⟩
theorem Zhl (h : PF X (a :: b :: es) f) : PE X (.JoinedStr (a :: b :: es) pos) (tM X.K (f Str.empty)) := by
 obtain ⟨ts, h1, h2⟩ := h
 exact PE.imp (Zk8 h1) fun σ H Q h => h2 _ _ _ _ h
end
end T
namespace T
open PySem PySem.Spec L2
theorem Zdo (h : keyD v = some k) : v = kV k := by
 unfold keyD at h
 split at h <;> cases h <;> rfl
theorem ZaQ {β : Type} [DecidableEq β] {k : β} : ∀ {ks : List β} {vs : List V}, L2.valV (ks.zip vs) k = Z3 k ks vs
 | [], _ => by simp [Z3, L2.Zfo]
 | _ :: _, [] => by simp [Z3, L2.Zfo]
 | j :: ks, v :: vs => by
  rw [List.zip_cons_cons]
  unfold Z3
  by_cases e : j = k
  . rw [if_pos e, L2.Zct (p := (j, v)) e]
  . rw [if_neg e, L2.Zcu (p := (j, v)) e]
    exact ZaQ
section
variable {K : Fg} {H Hs : Hp}
theorem RepL.look {β : Type} [DecidableEq β] {k : β} {d : D} : ∀ {ks : List β} {vs : List V} {ds : List D} {m : Bud}, RepL K H Hs vs ds m -> Z3 k ks ds = some d -> ∃ (v : V) (m1 : Bud), Z3 k ks vs = some v /\ Rep K H Hs v d m1 /\ ∀ b, m1 b <= m b
 | [], _, _, _, .nil _, e => by cases e
 | _ :: _, _, _, _, .nil _, e => by cases e
 | [], _, _, _, .cons x r l, e => by cases e
 | j :: ks, _, _, _, .cons (m1 := m1) (m2 := m2) x r l, e => by
  unfold Z3 at e ⊢
  by_cases h : j = k
  . rw [if_pos h] at e ⊢
    cases e
    exact ⟨_, m1, rfl, x, fun b => by have := l b; omega⟩
  . rw [if_neg h] at e ⊢
    obtain ⟨v, n1, h1, h2, h3⟩ := RepL.look r e
    exact ⟨v, n1, h1, h2, fun b => by have := l b; have := h3 b; omega⟩
theorem RepL.lookS {β : Type} [DecidableEq β] {k : β} : ∀ {ks : List β} {vs : List V} {ds : List D} {m : Bud}, RepL K H Hs vs ds m -> (Z3 k ks vs).isSome = (Z3 k ks ds).isSome
 | [], _, _, _, .nil _ => rfl
 | _ :: _, _, _, _, .nil _ => rfl
 | [], _, _, _, .cons x r l => rfl
 | j :: ks, _, _, _, .cons x r l => by
  unfold Z3
  by_cases h : j = k
  . rw [if_pos h, if_pos h]; rfl
  . rw [if_neg h, if_neg h]; exact RepL.lookS r
theorem Zjn {β : Type} [DecidableEq β] {p : β × V} {r : List (β × V)} {k : β} {v : V} (e : ¬ p.1 = k) : putK (p :: r) k v = p :: putK r k v := by
 unfold putK
 rw [List.any_cons, decide_eq_false e, Bool.false_or]
 split
 . rw [List.map_cons, if_neg e]
 . rfl
theorem ZfA {β : Type} [DecidableEq β] {k : β} {v : V} : ∀ {ks : List β} {vs : List V}, k ∉ ks -> (ks.zip vs).map (fun kv => if kv.1 = k then (kv.1, v) else kv) = ks.zip vs
 | [], _, _ => rfl
 | _ :: _, [], _ => rfl
 | j :: ks, x :: vs, h => by
  rw [List.zip_cons_cons, List.map_cons, if_neg (fun e : j = k => h (e ▸ List.mem_cons_self)), ZfA fun q => h (List.mem_cons_of_mem _ q)]
theorem RepL.stor {β : Type} [DecidableEq β] {k : β} {d : D} {v : V} {n : Bud} (x : Rep K H Hs v d n) : ∀ {ks ks' : List β} {vs : List V} {ds ds' : List D} {m : Bud}, ks.length = vs.length -> RepL K H Hs vs ds m -> ZbP k d ks ds = some (ks', ds') ->
 ∃ vs', ks'.length = vs'.length /\ RepL K H Hs vs' ds' (fun b => m b + n b) /\ putK (ks.zip vs) k v = ks'.zip vs'
 | [], _, _, _, _, _, hl, .nil m, e => by
  cases e
  exact ⟨[v], rfl, .cons x (.nil m) fun b => by omega, rfl⟩
 | _ :: _, _, _, _, _, _, hl, .nil m, e => by cases e
 | [], _, _, _, _, _, hl, .cons y r l, e => by cases e
 | j :: ks, ks', y0 :: vs, x0 :: ds, ds', m, hl, .cons (m1 := m1) (m2 := m2) y r l, e => by
  have hl : ks.length = vs.length := Nat.succ.inj hl
  unfold ZbP at e
  by_cases h : j = k
  . rw [if_pos h] at e
    split at e
    . cases e
    . rename_i hk
      have hk : k ∉ ks := fun hm => hk (List.any_eq_true.mpr ⟨k, hm, decide_eq_true rfl⟩)
      cases e
      refine ⟨v :: vs, by simp [hl], .cons x r fun b => by have := l b; (try dsimp only); omega, ?_⟩
      rw [List.zip_cons_cons, List.zip_cons_cons]
      unfold putK
      rw [List.any_cons, decide_eq_true (show (j, y0).1 = k from h), Bool.true_or, if_pos rfl, List.map_cons, if_pos h, ZfA hk]
  . rw [if_neg h] at e
    simp only [Option.map_eq_some_iff] at e
    obtain ⟨⟨ks2, ds2⟩, e2, e3⟩ := e
    cases e3
    obtain ⟨vs2, h1, h2, h3⟩ := RepL.stor x hl r e2
    refine ⟨y0 :: vs2, by simp [h1], .cons y h2 fun b => by have := l b; (try dsimp only); omega, ?_⟩
    rw [List.zip_cons_cons, Zjn (show ¬ (j, y0).1 = k from h), h3]
    rfl
end
section
variable {X : Cx} {a b o e k : Expr} {pos pos' : Pos} {i : Nat} {lk : Nat -> Bool}
theorem Zb8 (h : tP K c σ H R) (w : ∀ v H', R v H' -> R' v H') : tP K c σ H R' := by
 obtain ⟨δ, Hs, M, a, δ', g, s, e, q⟩ := h
 exact ⟨δ, Hs, M, a, δ', g, s, e, fun v H' Hs' m M' g' st r s' => w v H' (q v H' Hs' m M' g' st r s')⟩
theorem Zac {α β : Type} {c : M α} {f : α -> M β} {δ δ' : List D} {x : α} (h : c δ = .ok (x, δ')) : c.bnd f δ = f x δ' := by
 unfold M.bnd
 rw [h]
theorem PE.or (h : PE X e t) (h' : PE X e t') : PE X e fun σ H Q => t σ H Q \/ t' σ H Q := fun pins s σ H Q I q => q.elim (h pins s σ H Q I) (h' pins s σ H Q I)
theorem Zip {K : Fg} {H Hs : Hp} {v : V} {d : D} {m : Bud} {p : Pl} (hs : Same Hs H) (r : Rep K H Hs v d m) (e : plD d = some p) : PlH (KT0 K) H p v := by
 unfold plD at e
 split at e
 . cases e; cases r; rfl
 . cases e
   cases r with
   | own n r l =>
    cases r with
    | cons r1 rr _ => cases r1; cases rr with | cons r2 rr _ => cases r2; cases rr; exact ⟨_, rfl, .inl n⟩
   | shd n r =>
    cases r with
    | cons r1 rr _ => cases r1; cases rr with | cons r2 rr _ => cases r2; cases rr; exact ⟨_, rfl, .inl (hs _ _ n)⟩
 . cases e
   cases r with
   | own n r l =>
    cases r with
    | cons r1 rr _ => cases r1; cases rr with | cons r2 rr _ => cases r2; cases rr; exact ⟨_, rfl, .inl n⟩
   | shd n r =>
    cases r with
    | cons r1 rr _ => cases r1; cases rr with | cons r2 rr _ => cases r2; cases rr; exact ⟨_, rfl, .inl (hs _ _ n)⟩
 . split at e
   . rename_i hc
     subst hc
     cases e
     cases r with
     | own n r l => exact n.elim
     | shd n r =>
      cases r with
      | cons r1 rr _ =>
       cases r1
       cases rr with
       | cons r2 rr _ =>
        cases r2
        cases rr
        refine ⟨_, rfl, .inr ⟨?_, rfl⟩⟩
        obtain ⟨o, its, nn, h1, h2, h3, _, h5⟩ := n
        obtain ⟨its⟩ := its
        cases h5 with
        | cons q1 q2 =>
         obtain ⟨t, rfl⟩ := q1
         cases q2 with
         | cons q2 q3 =>
          cases q3
          cases q2
          exact ⟨o, t, nn, h1, h2, h3⟩
   . cases e
 . cases e
theorem Zci {K : Fg} {H Hs : Hp} {v : V} {w : W} {m : Bud} {k : Pl × Pl} (hs : Same Hs H) (x : View K H Hs v w m) (e : keyP w = some k) : ∃ b, v = .ref b /\ PKH (KT0 K) H k b := by
 unfold keyP at e
 split at e
 . simp only [Option.bind_eq_some_iff, Option.map_eq_some_iff] at e
   obtain ⟨p1, e1, p2, e2, rfl⟩ := e
   cases x with
   | nd n r =>
    cases r with
    | cons r1 rr _ => cases rr with | cons r2 rr _ => cases rr; exact ⟨_, rfl, _, _, n, Zip hs r1 e1, Zip hs r2 e2⟩
 . cases e
theorem Zj {ca cb : M Op} (hu : X.A.units + 64 < cLine) (ha : PE X a (tP X.K ca)) (hb : PE X b (tP X.K cb)) (hs : Zed b := by intro _ _; rfl) :
 PE X (.Subscript a b pos) (tM X.K (ca.bnd fun p => cb.bnd fun q => (view p).bnd fun x => (view q).bnd fun y => lift (ixW2 x y))) :=
 PE.imp (PE.or (ZjE ZnY ha hb hs) (Zkz (by omega) ha hb hs)) fun σ H Q h => by
  obtain ⟨δ, Hs, M, d, δ', g, s, e, q⟩ := h
  obtain ⟨p, δ1, e1, e⟩ := Zc e
  obtain ⟨p2, δ2, e2, e⟩ := Zc e
  obtain ⟨w1, δ3, e3, e⟩ := Zc e
  obtain ⟨w2, δ4, e4, e⟩ := Zc e
  obtain ⟨e5, rfl⟩ := Z9 e
  have back : ∀ f : W -> W -> Option D, f w1 w2 = some d -> tM X.K (ca.bnd fun p => cb.bnd fun q => (view p).bnd fun x => (view q).bnd fun y => lift (f x y)) σ H Q := fun f hf => by
   refine ⟨δ, Hs, M, d, _, g, s, ?_, q⟩
   rw [Zac e1, Zac e2, Zac e3, Zac e4, hf]
   rfl
  unfold ixW2 at e5
  split at e5
  . right
    refine Zb8 (op2 (back ixD e5)) fun x H1 h1 => Zb8 h1 fun y H2 h2 => ?_
    obtain ⟨Hs2, w1', w2', m1, m2, d2, hs2, l1, l2, v1, v2, e6, oo⟩ := h2
    unfold ixD at e6
    split at e6
    . simp only [Option.bind_eq_some_iff] at e6
      obtain ⟨kk, hk, hl⟩ := e6
      cases v1 with
      | nd n r =>
       cases v2
       obtain ⟨z, n1, h3, h4, h5⟩ := r.look hl
       have hy := Zdo hk
       subst hy
       have g := DGet.k (K := X.K) (k := kk) n.2
       rw [ZaQ, h3] at g
       exact ⟨_, z, rfl, g, oo.part l1 l2 (fun b => by have := h5 b; omega) h4⟩
    . rename_i heq _; simp only [Option.bind_eq_some_iff] at e6; obtain ⟨kk, hk, hl⟩ := e6; cases v1 with | nd n r => (obtain ⟨b, rfl, hb⟩ := Zci hs2 v2 hk; obtain ⟨z, n1, h3, h4, h5⟩ := r.look hl; have g := DGet.t n.2 hb; rw [ZaQ, h3] at g; exact ⟨_, z, rfl, g, oo.part l1 l2 (fun b => by have := h5 b; omega) h4⟩)
    . cases e6
  . right
    refine Zb8 (op2 (back ixD e5)) fun x H1 h1 => Zb8 h1 fun y H2 h2 => ?_
    obtain ⟨Hs2, w1', w2', m1, m2, d2, hs2, l1, l2, v1, v2, e6, oo⟩ := h2
    unfold ixD at e6
    split at e6
    . simp only [Option.bind_eq_some_iff] at e6
      obtain ⟨kk, hk, hl⟩ := e6
      cases v1 with
      | nd n r =>
       cases v2
       obtain ⟨z, n1, h3, h4, h5⟩ := r.look hl
       have hy := Zdo hk
       subst hy
       have g := DGet.k (K := X.K) (k := kk) n.2
       rw [ZaQ, h3] at g
       exact ⟨_, z, rfl, g, oo.part l1 l2 (fun b => by have := h5 b; omega) h4⟩
    . rename_i heq _; simp only [Option.bind_eq_some_iff] at e6; obtain ⟨kk, hk, hl⟩ := e6; cases v1 with | nd n r => (obtain ⟨b, rfl, hb⟩ := Zci hs2 v2 hk; obtain ⟨z, n1, h3, h4, h5⟩ := r.look hl; have g := DGet.t n.2 hb; rw [ZaQ, h3] at g; exact ⟨_, z, rfl, g, oo.part l1 l2 (fun b => by have := h5 b; omega) h4⟩)
    . cases e6
  . exact .inl (op2 (back ixW e5))
theorem ZjQ (p : Bool) (op : CmpOp) (hop : op = if p then .In else .NotIn) (hu : X.A.units + 64 < cLine) : OpR X (compareOp op) (r2C X.K (inD p)) := by
 intro pins s σ H x y v u Q I rx ry h
 obtain ⟨Hs, w1, w2, m1, m2, t, hs, v1, v2, e, q⟩ := h
 unfold inD at e
 split at e
 . simp only [Option.map_eq_some_iff] at e
   obtain ⟨kk, hk, rfl⟩ := e
   cases v2 with
   | @nd a _ vs _ _ n r =>
    cases v1
    have hy := Zdo hk
    subst hy
    obtain rfl : u = Value.ref a := ry
    have g := DGet.k (K := X.K) (k := kk) n.2
    rw [ZaQ] at g
    have es := fun ks => r.lookS (k := kk) (ks := ks)
    cases p with
    | true =>
     subst hop
     refine d_in (by omega) I g rx fun s' I' => ⟨.bl _, H, I', rfl, ?_⟩
     rw [es]
     simpa using q
    | false =>
     subst hop
     refine Zg0 (by omega) I g rx fun s' I' => ⟨.bl _, H, I', rfl, ?_⟩
     rw [es]
     have z : ∀ c : Bool, (c == false) = !c := by decide
     rw [z] at q
     exact q
 . simp only [Option.map_eq_some_iff] at e
   obtain ⟨kk, hk, rfl⟩ := e
   cases v2 with
   | @nd a _ vs _ _ n r =>
    obtain ⟨b, rfl, hb⟩ := Zci hs v1 hk
    obtain rfl : u = Value.ref a := ry
    have g := DGet.t n.2 hb
    rw [ZaQ] at g
    have es := fun ks => r.lookS (k := kk) (ks := ks)
    cases p with
    | true =>
     subst hop
     refine d_in (by omega) I g rx fun s' I' => ⟨.bl _, H, I', rfl, ?_⟩
     rw [es]
     simpa using q
    | false =>
     subst hop
     refine Zg0 (by omega) I g rx fun s' I' => ⟨.bl _, H, I', rfl, ?_⟩
     rw [es]
     have z : ∀ c : Bool, (c == false) = !c := by decide
     rw [z] at q
     exact q
 . cases e
theorem ZgF (op : CmpOp) (hu : X.A.units + 64 < cLine) : OpR X (compareOp op) (r2C X.K (Z4 op)) := by
 by_cases h1 : op = .In
 . subst h1
   exact ZjQ true .In rfl hu
 . by_cases h2 : op = .NotIn
   . subst h2
     exact ZjQ false .NotIn rfl hu
   . have e : Z4 op = cmpW op := by
      funext x y
      unfold Z4
      split
      . exact absurd rfl h1
      . exact absurd rfl h2
      . rfl
     rw [e]
     exact ZkX op hu
theorem op2C (h : tM K (ca.bnd fun p => cb.bnd fun q => (view p).bnd fun x => (view q).bnd fun y => lift ((f x y).map fun t => .sc (.bl t))) σ H Q) : tOp (r2C K f) (tP K ca) (tP K cb) σ H Q :=
 Zb8 (op2 (f := fun x y => (f x y).map fun t => .sc (.bl t)) h) fun x H1 h1 => Zb8 h1 fun y H2 h2 => by
  obtain ⟨Hs2, w1, w2, m1, m2, d2, hs2, l1, l2, v1, v2, e, oo⟩ := h2
  simp only [Option.map_eq_some_iff] at e
  obtain ⟨t, e, rfl⟩ := e
  exact ⟨Hs2, w1, w2, m1, m2, t, hs2, v1, v2, e, oo.sc⟩
theorem Zdp (hu : X.A.units + 64 < cLine) (ha : PE X a (tP X.K ca)) (hb : PE X b (tP X.K cb)) (hm : behindInMarks op b = false := by first | exact nomark _ | with_unfolding_all rfl) :
 PE X (.Compare a [op] [b] pos) (tM X.K (ca.bnd fun p => cb.bnd fun q => (view p).bnd fun x => (view q).bnd fun y => lift ((Z4 op x y).map fun t => .sc (.bl t)))) := PE.imp (Zkk (ZgF op hu) ha hb hm) fun σ H Q h => op2C h
theorem Zp (hu : X.A.units + 64 < cLine) (ha : PE X a (tP X.K ca)) (hb : PE X b (tP X.K cb)) (hm : behindInMarks op b = false := by first | exact nomark _ | with_unfolding_all rfl) :
 PT X (.Compare a [op] [b] pos) (tT X.K (ZbS (ca.bnd fun p => cb.bnd fun q => (view p).bnd fun x => (view q).bnd fun y => lift ((Z4 op x y).map fun t => .sc (.bl t))))) := PT.imp (Zkl (ZgF op hu) ha hb hm) fun σ H Q h => op2C (Zg3 h)
def ZpH (K : Fg) : V -> V -> V -> Hp -> (Hp -> Prop) -> Prop := fun o i v H Q => ZjF o i v H Q \/ ∃ a H', o = .ref a /\ DPut K H a i v H' /\ Q H'
theorem ZpI (hu : X.A.units + 64 < cLine) : PSet X (ZpH X.K) := by
 intro pins s σ H o i v ov iv u Q I ro ri rv h
 rcases h with h | ⟨a, H', rfl, g, q⟩
 . exact Zfl pins s σ H o i v ov iv u Q I ro ri rv h
 . obtain rfl : ov = Value.ref a := ro
   exact ZhU (by omega) I g ri rv fun s' I' => ⟨H', I', q⟩
theorem Zb9 (hu : X.A.units + 64 < cLine) (ho : PE X o (tVar i)) (hk : PE X k (tP X.K ck)) (he : PE X e (tM X.K c))
 (ha : ∀ v, assign (.Subscript o k pos') X.env v = (do
  let ov <- holding [v] (eval o X.env)
  let iv <- holding [v, ov] (eval k X.env)
  standAt pos'
  holding [v, ov, iv] (setItem ov iv v)
  release [v, ov, iv] []) := by intro _; rfl)
 (hs : swapsWithSole [.Subscript o k pos'] e pos.line X.env = pure false := by rfl) (hw : swappedStores [.Subscript o k pos'] e X.env = pure none := by rfl)
 (h1 : (assignEach [.Subscript o k pos'] X.env).map (·.2) = [assign (.Subscript o k pos') X.env] := by rfl) :
 PS X (.Assign [.Subscript o k pos'] e pos) (tS X.K lk (c.bnd fun d => (ZL i).bnd fun _ => (ck.bnd view).bnd fun w => (modS i (Zb1 w d)).bnd fun _ => M.ret .nx)) :=
 PS.imp (Zfe he (ZhC ho hk (ZpI hu) ha) hs hw h1) fun E σ H h => by
 obtain ⟨δ, Hs, M, f, δ', g, s, ea, q⟩ := h
 obtain ⟨d, δ1, e1, eb⟩ := Zc ea
 obtain ⟨p0, δ2, e2, ec⟩ := Zc eb
 obtain ⟨w, δ3, e3, ed⟩ := Zc ec
 obtain ⟨p, δ4, e4, e5⟩ := Zc e3
 obtain ⟨r0, δ5, e6, e7⟩ := Zc ed
 have := Zh e7
 cases this
 obtain ⟨kk, ds0, k', ds', hi, hf, rfl⟩ := Zdf e6
 refine ⟨δ, Hs, M, d, δ1, g, s, e1, fun v H1 Hs1 m1 M1 g1 st1 r1 s1 => ?_⟩
 obtain ⟨rfl, vo, ho⟩ := Zg6 s1 e2
 refine ⟨vo, ho, δ2, Hs1, M1, p, δ4, g1.re, s1, e4, fun y H2 Hs2 m2 M2 g2 st2 r2 s2 => ?_⟩
 obtain ⟨G2, S2, k2⟩ := Zq g g1 st1 g2 st2
 have r1' := r1.frame st2.grow k2
 obtain ⟨Hs3, M3, g3, st3, v3, s3⟩ := ZV (B := fun b => m1 b + m2 b) (G2.re fun b => by (try dsimp only); omega) s2 r2 e5
 have r1'' := r1'.frame (H' := H2) st3.grow fun _ _ _ => rfl
 obtain ⟨p1, us, m', n2, e8, n, rl, le, fin⟩ := modL g3 s3 hi
 rw [ho] at e8
 cases e8
 have S2' : Stp H Hs M H2 Hs2 (fun b => m1 b + m2 b + M2 b) := S2.drop (fun b => by omega) G2.le
 have G2' : Good H2 Hs2 (fun b => m1 b + m2 b + M2 b) := G2.re fun b => by omega
 have z3 := Zq (m1 := fun _ => 0) g (G2'.re fun b => by simp) (S2'.drop (fun b => by simp) G2'.le) g3 st3
 have S3 : Stp H Hs M H2 Hs3 (fun b => m1 b + m2 b + M3 b) := z3.2.1.drop (fun b => by simp) z3.1.le
 have last : ∀ (ob : HO) (us' : List V) (n' : Bud), (∀ b, n' b <= m' b + m1 b) -> Zaz X.K (upd H2 p1 ob) p1 us' k' -> RepL X.K H2 Hs3 us' ds' n' -> E.nx σ (upd H2 p1 ob) := fun ob us' n' hn no rn => by
  obtain ⟨G, S, R, SS⟩ := fin ob k' us' ds' n' (fun _ => 0) .non (.sc .non) (fun b => by have := hn b; (try dsimp only); omega) no rn (.sc _ _)
  have z := Zq (m1 := fun _ => 0) g (g3.re fun b => by simp) (S3.drop (fun b => by simp) g3.le) G S
  exact q σ _ Hs3 _ (Keeps.refl _ _) (G.re fun b => by (try dsimp only); omega) ((z.2.1.drop (fun b => by simp) z.1.le).drop (fun b => by (try dsimp only); omega) G.le) SS
 unfold Zb1 at hf
 split at hf
 . split at hf
   . rename_i hz
     simp only [Option.bind_eq_some_iff, Option.map_eq_some_iff] at hf
     obtain ⟨kk, hk, rr, hst, hf⟩ := hf
     cases hf
     obtain ⟨b, rfl, hb⟩ := Zci g3.sub v3 hk
     obtain ⟨us', h1, h2, h3⟩ := RepL.stor r1'' n.1 rl hst
     right
     have hl := rl.len
     have hp := DPut.t (v := v) n.2 hb (by rw [List.length_zip, n.1]; omega)
     rw [h3] at hp
     exact ⟨p1, _, rfl, hp, last _ us' _ (fun b => Nat.le_refl _) ⟨h1, Zl⟩ h2⟩
   . cases hf
 . split at hf
   . split at hf
     . rename_i hz
       simp only [Option.bind_eq_some_iff, Option.map_eq_some_iff] at hf
       obtain ⟨kk, hk, rr, hst, hf⟩ := hf
       cases hf
       cases v3
       have hy := Zdo hk
       subst hy
       obtain ⟨us', h1, h2, h3⟩ := RepL.stor r1'' n.1 rl hst
       right
       have hl := rl.len
       have hp := DPut.k (K := X.K) (k := kk) (v := v) n.2 (by rw [List.length_zip, n.1]; omega)
       rw [h3] at hp
       exact ⟨p1, _, rfl, hp, last _ us' _ (fun b => Nat.le_refl _) ⟨h1, Zl⟩ h2⟩
     . cases hf
   . cases hf
 . unfold setD at hf
   split at hf
   . split at hf
     . rename_i nn
       simp only [Option.map_eq_some_iff] at hf
       obtain ⟨jj, hj, hf⟩ := hf
       cases hf
       cases v3
       have hl := rl.len
       have hjj : ixN us.length nn = some jj := by rw [hl]; exact hj
       have hlt : jj < ds0.length := by
        unfold ixN' at hj
        split at hj
        . split at hj
          . cases hj; omega
          . cases hj
        . split at hj
          . cases hj; omega
          . cases hj
       exact .inl ⟨p1, us, nn, jj, rfl, rfl, n, hjj, last (.lst (us.set jj v)) (us.set jj v) _ (fun b => Nat.le_refl _) Zl (rl.set (List.getElem?_eq_getElem hlt) r1'')⟩
     . cases hf
   . cases hf
end
end T
namespace T
open PySem PySem.Spec L2
theorem ZpJ (hg : Gl X x) (h : ∃ t, X.mg x = some (.int i t)) (hd : (x == ("__debug__" : Str)) = false) : PE X (.Name x p) (tM X.K (M.ret (.sc (.int i)))) := by
 obtain ⟨t, h⟩ := h
 exact ok_k (Zeb hg h ⟨t, rfl⟩ hd)
theorem ZpK (hc : X.calm = true) (hg : PGs X es (gNs is)) (hn : (assignEach es X.env).length = is.length := by rfl) (hst : (assignEach es X.env).findIdx? (·.1) = none := by rfl) : PG X (.Tuple es k1 q) (gT X.K (.tup is)) := Zij hc hg hn hst
end T
namespace T
open PySem PySem.Spec L2 PySem.W
noncomputable abbrev dI (xs : List Int) : List D := xs.map fun i => D.sc (.int i)
theorem ZaV (x : Int) (xs : List Int) : dI (x :: xs) = .sc (.int x) :: dI xs := (rfl)
theorem ZfB : dI [] = [] := (rfl)
theorem Znd (xs ys : List Int) : dI (xs ++ ys) = dI xs ++ dI ys := List.map_append
theorem ZfC (xs : List Int) : (dI xs).length = xs.length := List.length_map _
theorem Za4 (xs : List Int) : shrL (dI xs) = dI xs := by
 induction xs with
 | nil => rfl
 | cons x xs ih => simp only [List.map_cons, shrL, shr] at ih ⊢; rw [ih]
theorem Zgm (xs : List Int) : ZaI (dI xs) = some xs := by
 induction xs with
 | nil => rfl
 | cons x xs ih => simp only [List.map_cons, ZaI] at ih ⊢; rw [ih]; rfl
theorem ZpL (ds : List D) : bfW .sum [.nd .lst ds] = (ZaI ds).map fun is => .sc (.int is.sum) := (rfl)
theorem Zjo (xs : List Int) : bfW .sum [.nd .lst (dI xs)] = some (.sc (.int xs.sum)) := by rw [ZpL, Zgm]; rfl
theorem ZjR (w : W) : bfW (.isi .bool) [w] = (tyW .bool w).map fun b => .sc (.bl b) := (rfl)
noncomputable def cutI (xs : List Int) (lo hi : Option Int) : List Int := (xs.drop (HT.sIx xs.length 0 lo)).take (HT.sIx xs.length xs.length hi - HT.sIx xs.length 0 lo)
theorem ZfD (xs : List Int) (lo hi : Option Int) : cutD (dI xs) lo hi = dI (cutI xs lo hi) := by
 unfold cutD cutI
 simp only [List.length_map, List.map_take, List.map_drop]
noncomputable def rngI : Int -> Nat -> List Int
 | _, 0 => []
 | a, n + 1 => a :: rngI (a + 1) n
theorem ZkY (a : Int) : ∀ (n : Nat) (f : Nat -> Int), (∀ k, f k = a + k) -> (List.range n).map (fun k => D.sc (.int (f k))) = dI (rngI a n) := by
 intro n
 induction n generalizing a with
 | zero => intro f _; rfl
 | succ n ih =>
  intro f hf
  (rw [List.range_succ_eq_map, List.map_cons, List.map_map])
  show _ = D.sc (.int a) :: dI (rngI (a + 1) n)
  have h0 : f 0 = a := by rw [hf]; simp
  rw [h0]
  congr 1
  exact ih (a + 1) (fun k => f (k + 1)) fun k => by rw [hf]; omega
theorem ZfE (a b : Int) : rng a b = dI (rngI a (b - a).toNat) := ZkY a _ (fun k => a + k) fun k => rfl
theorem ZfF (a : Int) : ∀ n, (rngI a n).length = n := by
 intro n
 induction n generalizing a with
 | zero => rfl
 | succ n ih => rw [rngI, List.length_cons, ih]
theorem ZdS (n : Int) (h : -(2 ^ 62) <= n /\ n < 2 ^ 62) : itW .rng1 [.sc (.int n)] = some (dI (rngI 0 n.toNat)) := by
 rw [it_1 n (by simp only [okR, Bool.and_eq_true, decide_eq_true_eq]; exact h), ZfE]
 have : n - 0 = n := by omega
 rw [this]
theorem ZpM (a b : Int) (h : -(2 ^ 62) <= a /\ a < 2 ^ 62 /\ -(2 ^ 62) <= b /\ b < 2 ^ 62) : itW .rng2 [.sc (.int a), .sc (.int b)] = some (dI (rngI a (b - a).toNat)) := by
 rw [it_2 a b (by simp only [okR, Bool.and_eq_true, decide_eq_true_eq]; exact ⟨⟨h.1, h.2.1⟩, h.2.2⟩), ZfE]
theorem ZdT (lk : Nat -> Bool) (is : List Nat) (o : Bool) (ds : List D) : asgT lk (.tup is) (.node .tup o ds) = ZaX lk is ds := (rfl)
noncomputable def notV : E -> Bool
 | .v _ => false
 | _ => true
theorem ZfG (h : notV e = true) : Zb7 (Zn e c) lk := by
 rw [ZkK fun j z => by subst z; cases h]
 exact Zf3
section
variable {asg : D -> M Unit} {cond : M Bool} {elt : M D} {d : D} {ds acc δ δ' δ1 caps : List D} {k : Nat} {js : List Nat} {loop : M (List D)}
theorem Zbb : Zae asg cond elt (d :: ds) acc δ = ((asg d).bnd fun _ => cond.bnd fun b => if b then elt.bnd fun x => Zae asg cond elt ds (acc ++ [x]) else Zae asg cond elt ds acc) δ := (rfl)
noncomputable def Zaj (fok : Addr -> Str -> Bool) (fuel k : Nat) (tg : Tg) (cond : List E) (elt : E) (items acc : List D) : M (List D) := Zae (asgT (fun i => decide (k <= i)) tg) (tsts ⟨fun i => decide (k <= i), fok, fuel⟩ cond) (evb ⟨fun i => decide (k <= i), fok, fuel⟩ elt).1 items acc
theorem ZkZ (C : Ctx) (k : Nat) (js : List Nat) (tg : Tg) (ik : IK) (es es' : List E) (a : E) : (evb C (.comp k js tg ik es es' a)).1 = ((opds C es).bnd fun ps => (Z0 ps).bnd fun h => (lift (itW ik h.1)).bnd fun items => (Zap k js (Zaj C.fok C.fuel k tg es' a items [])).bnd fun d => (ZT h.2).bnd fun _ => M.ret d) := (rfl)
theorem Zbl (h1 : Zcd js δ = .ok (caps, δ1)) (h2 : loop (List.replicate k .hole ++ caps) = .ok (acc, δ')) (h3 : acc.length <= sizeLine) : Zap k js loop δ = ((ZaS js (δ'.drop k)).bnd fun _ => M.ret (.node .lst true acc)) δ1 := by
 unfold Zap
 rw [Zin h1, h2]
 show ((ZaS js (δ'.drop k)).bnd fun _ => lift (newL acc)) δ1 = _
 rw [Zay _ h3]
 rfl
end
end T
namespace T
open PySem PySem.Spec L2
theorem ZgG {K : Fg} {ca : M Op} {p : Bool} {σ : St} {H : Hp} {Q : Bool -> Hp -> Prop} (h : tT K ((((ca.bnd view).bnd fun x => M.ret (isNW p x)).bnd fun d => M.ret (.tmp d)).bnd fun q => (view q).bnd fun w => lift (truW w)) σ H Q) :
 tM K ((ca.bnd view).bnd fun x => M.ret (isNW p x)) σ H (fun x H' => ∃ k, x = .bl k /\ Q k H') := by
 obtain ⟨δ, Hs, M, b, δ', g, s, e, q⟩ := h
 obtain ⟨op, δ1, e1, e2⟩ := Zc e
 obtain ⟨d, δ2, e3, e4⟩ := Zc e1
 have := Zh e4
 cases this
 have hb : ∃ t, d = .sc (.bl t) := by
  obtain ⟨x, δ3, e5, e6⟩ := Zc e3
  have := Zh e6
  cases this
  cases x <;> exact ⟨_, rfl⟩
 obtain ⟨t, rfl⟩ := hb
 obtain ⟨w, δ4, e7, e8⟩ := Zc e2
 have := Zh (show T.M.ret (W.sc (.bl t)) δ1 = .ok (w, δ4) from e7)
 cases this
 obtain ⟨e9, rfl⟩ := Z9 e8
 cases e9
 refine Zg3 (c := (ca.bnd view).bnd fun x => T.M.ret (isNW p x)) ⟨δ, Hs, M, _, _, g, s, ?_, q⟩
 unfold ZbS
 rw [Zin e3]
 rfl
section
theorem ZbA (ha : PE X a (tP X.K ca)) {j} : PT X (.Compare a [.Is] [.Constant .none j pos'] pos) (tT X.K ((((ca.bnd view).bnd fun x => M.ret (isNW true x)).bnd fun d => M.ret (.tmp d)).bnd fun q => (view q).bnd fun w => lift (truW w))) := PT.imp (ZhB (Zh9 ha)) fun σ H Q h => by
 have h2 : tM X.K ((ca.bnd view).bnd fun x => lift (some (isNW true x))) σ H _ := ZgG h
 exact op1 (r := fun x H1 Q => Q (.bl (decide (x = .non))) H1) h2 fun x H Hs w m d g h1 h2 v e o => by
  cases e
  rw [(Zdl v).1] at o
  exact o.sc
theorem ZbJ (ha : PE X a (tP X.K ca)) {j} : PT X (.Compare a [.IsNot] [.Constant .none j pos'] pos) (tT X.K ((((ca.bnd view).bnd fun x => M.ret (isNW false x)).bnd fun d => M.ret (.tmp d)).bnd fun q => (view q).bnd fun w => lift (truW w))) := PT.imp (ZhB (Zgs ha)) fun σ H Q h => by
 have h2 : tM X.K ((ca.bnd view).bnd fun x => lift (some (isNW false x))) σ H _ := ZgG h
 exact op1 (r := fun x H1 Q => Q (.bl (!decide (x = .non))) H1) h2 fun x H Hs w m d g h1 h2 v e o => by
  cases e
  rw [(Zdl v).2] at o
  exact o.sc
end
end T
namespace T
open PySem PySem.Spec L2
def spX (K : Fg) (F : List D -> Rs (D × List D)) : Sp := fun vs H Q E => ∃ (ds : List D) (Hs : Hp) (m : Bud), Good H Hs m /\ RepL K H Hs vs ds m /\ match F ds with
 | .ok (d, ds') => ∀ (v : V) (H' Hs' : Hp) (m1 m' : Bud), Good H' Hs' (fun b => m1 b + m' b) -> Stp H Hs m H' Hs' (fun b => m1 b + m' b) -> Rep K H' Hs' v d m1 -> RepL K H' Hs' vs ds' m' -> Q v H'
 | .exc x ds' => ∀ (ea : Addr) (H' Hs' : Hp) (m1 m' : Bud), Good H' Hs' (fun b => m1 b + m' b) -> Stp H Hs m H' Hs' (fun b => m1 b + m' b) -> Rep K H' Hs' (.ref ea) x m1 -> RepL K H' Hs' vs ds' m' -> E (.ref ea) none H'
 | .stuck => False
end T
namespace T
open PySem PySem.Spec L2
section
theorem Zne (C : Ctx) (i : Nat) (f : FI) (es : List E) : ex C (.asgX i f es) = (((opds C es).bnd fun ps => Zdd f ps).bnd fun d => (asgN C.lock i d).bnd fun _ => M.ret .nx) := (rfl)
end
end T
namespace T
open PySem PySem.Spec L2
section
variable {X : Cx} {e k v : Expr} {pos : Pos}
theorem Zjp (hk : PE X k (tC (kV key))) (hv : PE X v (tM X.K c)) : PE X (.Dict [some k] [v] pos) (tM X.K (c.bnd fun d => M.ret (.node (.dic [key]) true [d]))) := PE.imp (Zk1 (ZiT hk hv Zk0) rfl rfl (by simp) (by simp)) fun σ H Q h => by
 obtain ⟨δ, Hs, M, d, δ', g, s, e, q⟩ := h
 obtain ⟨d0, δ1, e1, e2⟩ := Zc e
 have := Zh e2
 cases this
 intro p hp
 have hs := ZbF (o := .dK []) hp
 have Mp : M p = 0 := by
  have := g.le p
  by_cases q : M p = 1
  . exact absurd hp (g.has p q)
  . omega
 have ne : ∀ b, H b ≠ none -> b ≠ p := fun b h e => by subst e; exact h hp
 have Hsp : Hs p = none := by
  cases q : Hs p with
  | none => rfl
  | some o => rw [g.sub p o q] at hp; cases hp
 refine ⟨δ, Hs, M, d0, δ', ⟨fun b o e => hs b o (g.sub b o e), g.le, g.ne, fun b h => by rw [Zm (ne b (g.has b h))]; exact g.has b h⟩, s.frame (Same.refl _) fun b _ hn => Zm (ne b hn), e1, fun v H' Hs' m M' g2 st r s2 => ?_⟩
 have tot : m p + M' p = 0 := by
  have l : m p + M' p <= 1 := g2.le p
  by_cases q : m p + M' p = 1
  . rcases st.own p q with z | z
    . omega
    . rw [Zl] at z; cases z
  . omega
 have Hsp' : Hs' p = none := by
  cases q : Hs' p with
  | none => rfl
  | some o =>
   rcases st.shr p Hsp (by rw [q]; simp) with z | z
   . omega
   . rw [Zl] at z; cases z
 refine ⟨st.keep p _ Zl Mp, [(key, v)], rfl, by simp, ?_⟩
 have u1 : ∀ {o : HO} {b : Addr}, b ≠ p -> upd H' p o b = H' b := fun h => Zm h
 refine q (.ref p) _ Hs' (fun b => one p b + m b) M' ⟨fun b o e => ?_, fun b => ?_, fun b h => ?_, fun b h => ?_⟩ ⟨fun b o e z => ?_, fun b h => ?_, st.grow, fun b h h' => ?_, fun b h => ?_⟩ (.own (vs := [v]) (m' := m) ⟨rfl, Zl⟩ (.cons (m1 := m) (m2 := fun _ => 0) (r.frame (Same.refl _) fun b hb hn => ?_) (.nil _) fun b => by simp) fun b => Nat.le_refl _) (s2.frame (Same.refl _) fun b hb hn => ?_)
 . have : b ≠ p := fun z => by subst z; rw [Hsp'] at e; cases e
   rw [u1 this]
   exact g2.sub b o e
 . have l : m b + M' b <= 1 := g2.le b
   show one p b + m b + M' b <= 1
   unfold one
   split
   . rename_i z; subst z; omega
   . omega
 . by_cases z : b = p
   . rw [z]; exact Hsp'
   . have h : one p b + m b + M' b = 1 := h
     simp only [one, if_neg z] at h
     exact g2.ne b (by show m b + M' b = 1; omega)
 . by_cases z : b = p
   . rw [z, Zl]; simp
   . have h : one p b + m b + M' b = 1 := h
     simp only [one, if_neg z] at h
     rw [u1 z]
     exact g2.has b (by show m b + M' b = 1; omega)
 . have z1 : b ≠ p := ne b (by rw [e]; simp)
   rw [u1 z1]
   exact st.keep b o (by rw [Zm z1]; exact e) z
 . by_cases z : b = p
   . right; rw [z]; exact hp
   . have h : one p b + m b + M' b = 1 := h
     simp only [one, if_neg z] at h
     rcases st.own b (show m b + M' b = 1 by omega) with y | y
     . exact .inl y
     . rw [Zm z] at y; exact .inr y
 . rcases st.shr b h h' with y | y
   . exact .inl y
   . by_cases z : b = p
     . right; rw [z]; exact hp
     . rw [Zm z] at y; exact .inr y
 . have z1 := ne b h
   rw [u1 z1]
   exact st.stay b (by rw [Zm z1]; exact h)
 . have : b ≠ p := fun z => by subst z; omega
   exact u1 this
 . have : b ≠ p := fun z => by subst z; omega
   exact u1 this
theorem ZpN (hg : Gl X x) (h : ∃ t, X.mg x = some (.str z t)) (hd : (x == ("__debug__" : Str)) = false) : PE X (.Name x p) (tM X.K (M.ret (.sc (.str z)))) := by
 obtain ⟨t, h⟩ := h
 exact ok_k (Zeb hg h ⟨t, rfl⟩ hd)
structure ModT (K : Fg) (mg : Str -> Option Value) (x : Str) (vs : List V) : Prop where
 ex : ∃ a, mg x = some (.ref a) /\ ∃ (o : Obj) (its : Array Value) (n : Nat), K.lookup a = some o /\ o.cls = .type "tuple" /\ o.data = .seq its n /\ its.size <= sizeLine /\ Vals vs its.toList
theorem Zla (hg : Gl X x) (h : ModT X.K X.mg x vs) (hd : (x == ("__debug__" : Str)) = false) : PE X (.Name x p) (tM X.K (M.ret (.node .ftp false (vs.map D.sc)))) := by
 obtain ⟨a, h, z⟩ := h.ex
 exact ZoA (Zeb (v := .ref a) hg h rfl hd) fun H Hs m => .shd (vs := vs) z (Zdm vs)
theorem ZbO : ∀ {is : List Int} {its : List Value}, (its.map fun u => match u with | .int i _ => some i | _ => none) = is.map some -> Vals (is.map V.int) its
 | [], [], _ => .nil
 | [], _ :: _, h => by simp at h
 | _ :: _, [], h => by simp at h
 | i :: is, u :: its, h => by
  (simp only [List.map_cons, List.cons.injEq] at h)
  refine .cons ?_ (ZbO h.2)
  cases u <;> simp at h
  rename_i j t
  exact ⟨t, by rw [h.1]⟩
end
section
theorem Zlb (hp : PassesOwn (model X.prog X.w) X.A X.env X.xe) (hc : X.calm = true) (he : PE X iter (tM X.K (M.ret d))) (hg : PG X tg (gT X.K tgt)) (hb : PSs X body (tS X.K (fun j => C.lock j || walked [.g d] j) (exs { C with lock := fun j => C.lock j || walked [.g d] j } body'))) (hs : ∀ x, foldedSetIterable iter X.env x = pure x := by intro _; rfl) (hl : C.lock = lk := by rfl) :
 PS X (.For tg iter body [] pos) (tS X.K lk (ex C (.for_ tgt .val [.g d] body'))) := by
 subst hl
 have e : ex C (.for_ tgt .val [.g d] body') = ((((M.ret d).bnd fun d => M.ret (.tmp d)).bnd fun p => (M.ret ([] : List Op)).bnd fun ps => M.ret (p :: ps)).bnd fun ps => (Z0 ps).bnd fun h => (lift (itW .val h.1)).bnd fun items => (forL (asgT (fun j => C.lock j || walked [.g d] j) tgt) (exs { C with lock := fun j => C.lock j || walked [.g d] j } body') items).bnd fun f => (ZT h.2).bnd fun _ => M.ret f) := rfl
 rw [e]
 exact Zaf hp hc (Za0 _ _) (hw_1 Zf3) (Zao (Zb he)) hg hb hs
theorem Zlc (hp : PassesOwn (model X.prog X.w) X.A X.env X.xe) (hc : X.calm = true) (he : PE X iter (tM X.K (M.ret (.sc v)))) (hg : PG X tg (gT X.K tgt)) (hb : PSs X body (tS X.K (fun j => C.lock j || walked [.k v] j) (exs { C with lock := fun j => C.lock j || walked [.k v] j } body'))) (hs : ∀ x, foldedSetIterable iter X.env x = pure x := by intro _; rfl) (hl : C.lock = lk := by rfl) :
 PS X (.For tg iter body [] pos) (tS X.K lk (ex C (.for_ tgt .val [.k v] body'))) := by
 subst hl
 have e : ex C (.for_ tgt .val [.k v] body') = ((((M.ret (D.sc v)).bnd fun d => M.ret (.tmp d)).bnd fun p => (M.ret ([] : List Op)).bnd fun ps => M.ret (p :: ps)).bnd fun ps => (Z0 ps).bnd fun h => (lift (itW .val h.1)).bnd fun items => (forL (asgT (fun j => C.lock j || walked [.k v] j) tgt) (exs { C with lock := fun j => C.lock j || walked [.k v] j } body') items).bnd fun f => (ZT h.2).bnd fun _ => M.ret f) := rfl
 rw [e]
 exact Zaf hp hc (Za0 _ _) (hw_1 Zf3) (Zao (Zb he)) hg hb hs
end
theorem us1 {P : List Value -> Prop} (h : ∀ a, P [a]) : ∀ us : List Value, us.length = 1 -> P us
 | [a], _ => h a
theorem us2 {P : List Value -> Prop} (h : ∀ a b, P [a, b]) : ∀ us : List Value, us.length = 2 -> P us
 | [a, b], _ => h a b
theorem us3 {P : List Value -> Prop} (h : ∀ a b c, P [a, b, c]) : ∀ us : List Value, us.length = 3 -> P us
 | [a, b, c], _ => h a b c
end T
namespace T
open PySem PySem.Spec L2 PyProof.Rows
noncomputable def nmOk (X : Cx) (i : Nat) (x : Str) : Bool := Zx X.env.scope X.N i x false || Zx X.env.scope X.N i x true || Zfu X.env.scope X.N i x
noncomputable def tgOk (X : Cx) (i : Nat) (x : Str) : Bool := (Zx X.env.scope X.N i x false || Zx X.env.scope X.N i x true && X.fn x) && decide X.N.Nodup
abbrev glX (X : Cx) (x : Str) : Prop := glOk X.env.scope x = true
section
theorem qv (h : nmOk X i x = true := by kernel_rfl) : PE X (.Name x pos) (tVar i) := by
 unfold nmOk at h
 simp only [Bool.or_eq_true] at h
 rcases h with (h | h) | h
 . exact pvs h
 . exact pvs h
 . exact pvf h
theorem ql (h : nmOk X i x = true := by kernel_rfl) : PE X (.Name x pos) (tP X.K (ZL i)) := Zg2 (qv h)
theorem qq (h : tgOk X i x = true) : ∃ b, Zx X.env.scope X.N i x b = true /\ X.N.Nodup /\ (X.fn x = true \/ b = false) := by
 unfold tgOk at h
 simp only [Bool.or_eq_true, Bool.and_eq_true, decide_eq_true_eq] at h
 rcases h with ⟨h | ⟨h, hf⟩, n⟩
 . exact ⟨_, h, n, .inr rfl⟩
 . exact ⟨_, h, n, .inl hf⟩
theorem qa (he : PE X e (tM X.K c)) (h : tgOk X i x = true := by kernel_rfl) (hs : swapsWith e (some (.Name x pos')) pos.line X.env = pure false := by rfl) : PS X (.Assign [.Name x pos'] e pos) (tS X.K lk (c.bnd fun d => (asgN lk i d).bnd fun _ => M.ret .nx)) := by
 obtain ⟨b, h, n, f⟩ := qq h
 exact ZkM h n he hs (hf := f)
theorem qg (hr : PGs X es (gNs is)) (h : tgOk X i x = true := by kernel_rfl) (hs : (assignEach (.Name x pos :: es) X.env).map (·.2) = assign (.Name x pos) X.env :: (assignEach es X.env).map (·.2) := by rfl) : PGs X (.Name x pos :: es) (gNs (i :: is)) := by
 obtain ⟨b, h, n, f⟩ := qq h
 exact Zo8 h n hr rfl rfl f hs
theorem qt (h : tgOk X i x = true := by kernel_rfl) : PG X (.Name x pos) (gT X.K (.name i)) := by
 obtain ⟨b, h, n, f⟩ := qq h
 exact Zo9 h n rfl rfl f
theorem cS (N' : List Str) (h : Zfr X.env.scope X.N k js N' scope = true := by kernel_rfl) : CompScope X k js N' scope := .of h rfl rfl
theorem qs (S : CompScope X k js N' scope) (hi : PI X tg iter (tI X.K ik cs))
 (hin : ∀ (cl : List (Str × Addr)) (C : Addr) (s₀ : Shared) (H₀ : Hp) (ex : List Addr), PG (cxC X N' scope cl C s₀ H₀ ex) tg (gT X.K tgt) /\ PIf (cxC X N' scope cl C s₀ H₀ ex) ifs (tT X.K cc) /\ PE (cxC X N' scope cl C s₀ H₀ ex) elt (tM X.K celt))
 (h : (Zx X.env.scope X.N i x false && decide X.N.Nodup && ZcL X.env.scope scope x) = true := by kernel_rfl) (hc : X.calm = true := by rfl) (hl : (pos'.line == pos.line) = true := by rfl) (hs : ∀ x, foldedSetIterable iter X.env x = pure x := by intro _; rfl) :
 PS X (.Assign [.Name x pos'] (.ListComp elt [⟨tg, iter, ifs, 0⟩] scope pos) spos) (tS X.K lk ((cs.bnd fun ps => (Z0 ps).bnd fun h => (lift (itW ik h.1)).bnd fun items => (Zap k js (Zae (asgT (fun i => decide (k <= i)) tgt) cc celt items [])).bnd fun d => (ZT h.2).bnd fun _ => M.ret d).bnd fun d => (asgN lk i d).bnd fun _ => M.ret .nx)) := by
 simp only [Bool.and_eq_true, decide_eq_true_eq] at h
 exact ZkL h.1.1 h.1.2 h.2 hc S hi hin hl rfl rfl hs
end
section
variable {X : Cx} {e a b l r o k ke : Expr} {es : List Expr} {p pos p2 pos2 : Pos} {x : Str} {j n : Nat} {ps : List Str} {fi : FI} {cs : M (List Op)} {ca cb : M Op} {A : Addr} {f : BF} {id ty : String} {tg : Expr}
theorem qi {t : Ty} {n : String} (hm : X.mg "isinstance" = none) (ha : PE X a (tP X.K ca)) (hm2 : X.mg (Str.ofString n) = none) (hv : bootBuiltins (Str.ofString n) = some (.type n)) (h : glX X "isinstance" := by kernel_rfl) (h2 : glX X (Str.ofString n) := by kernel_rfl) (hn : tyS t = some n := by rfl)
 (hs : starEach [a, .Name (Str.ofString n) p2] X.env = [(false, eval a X.env), (false, eval (.Name (Str.ofString n) p2) X.env)] := by rfl) (hs1 : starEach [.Name (Str.ofString n) p2] X.env = [(false, eval (.Name (Str.ofString n) p2) X.env)] := by rfl) :
 PE X (.Call (.Name "isinstance" p) [a, .Name (Str.ofString n) p2] [] pos) (tM X.K ((ca.bnd fun p => (M.ret ([] : List Op)).bnd fun ps => M.ret (p :: ps)).bnd fun ps => (views ps).bnd fun ws => lift (bfW (.isi t) ws))) :=
 Zmm hn (glk h) hm ha (Zkf (glk h2) hm2 hv rfl (nmk h2) (dbk h2)) hs hs1
theorem qb (ha : PE X a (tP X.K ca)) (hb : PE X b (tP X.K cb)) :
 PE X (.BinOp a op b pos) (tM X.K (ca.bnd fun p => cb.bnd fun q => (view p).bnd fun x => (view q).bnd fun y => lift (binW op x y))) := Zmc (Zmd _) ha hb
theorem qgi (h : ∃ t, X.mg x = some (.int i t)) (g : glX X x := by kernel_rfl) : PE X (.Name x p) (tM X.K (M.ret (.sc (.int i)))) := ZpJ (glk g) h (dbk g)
theorem qgt (h : ∃ t, X.mg x = some (.str z t)) (g : glX X x := by kernel_rfl) : PE X (.Name x p) (tM X.K (M.ret (.sc (.str z)))) := ZpN (glk g) h (dbk g)
theorem qgu (h : ModT X.K X.mg x vs) (g : glX X x := by kernel_rfl) : PE X (.Name x p) (tM X.K (M.ret (.node .ftp false (vs.map D.sc)))) := Zla (glk g) h (dbk g)
end
structure En where
 P : Program
 w : World
 K : Fg
 mg : Str -> Option Value
 base : Heap
abbrev En.fn (e : En) (x : Str) (k : Nat) (ps : List Str) (f : FI) : Prop := FnAt e.P e.w e.K e.mg e.base x k ps (spF e.K f.run)
abbrev En.me (e : En) (C : Addr) (x : Str) (k : Nat) (ps : List Str) (f : FI) : Prop := MeAt e.P e.w e.K e.mg e.base C x k ps (spF e.K f.run)
abbrev En.nw (e : En) (x : Str) (C : Addr) (k : Nat) (ps : List Str) (f : FI) : Prop := MkAt e.P e.w e.K e.mg e.base x C k ps (spF e.K f.run)
noncomputable def scOk (N P : List Str) (sc : Scope) : Bool := sc.kind == .function && !sc.isCoroutine && !sc.isGenerator && decide N.Nodup && N.take P.length == P && P.all (fun x => sc.names.lookup x == some .local || sc.names.lookup x == some .cell) && sc.names.all (fun y => y.2 != .free)
theorem ZeV (h : scOk N P sc = true) : FnScope N P sc := by
 unfold scOk at h
 simp only [Bool.and_eq_true, decide_eq_true_eq, List.all_eq_true, Bool.or_eq_true, beq_iff_eq, bne_iff_ne, Bool.not_eq_true'] at h
 obtain ⟨⟨⟨⟨⟨⟨h1, h2⟩, h3⟩, h4⟩, h5⟩, h6⟩, h7⟩ := h
 exact ⟨h1, h2, h3, h4, h5, h6, h7⟩
def NI (K : Fg) (x : Str) : Prop := PySem.W.nsIn K mainGlobals x = some none
def TI (K : Fg) (x : Str) (st : Stmt) : Prop := ∃ f fd, PySem.W.nsIn K mainGlobals x = some (some (.ref f)) /\ Fun K x x st f fd
def MI (K : Fg) (C : Addr) (x q : Str) (st : Stmt) : Prop := ∃ f fd, PySem.W.findIn K (.ref C) x = some (some (.ref f)) /\ PySem.W.isFn K (.ref f) = true /\ Fun K x q st f fd
structure CI (K : Fg) (x : Str) (C : Addr) : Prop where
 at_ : PySem.W.nsIn K mainGlobals x = some (some (.ref C))
 pg : PySem.W.plainGet K C Str.empty = true
 hd : PySem.W.hasDictIn K C = true
 po : PySem.W.plainOver K C = true
 sa : PySem.W.findIn K (.ref C) "__setattr__" = some (some (.builtin "object.__setattr__"))
 mk_ : PySem.W.makesIn K C = true
 kp : PySem.W.keepIn K (.ref C) = true
section
variable {K : Fg} {x q : Str} {st : Stmt} {f C : Addr} {oc : Value} {od an : Option Addr} {osl : Array (Option Value)} {kV doc pm cdv ct : Value}
theorem ZpO (h : PySem.W.nsIn K mainGlobals x = some (some (.ref f))) (l : K.lookup f = some ⟨oc, od, .func (PySem.W.fnOf x x (Zbj st) (Zan st) (Zy st) .none kV doc pm an cdv ct), osl⟩) (c : PySem.W.codeIn K cdv x = true) (k : PySem.W.keepIn K (.ref f) = true) : TI K x st := ⟨f, _, h, ZhX l c k⟩
theorem ZpP (h : PySem.W.findIn K (.ref C) x = some (some (.ref f))) (y : PySem.W.isFn K (.ref f) = true) (l : K.lookup f = some ⟨oc, od, .func (PySem.W.fnOf x q (Zbj st) (Zan st) (Zy st) .none kV doc pm an cdv ct), osl⟩) (c : PySem.W.codeIn K cdv q = true) (k : PySem.W.keepIn K (.ref f) = true) : MI K C x q st := ⟨f, _, h, y, ZhX l c k⟩
end
theorem CI.cl {K : Fg} {x : Str} {C : Addr} (c : CI K x C) : Cls K C := ⟨c.pg, c.hd, c.po, c.sa⟩
def Bo (e : En) : Prop := ∃ h, e.K.In h /\ h.Ns mainGlobals e.mg
section
variable {e : En} {x q : Str} {st : Stmt} {N ps : List Str} {k n nN : Nat} {C : Ctx} {body : List S} {A : Addr}
abbrev us_ (st : Stmt) (x q : Str) (ps : List Str) : Prop := ∀ (kV doc pm : Value) (an : Option Addr) (cdv ct : Value) (us : List Value), us.length = ps.length -> bindArgs (PySem.W.fnOf x q (Zbj st) (Zan st) (Zy st) .none kV doc pm an cdv ct) ⟨us, []⟩ = pure (ps.zip us)
abbrev bd_ (e : En) (N : List Str) (q : Str) (st : Stmt) (k n : Nat) (C : Ctx) (body : List S) : Prop := ∀ (f : Addr) (cdv : Value) (A : Around) (outer : List Env) (s : Shared) (H : Hp) (E : XK), Room k (A.deeper (envOfC q (Zy st) s.heap.objs.size f cdv)) ->
 PSs (cxOf CX0 e.P e.w e.K e.mg e.base N q (Zy st) f cdv A outer s H E).nox (Zan st) (tS e.K (fun i => decide (i < n)) (exs { C with lock := fun i => decide (i < n) } body))
theorem Zak (Y : Bo e) (F : TI e.K x st) (N : List Str) (hb : bd_ e N x st k n C body) (hs : scOk N ps (Zy st) = true := by kernel_rfl) (hn : ps.length = n := by rfl) (hN : N.length = nN := by rfl)
 (us : us_ st x x ps := by intro _ _ _ _ _ _; first | exact us1 fun _ => rfl | exact us2 fun _ _ => rfl | exact us3 fun _ _ _ => rfl | exact us4 fun _ _ _ _ => rfl | exact us5 fun _ _ _ _ _ => rfl | exact us6 fun _ _ _ _ _ _ => rfl) :
 FnAt e.P e.w e.K e.mg e.base x (k + 1) ps (spF e.K (Zs C n nN body)) := by
 obtain ⟨f, fd, h1, F⟩ := F
 obtain ⟨h, X, G⟩ := Y
 exact ⟨f, fd, Zdj F (ZeV hs) hn hN fun cdv A o s H E => hb f cdv A o s H E, PySem.W.mg_of X G h1, F.kp, F.binds us⟩
theorem Zhm (cl : Cls e.K A) (F : MI e.K A x q st) (N : List Str) (hb : bd_ e N q st k n C body) (hs : scOk N ps (Zy st) = true := by kernel_rfl) (hn : ps.length = n := by rfl) (hN : N.length = nN := by rfl)
 (us : us_ st x q ps := by intro _ _ _ _ _ _; first | exact us1 fun _ => rfl | exact us2 fun _ _ => rfl | exact us3 fun _ _ _ => rfl | exact us4 fun _ _ _ _ => rfl | exact us5 fun _ _ _ _ _ => rfl | exact us6 fun _ _ _ _ _ _ => rfl) :
 MeAt e.P e.w e.K e.mg e.base A x (k + 1) ps (spF e.K (Zs C n nN body)) := by
 obtain ⟨f, fd, h1, y, F⟩ := F
 exact ⟨⟨f, fd, Zdj F (ZeV hs) hn hN fun cdv A o s H E => hb f cdv A o s H E, ⟨h1, y, F.kp⟩, F.binds us⟩, cl⟩
theorem ZpQ (Y : Bo e) (c : CI e.K x A) (F : MI e.K A "__init__" q st) (N : List Str) (hb : bd_ e N q st k n C body) (hs : scOk N ps (Zy st) = true := by kernel_rfl) (hn : ps.length = n := by rfl) (hN : N.length = nN := by rfl)
 (us : us_ st "__init__" q ps := by intro _ _ _ _ _ _; first | exact us1 fun _ => rfl | exact us2 fun _ _ => rfl | exact us3 fun _ _ _ => rfl | exact us4 fun _ _ _ _ => rfl | exact us5 fun _ _ _ _ _ => rfl | exact us6 fun _ _ _ _ _ _ => rfl) :
 MkAt e.P e.w e.K e.mg e.base x A (k + 1) ps (spF e.K (Zs C n nN body)) := by
 obtain ⟨f, fd, h1, y, F⟩ := F
 obtain ⟨h, X, G⟩ := Y
 exact ⟨f, fd, Zdj F (ZeV hs) hn hN fun cdv A o s H E => hb f cdv A o s H E, ⟨c.mk_, h1, y, c.kp⟩, PySem.W.mg_of X G c.at_, F.binds us⟩
theorem Znf (F : Fun e.K x x st f fd) (N : List Str) (hb : bd_ e N x st k n C body) (hs : scOk N ps (Zy st) = true := by kernel_rfl) (hn : ps.length = n := by rfl) (hN : N.length = nN := by rfl) :
 FnOk e.P e.w e.K e.mg e.base CX0 (k + 1) f fd ps (spF e.K (Zs C n nN body)) := Zdj F (ZeV hs) hn hN fun cdv A o s H E => hb f cdv A o s H E
end
end T
namespace T
open PySem PySem.Spec L2 PyProof.Rows
section
structure XMd (P : Program) (w : World) (K : Fg) (mg : Str -> Option Value) (base : Heap) (x : Str) (ns : List Str) (k : Nat) (ps : List Str) (sp : Sp) : Prop where
 ex : ∃ (C f : Addr) (fd : FuncData), XN K ns C /\ PySem.W.findIn K (.ref C) (Str.ofString "__init__") = some (some (.ref f)) /\ PySem.W.typeIn K (.ref f) = some (.type "function") /\ FnOk P w K mg base CX0 k f fd ps sp /\ mg x = some (.ref C) /\ Binds K fd ps [.none]
end
section
variable {e : En} {x q : Str} {st : Stmt} {N ps : List Str} {k n nN : Nat} {C : Ctx} {body : List S} {A L : Addr}
abbrev En.xd (e : En) (x : Str) (k : Nat) (ps : List Str) (f : FI) : Prop := XMd e.P e.w e.K e.mg e.base x [x, "LabelError"] k ps (spF e.K f.run)
end
end T
namespace T
open PySem PySem.Spec L2 PyProof.Rows
structure MeAtX (P : Program) (w : World) (K : Fg) (mg : Str -> Option Value) (base : Heap) (C : Addr) (m : Str) (k : Nat) (ps : List Str) (sp : Sp) : Prop where
 ex : ∃ (f : Addr) (fd : FuncData), FnOk P w K mg base (CXx P w) k f fd ps sp /\ Meth K C m f /\ Binds K fd ps []
 cl : Cls K C
end T
namespace T
open PySem PySem.Spec L2 PyProof.Rows
section
variable {e : En} {x q : Str} {st : Stmt} {N ps : List Str} {k n nN : Nat} {C : Ctx} {body : List S} {A : Addr}
abbrev En.mx (e : En) (C : Addr) (x : Str) (k : Nat) (ps : List Str) (f : FI) : Prop := MeAtX e.P e.w e.K e.mg e.base C x k ps (spX e.K f.run)
end
theorem us4 {P : List Value -> Prop} (h : ∀ a b c d, P [a, b, c, d]) : ∀ us : List Value, us.length = 4 -> P us
 | [a, b, c, d], _ => h a b c d
theorem us5 {P : List Value -> Prop} (h : ∀ a b c d e, P [a, b, c, d, e]) : ∀ us : List Value, us.length = 5 -> P us
 | [a, b, c, d, e], _ => h a b c d e
theorem us6 {P : List Value -> Prop} (h : ∀ a b c d e f, P [a, b, c, d, e, f]) : ∀ us : List Value, us.length = 6 -> P us
 | [a, b, c, d, e, f], _ => h a b c d e f
noncomputable def unV : Value -> Option V
 | .int i _ => some (.int i)
 | .none => some .non
 | _ => none
theorem ZgH : ∀ {vs : List V} {its : List Value}, its.map unV = vs.map some -> Vals vs its
 | [], [], _ => .nil
 | [], _ :: _, h => by simp at h
 | _ :: _, [], h => by simp at h
 | v :: vs, u :: its, h => by
  (simp only [List.map_cons, List.cons.injEq] at h)
  refine .cons ?_ (ZgH h.2)
  cases u <;> simp [unV] at h
  . rw [<- h.1]; exact rfl
  . rw [<- h.1]; exact ⟨_, rfl⟩
theorem ZfH {K : Fg} {h : Heap} {mg : Str -> Option Value} {x : Str} {a : Addr} {vs : List V} {dct : Option Addr} {its : Array Value} {n : Nat} {sl : Array (Option Value)} (X : K.In h) (G : h.Ns mainGlobals mg) (hx : PySem.W.nsIn K mainGlobals x = some (some (.ref a))) (hl : K.lookup a = some ⟨.type "tuple", dct, .seq its n, sl⟩) (hs : its.size <= sizeLine) (hi : its.toList.map unV = vs.map some) : ModT K mg x vs :=
 ⟨a, PySem.W.mg_of X G hx, _, its, n, hl, rfl, rfl, hs, ZgH hi⟩
end T
namespace T
open PySem PySem.Spec L2 PyProof.Rows
structure MkAtX (P : Program) (w : World) (K : Fg) (mg : Str -> Option Value) (base : Heap) (x : Str) (C : Addr) (k : Nat) (ps : List Str) (sp : Sp) : Prop where
 ex : ∃ (f : Addr) (fd : FuncData), FnOk P w K mg base (CXx P w) k f fd ps sp /\ Mk K C f /\ mg x = some (.ref C) /\ Binds K fd ps []
section
variable {e : En} {x q : Str} {st : Stmt} {N ps : List Str} {k n nN : Nat} {C : Ctx} {body : List S} {A : Addr}
abbrev En.nx (e : En) (x : Str) (C : Addr) (k : Nat) (ps : List Str) (f : FI) : Prop := MkAtX e.P e.w e.K e.mg e.base x C k ps (spX e.K f.run)
end
end T
namespace T
open PySem PySem.Spec L2
section
variable {X : Cx} {e k v : Expr} {pos : Pos} {i : Nat} {c : M D} {ck : M Op}
theorem ZfI (hu : X.A.units + 64 < cLine) (hk : PE X k (tP X.K ck)) (hv : PE X v (tM X.K c)) : PE X (.Dict [some k] [v] pos) (tM X.K (ck.bnd fun p => c.bnd fun d => (view p).bnd fun w => lift ((keyP w).map fun key => .node (.dpp [key]) true [d]))) := PE.imp (ZhZ (by omega) hk hv) fun σ H Q h => by
 obtain ⟨δ, Hs, M, d, δ', g, s, e, q⟩ := h
 obtain ⟨p0, δ1, e1, e⟩ := Zc e
 obtain ⟨d0, δ2, e2, e⟩ := Zc e
 obtain ⟨w, δ3, e3, e⟩ := Zc e
 obtain ⟨e4, rfl⟩ := Z9 e
 simp only [Option.map_eq_some_iff] at e4
 obtain ⟨key, hk', rfl⟩ := e4
 intro p hp
 have hs := ZbF (o := .dT (KT0 X.K) []) hp
 have Mp : M p = 0 := by
  have := g.le p
  by_cases q : M p = 1
  . exact absurd hp (g.has p q)
  . omega
 have ne : ∀ b, H b ≠ none -> b ≠ p := fun b h e => by subst e; exact h hp
 have Hsp : Hs p = none := by
  cases q : Hs p with
  | none => rfl
  | some o => rw [g.sub p o q] at hp; cases hp
 have g0 : Good (upd H p (.dT (KT0 X.K) [])) Hs M := ⟨fun b o e => hs b o (g.sub b o e), g.le, g.ne, fun b h => by rw [Zm (ne b (g.has b h))]; exact g.has b h⟩
 refine ⟨δ, Hs, M, p0, δ1, g0, s.frame (Same.refl _) fun b _ hn => Zm (ne b hn), e1, fun y H1 Hs1 m1 M1 g1 st1 r1 s1 => ?_⟩
 refine ⟨δ1, Hs1, M1, d0, δ2, g1.re, s1, e2, fun x H' Hs2 m M2 g2 st2 r2 s2 => ?_⟩
 obtain ⟨G2, S2, k2⟩ := Zq g0 g1 st1 g2 st2
 have r1' := r1.frame st2.grow k2
 obtain ⟨Hs', M', g3, st3, v3, s3⟩ := ZV (B := fun b => m1 b + m b) (G2.re fun b => by (try dsimp only); omega) s2 r1' e3
 obtain ⟨b0, rfl, hb⟩ := Zci g3.sub v3 hk'
 have S2' : Stp (upd H p (.dT (KT0 X.K) [])) Hs M H' Hs2 (fun b => m1 b + m b + M2 b) := S2.drop (fun b => by (try dsimp only); omega) G2.le
 have G2' : Good H' Hs2 (fun b => m1 b + m b + M2 b) := G2.re fun b => by (try dsimp only); omega
 have z3 := Zq (m1 := fun _ => 0) g0 (G2'.re fun b => by simp) (S2'.drop (fun b => by simp) G2'.le) g3 st3
 have st : Stp (upd H p (.dT (KT0 X.K) [])) Hs M H' Hs' (fun b => m b + M' b) := z3.2.1.drop (fun b => by (try dsimp only); omega) z3.1.le
 have g2 : Good H' Hs' (fun b => m b + M' b) := g3.drop fun b => by (try dsimp only); omega
 have r := r2.frame (H' := H') st3.grow fun _ _ _ => rfl
 have s2 := s3
 clear z3 S2' G2' G2 S2 g3 st3 v3 s3 r1' k2 r1 s1 g1 st1 st2 r2
 have tot : m p + M' p = 0 := by
  have l : m p + M' p <= 1 := g2.le p
  by_cases q : m p + M' p = 1
  . rcases st.own p q with z | z
    . omega
    . rw [Zl] at z; cases z
  . omega
 have Hsp' : Hs' p = none := by
  cases q : Hs' p with
  | none => rfl
  | some o =>
   rcases st.shr p Hsp (by rw [q]; simp) with z | z
   . omega
   . rw [Zl] at z; cases z
 refine ⟨b0, key, st.keep p _ Zl Mp, rfl, hb, ?_⟩
 have u1 : ∀ {o : HO} {b : Addr}, b ≠ p -> upd H' p o b = H' b := fun h => Zm h
 refine q (.ref p) _ Hs' (fun b => one p b + m b) M' ⟨fun b o e => ?_, fun b => ?_, fun b h => ?_, fun b h => ?_⟩ ⟨fun b o e z => ?_, fun b h => ?_, st.grow, fun b h h' => ?_, fun b h => ?_⟩ (.own (vs := [x]) (m' := m) ⟨rfl, Zl⟩ (.cons (m1 := m) (m2 := fun _ => 0) (r.frame (Same.refl _) fun b hb hn => ?_) (.nil _) fun b => by simp) fun b => Nat.le_refl _) (s2.frame (Same.refl _) fun b hb hn => ?_)
 . have : b ≠ p := fun z => by subst z; rw [Hsp'] at e; cases e
   rw [u1 this]
   exact g2.sub b o e
 . have l : m b + M' b <= 1 := g2.le b
   show one p b + m b + M' b <= 1
   unfold one
   split
   . rename_i z; subst z; omega
   . omega
 . by_cases z : b = p
   . rw [z]; exact Hsp'
   . have h : one p b + m b + M' b = 1 := h
     simp only [one, if_neg z] at h
     exact g2.ne b (by show m b + M' b = 1; omega)
 . by_cases z : b = p
   . rw [z, Zl]; simp
   . have h : one p b + m b + M' b = 1 := h
     simp only [one, if_neg z] at h
     rw [u1 z]
     exact g2.has b (by show m b + M' b = 1; omega)
 . have z1 : b ≠ p := ne b (by rw [e]; simp)
   rw [u1 z1]
   exact st.keep b o (by rw [Zm z1]; exact e) z
 . by_cases z : b = p
   . right; rw [z]; exact hp
   . have h : one p b + m b + M' b = 1 := h
     simp only [one, if_neg z] at h
     rcases st.own b (show m b + M' b = 1 by omega) with y | y
     . exact .inl y
     . rw [Zm z] at y; exact .inr y
 . rcases st.shr b h h' with y | y
   . exact .inl y
   . by_cases z : b = p
     . right; rw [z]; exact hp
     . rw [Zm z] at y; exact .inr y
 . have z1 := ne b h
   rw [u1 z1]
   exact st.stay b (by rw [Zm z1]; exact h)
 . have : b ≠ p := fun z => by subst z; omega
   exact u1 this
 . have : b ≠ p := fun z => by subst z; omega
   exact u1 this
end
end T
namespace T
open PySem PySem.Spec L2
theorem ZpR {K : Fg} {H Hs : Hp} {σ : St} {B M : Bud} {δ : List D} {i j : Nat} {ds es : List D} (g : Good H Hs (fun b => B b + M b)) (s : RepS K H Hs σ δ M) (hi : δ[i]? = some (.node .lst true ds)) (hj : ds[j]? = some (.node .lst true es)) :
 ∃ (p0 p : Addr) (us vs : List V) (m' m2 : Bud), σ[i]? = some (some (.ref p0)) /\ H p0 = some (.lst us) /\ us.length = ds.length /\ us[j]? = some (.ref p) /\ H p = some (.lst vs) /\ RepL K H Hs vs es m' /\ (∀ b, one p b + m' b + m2 b <= M b) /\
  ∀ (vs' : List V) (es' : List D) (n' : Bud), (∀ b, n' b <= m' b + B b) -> RepL K H Hs vs' es' n' ->
   Good (upd H p (.lst vs')) Hs (fun b => one p b + n' b + m2 b) /\ Stp H Hs (fun b => B b + M b) (upd H p (.lst vs')) Hs (fun b => one p b + n' b + m2 b) /\
   RepS K (upd H p (.lst vs')) Hs σ (δ.set i (.node .lst true (ds.set j (.node .lst true es')))) (fun b => one p b + n' b + m2 b) := by
 obtain ⟨v, m1, m2, e1, q, l, f⟩ := s.slot hi (by simp)
 cases q with
 | @own p0 _ us _ _ m0 n0 r0 l0 =>
  obtain ⟨a, n1, n2, ea, ra, ln, fr⟩ := r0.sep.focus hj
  cases ra with
  | @own p _ vs _ _ m' n r l1 =>
   have le : ∀ b, one p b + m' b + (one p0 b + n2 b + m2 b) <= M b := fun b => by have := l b; have := l0 b; have := ln b; have := l1 b; omega
   refine ⟨p0, p, us, vs, m', fun b => one p0 b + n2 b + m2 b, e1, n0, r0.len, ea, n, r, le, fun vs' es' n' h1 hr => ?_⟩
   have one_p : one p p = 1 := by simp [one]
   have one_0 : one p0 p0 = 1 := by simp [one]
   have tot : ∀ b, one p b + n' b + (one p0 b + n2 b + m2 b) <= B b + M b := fun b => by have := le b; have := h1 b; omega
   have zp : m' p = 0 /\ B p = 0 /\ m2 p = 0 /\ n2 p = 0 /\ one p0 p = 0 := by
    have := le p
    have := g.le p
    try dsimp only at this
    omega
   have zp2 : n' p = 0 := by have := h1 p; omega
   have hne : p0 ≠ p := fun q => by subst q; omega
   have Hp : H p ≠ none := by rw [show H p = _ from n]; simp
   have eqH : ∀ b, b ≠ p -> upd H p (.lst vs') b = H b := fun b hb => Zm hb
   have hs2 : Hs p = none := g.ne p (by have := le p; have := g.le p; (try dsimp only at this ⊢); omega)
   refine ⟨⟨fun b o e => ?_, fun b => ?_, fun b h => ?_, fun b h => ?_⟩, ⟨fun b o e z => ?_, fun b h => ?_, Same.refl _, fun b h h' => absurd h h', fun b h => ?_⟩, ?_⟩
   . have hb : b ≠ p := fun q => by subst q; rw [hs2] at e; cases e
     rw [eqH b hb]
     exact g.sub b o e
   . have := g.le b
     have := tot b
     (try dsimp only at *)
     omega
   . have := g.le b
     have := tot b
     exact g.ne b (by (try dsimp only at *); omega)
   . by_cases hb : b = p
     . subst hb; rw [Zl]; simp
     . rw [eqH b hb]
       have := g.le b
       have := tot b
       exact g.has b (by (try dsimp only at *); omega)
   . have hb : b ≠ p := fun q => by
      subst q
      have := le b
      have := g.le b
      (try dsimp only at *)
      omega
     rw [eqH b hb]
     exact e
   . have := g.le b
     have := tot b
     left
     (try dsimp only at *)
     omega
   . by_cases hb : b = p
     . subst hb; rw [Zl]; simp
     . rw [eqH b hb]; exact h
   . have r' : RepL K (upd H p (.lst vs')) Hs vs' es' n' := hr.frame (Same.refl _) fun b hb hn' => eqH b fun q => by subst q; omega
     have z1 := fr (Rep K (upd H p (.lst vs')) Hs) (.ref p) (.node .lst true es') (fun b => one p b + n' b) (fun a d m'' l' q => q.frame (Same.refl _) fun b hb hn' => eqH b fun q => by subst q; have := l' b; omega) (.own (show upd H p (.lst vs') p = _ from Zl) r' fun b => Nat.le_refl _)
     rw [ZC ea] at z1
     have z := f (upd H p (.lst vs')) Hs (some (.ref p0)) (.node .lst true (ds.set j (.node .lst true es'))) (fun b => one p0 b + (one p b + n' b + n2 b)) (Same.refl _) (fun b hb hn' => eqH b fun q => by subst q; omega) (.inr ⟨_, rfl, .own (show upd H p (.lst vs') p0 = _ by rw [eqH p0 hne]; exact n0) z1.repL fun b => Nat.le_refl _⟩)
     rw [ZC e1] at z
     exact z.mono fun b => by (try dsimp only); omega
theorem Zjq {i : Nat} {n : Int} {f : Kd -> List D -> Option (D × Kd × List D)} {δ δ' : List D} {d : D} (h : Zde i n f δ = .ok (d, δ')) : ∃ ds j es k' es', δ[i]? = some (.node .lst true ds) /\ ixN' ds.length n = some j /\ ds[j]? = some (.node .lst true es) /\ f .lst es = some (d, k', es') /\ δ' = δ.set i (.node .lst true (ds.set j (.node k' true es'))) := by
 unfold Zde at h
 split at h
 . rename_i ds hi
   split at h
   . rename_i j hj
     split at h
     . rename_i es he
       split at h
       . rename_i r k' es' hf
         cases h
         exact ⟨ds, j, es, k', es', hi, hj, he, hf, rfl⟩
       . cases h
     . cases h
   . cases h
 . cases h
theorem Zng {n j : Nat} {i : Int} (h : ixN' n i = some j) : j < n := by
 unfold ixN' at h
 split at h
 . split at h
   . cases h; omega
   . cases h
 . split at h
   . cases h; omega
   . cases h
theorem Ziq {K : Fg} {H Hs Hs' : Hp} (g : Same Hs Hs') : ∀ {σ : St} {δ : List D} {M : Bud}, (∀ b, M b ≥ 1 -> H b ≠ none -> Hs' b = H b) -> RepS K H Hs σ δ M -> RepS K H Hs' σ (shrL δ) (fun _ => 0)
 | _, _, _, _, .nil _ => .nil _
 | _, _, M, k, .cons x y l => by
  refine .cons (m1 := fun _ => 0) (m2 := fun _ => 0) ?_ (Ziq g (fun b hb => k b (by have := l b; omega)) y) fun b => by simp
  rcases x with rfl | ⟨v, e, r⟩
  . exact .inl rfl
  . exact .inr ⟨v, e, Rep.share g (fun b hb => k b (by have := l b; omega)) r⟩
theorem lent {K : Fg} {H Hs : Hp} {σ : St} {δ : List D} {M : Bud} (g : Good H Hs M) (s : RepS K H Hs σ δ M) :
 Good H (shH H Hs M) (fun _ => 0) /\ RepS K H (shH H Hs M) σ (shrL δ) (fun _ => 0) /\ ∀ (H' Hs' : Hp) (M' : Bud), Good H' Hs' M' -> Stp H (shH H Hs M) (fun _ => 0) H' Hs' M' -> Good H' Hs M /\ Stp H Hs M H' Hs M /\ RepS K H' Hs σ δ M := by
 have g2 : Good H Hs (fun b => M b + 0) := g
 refine ⟨g2.share, Ziq (ZaP g fun b => Nat.le_refl _) Zcf s, fun H' Hs' M' g' st => ?_⟩
 have kp : ∀ b, H b ≠ none -> H' b = H b := fun b hb => by
  cases q : H b with
  | none => exact absurd q hb
  | some o => exact st.keep b o q rfl
 refine ⟨⟨fun b o e => ?_, g.le, g.ne, fun b h => ?_⟩, ⟨fun b o e _ => st.keep b o e rfl, fun b h => .inl h, Same.refl _, fun b h h' => absurd h h', st.stay⟩, s.frame (Same.refl _) fun b _ hb => kp b hb⟩
 . exact st.keep b o (g.sub b o e) rfl
 . exact st.stay b (g.has b h)
theorem ZpS {K : Fg} {ca : M D} {σ : St} {H : Hp} {Q : VK} (h : tM K (borV ca) σ H Q) : tM K ca σ H Q := by
 obtain ⟨δ, Hs, M, d, δ', g, s, e, q⟩ := h
 obtain ⟨G, S, back⟩ := lent g s
 unfold borV at e
 split at e
 . rename_i v δ1 e1
   cases e
   refine ⟨_, _, _, _, _, G, S, e1, fun v' H' Hs' m M' g' st r s' => ?_⟩
   cases r
   obtain ⟨G', S', R'⟩ := back H' Hs' _ (g'.re fun b => Nat.le_refl _) st
   exact q _ H' Hs (fun _ => 0) M (Zaq G') (S'.drop (fun b => by simp) G'.le) (.sc _ _) R'
 . cases e
section
variable {X : Cx} {a o k k2 e : Expr} {pos pos' pos1 : Pos} {i j l : Nat} {lk : Nat -> Bool}
theorem Zir {ca : M D} (ha : PE X a (tM X.K ca)) : PE X a (tM X.K (borV ca)) := PE.imp ha fun _ _ _ h => ZpS h
theorem Zld {c : M D} (ho : PE X o (tVar i)) (hk : PE X k (tVar j)) (hk2 : PE X k2 (tVar l)) (he : PE X e (tM X.K c)) (hpl : Zed k := by intro _ _; rfl)
 (ha : ∀ v, assign (.Subscript (.Subscript o k pos1) k2 pos') X.env v = (do
  let ov <- holding [v] (eval (.Subscript o k pos1) X.env)
  let iv <- holding [v, ov] (eval k2 X.env)
  standAt pos'
  holding [v, ov, iv] (setItem ov iv v)
  release [v, ov, iv] []) := by intro _; rfl)
 (hs : swapsWithSole [.Subscript (.Subscript o k pos1) k2 pos'] e pos.line X.env = pure false := by rfl) (hw : swappedStores [.Subscript (.Subscript o k pos1) k2 pos'] e X.env = pure none := by rfl)
 (h1 : (assignEach [.Subscript (.Subscript o k pos1) k2 pos'] X.env).map (·.2) = [assign (.Subscript (.Subscript o k pos1) k2 pos') X.env] := by rfl) :
 PS X (.Assign [.Subscript (.Subscript o k pos1) k2 pos'] e pos) (tS X.K lk (subV i j c (.v l))) :=
 PS.imp (Zfe he (ZhC (ZjE Zee ho hk hpl) hk2 Zfl ha) hs hw h1) fun E σ H h => by
 obtain ⟨δ, Hs, M, f, δ', g, s, ea, q⟩ := h
 obtain ⟨d, δ1, e1, eb⟩ := Zc (show (c.bnd fun d δ => match δ[j]?, δ[l]? with
  | some (.sc (.int n)), some (.sc (.int m)) => ((Zde i n (setD (.sc (.int m)) d)).bnd fun _ => T.M.ret .nx) δ
  | _, _ => .stuck) δ = .ok (f, δ') from ea)
 split at eb
 rotate_left
 . cases eb
 rename_i n m hn hm
 obtain ⟨r0, δ2, e2, ec⟩ := Zc eb
 have := Zh ec
 cases this
 obtain ⟨ds, j0, es, k', es', hi, hj, hd, hf, rfl⟩ := Zjq e2
 refine ⟨δ, Hs, M, d, δ1, g, s, e1, fun v H1 Hs1 m1 M1 g1 st1 r1 s1 => ?_⟩
 obtain ⟨p0, p, us, vs, m', m2, ei, n0, hl, eu, n1, rl, le, fin⟩ := ZpR g1 s1 hi hd
 unfold setD at hf
 simp only [Option.map_eq_some_iff] at hf
 obtain ⟨jj, hjj, hf⟩ := hf
 cases hf
 have hlt := Zng hjj
 have sc : ∀ {q : Nat} {x : Int}, δ1[q]? = some (.sc (.int x)) -> ∃ vu, σ[q]? = some (some vu) /\ vu = .int x := fun {q x} h => by
  obtain ⟨v, m1, m2, e1, q, l, f⟩ := s1.slot h (by simp)
  cases q
  exact ⟨_, e1, rfl⟩
 obtain ⟨vn, en, rfl⟩ := sc hn
 obtain ⟨vm, em, rfl⟩ := sc hm
 obtain ⟨G, S, R⟩ := fin (vs.set jj v) (es.set jj d) (fun b => m' b + m1 b) (fun b => Nat.le_refl _) (rl.set (List.getElem?_eq_getElem hlt) r1)
 have z := Zq (m1 := fun _ => 0) g (g1.re fun b => by simp) (st1.drop (fun b => by simp) g1.le) G S
 exact ⟨_, ei, _, en, p0, us, n, .ref p, rfl, rfl, .inl (.inl n0), by unfold atI; rw [hl, <- Zig, hj]; exact eu, _, em, p, vs, m, jj, rfl, rfl, n1, by rw [rl.len]; exact hjj, q σ _ Hs1 _ (Keeps.refl _ _) G (z.2.1.drop (fun b => by simp) z.1.le) R⟩
end
end T
namespace T
open PySem PySem.Spec L2
theorem Zg {X : Cx} {i : Int} {j} {pos : Pos} : PE X (.Constant (.int i) j pos) (tP X.K ((M.ret (.sc (.int i))).bnd fun d => M.ret (.tmp d))) := Zb (ok_k Zam)
theorem Zqp {X : Cx} {sc : Scope} {N} {i : Nat} {x : Str} {b : Bool} {pos : Pos} (h : Zx sc N i x b = true) (e1 : X.env.scope = sc := by rfl) (e2 : X.N = N := by rfl) : PE X (.Name x pos) (tP X.K (ZL i)) := Zg2 (pvs h e1 e2)
end T
namespace My
open PySem PySem.Spec L2 T
local macro_rules | `(tactic| walk_at "d") => `(tactic| decide +kernel)
section
seal L2.PE L2.PS L2.PSs L2.PT L2.PI L2.PA L2.PG L2.PGs L2.PX L2.PXs L2.PEx
noncomputable def top (i : Nat) : Stmt := PySem.Challenge.pw_barlabel_k60_apart.main.body.getD i (.Pass ⟨0, 0, 0, 0⟩)
noncomputable def ZaA (s : Stmt) (i : Nat) : Stmt := match s with
 | .ClassDef (body := b) .. => b.getD i (.Pass ⟨0, 0, 0, 0⟩)
 | _ => .Pass ⟨0, 0, 0, 0⟩
noncomputable def Cw : T.Ctx := { C0 with fuel := 1000 }
noncomputable def CK (C : Addr) : T.Ctx := { C0 with fuel := 1000, fok := fun A f => decide (A = C) && (f == "size" || f == "meanings" || f == "text") }
noncomputable def ZdU (K : Fg) : Addr := match PySem.W.nsIn K mainGlobals "Table" with
 | some (some (.ref C)) => C
 | _ => 0
structure Txt (e : T.En) (C : Addr) : Prop where
 Y : T.Bo e
 all_ : e.mg "all" = none
 bool_ : e.mg "bool" = none
 int_ : e.mg "int" = none
 isinstance_ : e.mg "isinstance" = none
 len_ : e.mg "len" = none
 list_ : e.mg "list" = none
 max_ : e.mg "max" = none
 range_ : e.mg "range" = none
 str_ : e.mg "str" = none
 sum_ : e.mg "sum" = none
 MOST_ROWS_ : ∃ t, e.mg "MOST_ROWS" = some (.int 5 t)
 SIGNS_ : ∃ t, e.mg "SIGNS" = some (.str "abcdefghijklmnopqrstuvwxyz0123456789" t)
 BEGINNING_ : T.ModT e.K e.mg "BEGINNING" ([.int 0, .non] : List V)
 PRIMES_ : T.ModT e.K e.mg "PRIMES" (([5, 7, 11, 13, 17, 19, 23, 29, 31, 37, 41, 43, 47] : List Int).map V.int)
 ci : T.CI e.K "Table" C
 nF_size : Zad e.K C "size"
 nF_meanings : Zad e.K C "meanings"
 nF_text : Zad e.K C "text"
theorem Txt.fok {e : T.En} {C : Addr} (Z : Txt e C) : ∀ A f, (CK C).fok A f = true -> Cls e.K A /\ Zad e.K A f := fun A f h => by
 unfold CK at h
 simp only [Bool.and_eq_true, Bool.or_eq_true, decide_eq_true_eq, beq_iff_eq] at h
 obtain ⟨rfl, h⟩ := h
 rcases h with (rfl | rfl) | rfl
 . exact ⟨Z.ci.cl, Z.nF_size⟩
 . exact ⟨Z.ci.cl, Z.nF_meanings⟩
 . exact ⟨Z.ci.cl, Z.nF_text⟩
variable {e : T.En} {C : Addr}
noncomputable def Zc9 : List T.S := [.for_ (.name 1) .val [.g (.node .ftp false ((([5, 7, 11, 13, 17, 19, 23, 29, 31, 37, 41, 43, 47] : List Int).map V.int).map D.sc))] [.iff (.cmp .Eq (.v 0) (.fs [.k (.str "symbols "), .v 1])) [.ret (.v 1)] []], .raise (.k .non)]
noncomputable def Zbc : T.FI := ⟨true, T.Zs C0 1 2 Zc9⟩
abbrev ZcN (e : T.En) : Prop := e.fn "prime_told" 1 ["first"] Zbc
theorem ZeJ (F : T.TI e.K "prime_told" (top 15)) (Z : Txt e C)  : ZcN e :=
 T.Zak (C := C0) (body := Zc9) (k := 0) Z.Y F ["first", "prime"] fun _ _ _ _ _ _ _ hr =>
 have hu := hr.units
 (Za (Zlb PassesOwn.never rfl (qgu Z.PRIMES_) qt
  (Za (Zu (Zp hu ql (Zb (Zhl (Zhk (Zhj ql Zhi))))) (Za (Zo (Zbr qv))
  Zd) Zd)
  Zd))
  (Za ZbG
  Zd))
noncomputable def Zbd : List T.S := [.asg 1 (.dct1 (.inr "-") (.tup [.k (.str "nothing"), .k .non])), .for_ (.name 2) .val [.k (.str "abcdefghijklmnopqrstuvwxyz0123456789")] [.sub 1 [] (.v 2) (.tup [.k (.str "sign"), .v 2])], .for_ (.name 3) .rng1 [.v 0] [.sub 1 [] (.fs [.k (.str "lock"), .v 3]) (.tup [.k (.str "lock"), .v 3]), .sub 1 [] (.fs [.k (.str "shift"), .v 3]) (.tup [.k (.str "shift"), .v 3])], .ret (.v 1)]
noncomputable def Zab : T.FI := ⟨true, T.Zs C0 1 4 Zbd⟩
abbrev Zbh (e : T.En) : Prop := e.fn "meanings_of_words" 1 ["cases"] Zab
theorem Zc2 (F : T.TI e.K "meanings_of_words" (top 16)) (Z : Txt e C)  : Zbh e :=
 T.Zak (C := C0) (body := Zbd) (k := 0) Z.Y F ["cases", "meanings", "sign", "case"] fun _ _ _ _ _ _ _ hr =>
 have hu := hr.units
 (Za (qa (Zjp (key := .inr "-") Zr (Zt (Zf (ok_k Zr) (Zf (ok_k ZH) Zk)))))
  (Za (Zlc PassesOwn.never rfl (qgt Z.SIGNS_) qt
  (Za (Zb9 hu qv ql (Zt (Zf (ok_k Zr) (Zf (ok_v qv) Zk))))
  Zd))
  (Za (Zaf PassesOwn.never rfl (Za0 _ _) (hw_1 (Zax rfl)) (Zb6 Z.range_ ql) qt
  (Za (Zb9 hu qv (Zb (Zhl (Zhk (Zhj ql Zhi)))) (Zt (Zf (ok_k Zr) (Zf (ok_v qv) Zk))))
  (Za (Zb9 hu qv (Zb (Zhl (Zhk (Zhj ql Zhi)))) (Zt (Zf (ok_k Zr) (Zf (ok_v qv) Zk))))
  Zd)))
  (Za (Zo (Zbr qv))
  Zd))))
noncomputable def ZdV : List T.S := [.iff (.nt (.bf (.isi .str) [.v 0])) [.raise (.k .non)] [], .ret (.bm .split (.v 0) [.k (.str "\n")])]
noncomputable def ZbU : T.FI := ⟨true, T.Zs C0 1 1 ZdV⟩
abbrev Ze8 (e : T.En) : Prop := e.fn "rows_of" 1 ["text"] ZbU
theorem Zhn (F : T.TI e.K "rows_of" (top 17)) (Z : Txt e C)  : Ze8 e :=
 T.Zak (C := C0) (body := ZdV) (k := 0) Z.Y F ["text"] fun _ _ _ _ _ _ _ hr =>
 (Za (Zu (ZaT (ZaJ (Zb (qi Z.isinstance_ ql Z.str_ ZnO)))) (Za ZbG
  Zd) Zd)
  (Za (Zo (Zf7 ql (Ze (Zb (ok_k Zr)) Zi)))
  Zd))
noncomputable def Zbs : List T.S := [.iff (.cmp .Gt (.bf .len [.v 0]) (.k (.int 5))) [.raise (.k .non)] [], .iff (.cmp .Eq (.bf .len [.v 0]) (.k (.int 1))) [.raise (.k .non)] []]
noncomputable def Zal : T.FI := ⟨true, T.Zs C0 1 1 Zbs⟩
abbrev Zby (e : T.En) : Prop := e.fn "check_row_count" 1 ["rows"] Zal
theorem ZcO (F : T.TI e.K "check_row_count" (top 18)) (Z : Txt e C)  : Zby e :=
 T.Zak (C := C0) (body := Zbs) (k := 0) Z.Y F ["rows"] fun _ _ _ _ _ _ _ hr =>
 have hu := hr.units
 (Za (Zu (Zp hu (Zb (Z1 ZA Z.len_ ZB (Ze ql Zi))) (Zb (qgi Z.MOST_ROWS_))) (Za ZbG
  Zd) Zd)
  (Za (Zu (Zp hu (Zb (Z1 ZA Z.len_ ZB (Ze ql Zi))) Zg) (Za ZbG
  Zd) Zd)
  Zd))
noncomputable def ZI : List T.S := [.asg 2 (.call Zab [.bin .Sub (.bf .len [.v 1]) (.k (.int 1))]), .asg 3 (.lst []), .for_ (.name 4) .rng2 [.k (.int 1), .bf .len [.v 1]] [.asg 5 (.bm .split (.ix (.v 1) (.v 4)) [.k (.str " ")]), .iff (.or (.cmp .NotEq (.bf .len [.v 5]) (.v 0)) (.nt (.bf .all [.comp 1 [2] (.name 0) .val [.v 5] [] (.cmp .In (.v 0) (.v 1))]))) [.raise (.k .non)] [], .ex (.mut .append 3 [] [.comp 1 [2] (.name 0) .val [.v 5] [] (.ix (.v 1) (.v 0))])], .ret (.v 3)]
noncomputable def Zag : T.FI := ⟨true, T.Zs C0 2 6 ZI⟩
abbrev Zbt (e : T.En) : Prop := e.fn "meanings_of_rows" 2 ["prime", "rows"] Zag
theorem ZcC (F : T.TI e.K "meanings_of_rows" (top 19)) (Z : Txt e C) (g1 : Zbh e) : Zbt e :=
 T.Zak (C := C0) (body := ZI) (k := 1) Z.Y F ["prime", "rows", "words", "found", "number", "row"] fun _ _ _ _ _ _ _ hr =>
 have hu := hr.units
 (Za (qa (Zz g1 hr (Ze (Zb (qb (Zb (Z1 ZA Z.len_ ZB (Ze ql Zi))) Zg)) Zi)))
  (Za (qa (ZS Zk))
  (Za (Zaf PassesOwn.never rfl (Za0 _ _) (hw_2 (ZfG rfl) (ZfG rfl)) (ZkJ Z.range_ Zg (Zb (Z1 ZA Z.len_ ZB (Ze ql Zi)))) qt
  (Za (qa (Zf7 (Zb (Zj hu ql ql)) (Ze (Zb (ok_k Zr)) Zi)))
  (Za (Zu (PW.pt (ZaK (Zp hu (Zb (Z1 ZA Z.len_ ZB (Ze ql Zi))) ql) (ZaZ (ZaT (ZaJ (Zb (Z1 (Zml rfl) Z.all_ Zmq (Ze (Zb (Zdk rfl (cS ["word", "words"]) (Zao ql) (fun _ _ _ _ _ => ⟨qt, Zch, (Zdp hu ql ql)⟩))) Zi)))))))) (Za ZbG
  Zd) Zd)
  (Za (ZW (ZE qv (Zf (Zdk rfl (cS ["word", "words"]) (Zao ql) (fun _ _ _ _ _ => ⟨qt, Zch, (Zj hu ql ql)⟩)) Zk)))
  Zd))))
  (Za (Zo (Zbr qv))
  Zd))))
noncomputable def Zbz (C : Addr) : List T.S := [.asg 2 (.call ZbU [.v 1]), .attr 0 "size" (.call Zbc [.ix (.v 2) (.k (.int 0))]), .ex (.call Zal [.v 2]), .attr 0 "meanings" (.call Zag [.fld (.v 0) "size", .v 2]), .attr 0 "text" (.v 1)]
noncomputable def ZJ (C : Addr) : T.FI := ⟨true, T.Zs (CK C) 2 3 (Zbz C)⟩
abbrev ZbK (e : T.En) (C : Addr) : Prop := e.nw "Table" C 3 ["self", "text"] (ZJ C)
theorem Zdw (F : T.MI e.K C "__init__" "Table.__init__" (ZaA (top 20) 0)) (Z : Txt e C) (g2 : Ze8 e) (g0 : ZcN e) (g3 : Zby e) (g4 : Zbt e) : ZbK e C :=
 T.ZpQ (C := (CK C)) (body := (Zbz C)) (k := 2) Z.Y Z.ci F ["self", "text", "rows"] fun _ _ _ _ _ _ _ hr =>
 have hu := hr.units
 (Za (qa (Zz g2 hr (Ze ql Zi)))
  (Za (Zei Z.fok qv (Zz g0 hr (Ze (Zb (Zj hu ql Zg)) Zi)))
  (Za (ZW (Zz g3 hr (Ze ql Zi)))
  (Za (Zei Z.fok qv (Zz g4 hr (Ze (Zb (ZdM Z.fok ql)) (Ze ql Zi))))
  (Za (Zei Z.fok qv (ok_v qv))
  Zd)))))
noncomputable def Zcj (C : Addr) : List T.S := [.ret (.fld (.v 0) "size")]
noncomputable def ZQ (C : Addr) : T.FI := ⟨true, T.Zs (CK C) 1 1 (Zcj C)⟩
abbrev Zbw (e : T.En) (C : Addr) : Prop := e.me C "prime" 1 ["self"] (ZQ C)
theorem Zej (F : T.MI e.K C "prime" "Table.prime" (ZaA (top 20) 1)) (Z : Txt e C)  : Zbw e C :=
 T.Zhm (C := (CK C)) (body := (Zcj C)) (k := 0) Z.ci.cl F ["self"] fun _ _ _ _ _ _ _ hr =>
 (Za (Zo (ZdM Z.fok ql))
  Zd)
noncomputable def Zck (C : Addr) : List T.S := [.ret (.fld (.v 0) "text")]
noncomputable def ZR (C : Addr) : T.FI := ⟨true, T.Zs (CK C) 1 1 (Zck C)⟩
abbrev ZcA (e : T.En) (C : Addr) : Prop := e.me C "shown" 1 ["self"] (ZR C)
theorem Zek (F : T.MI e.K C "shown" "Table.shown" (ZaA (top 20) 4)) (Z : Txt e C)  : ZcA e C :=
 T.Zhm (C := (CK C)) (body := (Zck C)) (k := 0) Z.ci.cl F ["self"] fun _ _ _ _ _ _ _ hr =>
 (Za (Zo (ZdM Z.fok ql))
  Zd)
noncomputable def ZbV (C : Addr) : List T.S := [.asg 3 (.ix (.v 1) (.k (.int 0))), .asg 4 (.ix (.v 1) (.k (.int 1))), .asg 5 (.ix (.ix (.fld (.v 0) "meanings") (.ife (.isN true (.v 4)) (.v 3) (.v 4))) (.v 2)), .iff (.cmp .Eq (.ix (.v 5) (.k (.int 0))) (.k (.str "sign"))) [.ret (.tup [.tup [.v 3, .k .non], .ix (.v 5) (.k (.int 1))])] [], .iff (.or (.cmp .Eq (.ix (.v 5) (.k (.int 0))) (.k (.str "nothing"))) (.isN false (.v 4))) [.ret (.tup [.k .non, .k (.str "")])] [], .iff (.cmp .Eq (.ix (.v 5) (.k (.int 0))) (.k (.str "lock"))) [.ret (.tup [.tup [.ix (.v 5) (.k (.int 1)), .k .non], .k (.str "")])] [], .ret (.tup [.tup [.v 3, .ix (.v 5) (.k (.int 1))], .k (.str "")])]
noncomputable def ZaD (C : Addr) : T.FI := ⟨true, T.Zs (CK C) 3 6 (ZbV C)⟩
abbrev Zcl (e : T.En) (C : Addr) : Prop := e.me C "behind" 1 ["self", "place", "symbol"] (ZaD C)
theorem ZdW (F : T.MI e.K C "behind" "Table.behind" (ZaA (top 20) 5)) (Z : Txt e C)  : Zcl e C :=
 T.Zhm (C := (CK C)) (body := (ZbV C)) (k := 0) Z.ci.cl F ["self", "place", "symbol", "case", "shifted", "meaning"] fun _ _ _ _ _ _ _ hr =>
 have hu := hr.units
 (Za (qa (Zj hu ql Zg))
  (Za (qa (Zj hu ql Zg))
  (Za (qa (Zj hu (Zb (Zj hu (Zb (ZdM Z.fok ql)) (Zb (Zmg (ZbA ql) (ok_v qv) (ok_v qv))))) ql))
  (Za (Zu (Zp hu (Zb (Zj hu ql Zg)) (Zb (ok_k Zr))) (Za (Zo (Zt (Zf (Zt (Zf (ok_v qv) (Zf (ok_k ZH) Zk))) (Zf (Zj hu ql Zg) Zk))))
  Zd) Zd)
  (Za (Zu (PW.pt (ZaK (Zp hu (Zb (Zj hu ql Zg)) (Zb (ok_k Zr))) (ZaZ (ZbJ ql)))) (Za (Zo (Zt (Zf (ok_k ZH) (Zf (ok_k Zr) Zk))))
  Zd) Zd)
  (Za (Zu (Zp hu (Zb (Zj hu ql Zg)) (Zb (ok_k Zr))) (Za (Zo (Zt (Zf (Zt (Zf (Zj hu ql Zg) (Zf (ok_k ZH) Zk))) (Zf (ok_k Zr) Zk))))
  Zd) Zd)
  (Za (Zo (Zt (Zf (Zt (Zf (ok_v qv) (Zf (Zj hu ql Zg) Zk))) (Zf (ok_k Zr) Zk))))
  Zd)))))))
noncomputable def Zb3 (C : Addr) : List T.S := [.iff (.or (.isN true (.v 1)) (.cmp .GtE (.v 2) (.meth C "prime" (ZQ C) (.v 0) []))) [.ret (.tup [.k .non, .k (.str "")])] [], .ret (.meth C "behind" (ZaD C) (.v 0) [.v 1, .v 2])]
noncomputable def Za5 (C : Addr) : T.FI := ⟨true, T.Zs (CK C) 3 3 (Zb3 C)⟩
abbrev Ze9 (e : T.En) (C : Addr) : Prop := e.fn "step_of" 2 ["table", "place", "symbol"] (Za5 C)
theorem Zho (F : T.TI e.K "step_of" (top 22)) (Z : Txt e C) (g6 : Zbw e C) (g8 : Zcl e C) : Ze9 e C :=
 T.Zak (C := (CK C)) (body := (Zb3 C)) (k := 1) Z.Y F ["table", "place", "symbol"] fun _ _ _ _ _ _ _ hr =>
 have hu := hr.units
 (Za (Zu (PW.pt (ZaK (ZbA ql) (ZaZ (Zp hu ql (Zb (Zc1 g6 hr ql)))))) (Za (Zo (Zt (Zf (ok_k ZH) (Zf (ok_k Zr) Zk))))
  Zd) Zd)
  (Za (Zo (ZkP g8 hr ql (Ze ql (Ze ql Zi))))
  Zd))
noncomputable def ZfJ : List T.S := [.iff (.or (.isN true (.ix (.v 0) (.k (.int 0)))) (.isN false (.ix (.ix (.v 0) (.k (.int 0))) (.k (.int 1))))) [.ret (.k .non)] [], .ret (.ix (.v 0) (.k (.int 1)))]
noncomputable def Zcm : T.FI := ⟨true, T.Zs C0 1 1 ZfJ⟩
abbrev ZgI (e : T.En) : Prop := e.fn "given" 1 ["step"] Zcm
theorem Zjr (F : T.TI e.K "given" (top 23)) (Z : Txt e C)  : ZgI e :=
 T.Zak (C := C0) (body := ZfJ) (k := 0) Z.Y F ["step"] fun _ _ _ _ _ _ _ hr =>
 have hu := hr.units
 (Za (Zu (PW.pt (ZaK (ZbA (Zb (Zj hu ql Zg))) (ZaZ (ZbJ (Zb (Zj hu (Zb (Zj hu ql Zg)) Zg)))))) (Za (Zo (ok_k ZH))
  Zd) Zd)
  (Za (Zo (Zj hu ql Zg))
  Zd))
noncomputable def Zar (C : Addr) : List T.S := [.asg 2 (.bf .max [.meth C "prime" (ZQ C) (.v 0) [], .meth C "prime" (ZQ C) (.v 1) []]), .asg 3 (.tup [.g (.node .ftp false (([.int 0, .non] : List V).map D.sc)), .g (.node .ftp false (([.int 0, .non] : List V).map D.sc))]), .asg 4 (.dctP (.v 3) (.lst [])), .asg 5 (.lst [.v 3]), .while_ (.v 5) [.asg 6 (.mut .popAt 5 [] [.k (.int 0)]), .for_ (.name 7) .rng1 [.v 2] [.asg 8 (.bin .Add (.ix (.v 4) (.v 6)) (.lst [.v 7])), .asg 9 (.call (Za5 C) [.v 0, .ix (.v 6) (.k (.int 0)), .v 7]), .asg 10 (.call (Za5 C) [.v 1, .ix (.v 6) (.k (.int 1)), .v 7]), .iff (.cmp .NotEq (.call Zcm [.v 9]) (.call Zcm [.v 10])) [.ret (.v 8)] [], .asg 11 (.tup [.ix (.v 9) (.k (.int 0)), .ix (.v 10) (.k (.int 0))]), .iff (.cmp .NotIn (.v 11) (.v 4)) [.sub 4 [] (.v 11) (.v 8), .ex (.mut .append 5 [] [.v 11])] []]], .ret (.k .non)]
noncomputable def Zbm (C : Addr) : T.FI := ⟨true, T.Zs (CK C) 2 12 (Zar C)⟩
abbrev ZgJ (e : T.En) (C : Addr) : Prop := e.fn "apart" 3 ["one", "other"] (Zbm C)
theorem Zjs (F : T.TI e.K "apart" (top 24)) (Z : Txt e C) (g6 : Zbw e C) (g9 : Ze9 e C) (g10 : ZgI e) : ZgJ e C :=
 T.Zak (C := (CK C)) (body := (Zar C)) (k := 2) Z.Y F ["one", "other", "symbol_count", "begun", "rows", "waiting", "places", "symbol", "row", "step", "other_step", "following"] fun _ _ _ _ _ _ _ hr =>
 have hu := hr.units
 (Za (qa (Z1 (Zfy rfl) Z.max_ Zf5 (Ze (Zb (Zc1 g6 hr ql)) (Ze (Zb (Zc1 g6 hr ql)) Zi))))
  (Za (qa (Zt (Zf (qgu Z.BEGINNING_) (Zf (qgu Z.BEGINNING_) Zk))))
  (Za (qa (ZfI hu ql (ZS Zk)))
  (Za (qa (ZS (Zf (ok_v qv) Zk)))
  (Za (Zf0 PassesOwn.never (ZaJ ql) (Za (qa (Zjm qv (Ze Zg Zi)))
  (Za (Zaf PassesOwn.never rfl (Za0 _ _) (hw_1 (Zax rfl)) (Zb6 Z.range_ ql) qt
  (Za (qa (qb (Zb (Zj hu ql ql)) (Zb (ZS (Zf (ok_v qv) Zk)))))
  (Za (qa (Zz g9 hr (Ze ql (Ze (Zb (Zj hu ql Zg)) (Ze ql Zi)))))
  (Za (qa (Zz g9 hr (Ze ql (Ze (Zb (Zj hu ql Zg)) (Ze ql Zi)))))
  (Za (Zu (Zp hu (Zb (Zz g10 hr (Ze ql Zi))) (Zb (Zz g10 hr (Ze ql Zi)))) (Za (Zo (Zbr qv))
  Zd) Zd)
  (Za (qa (Zt (Zf (Zj hu ql Zg) (Zf (Zj hu ql Zg) Zk))))
  (Za (Zu (Zp hu ql ql) (Za (Zb9 hu qv ql (ok_v qv))
  (Za (ZW (ZE qv (Zf (ok_v qv) Zk)))
  Zd)) Zd)
  Zd)))))))
  Zd)))
  (Za (Zo (ok_k ZH))
  Zd))))))
noncomputable def ZcP : List T.S := [.ret (.bf .sum [.sl (.v 0) (.v 1) (.bin .Add (.v 1) (.k (.int 1)))])]
noncomputable def ZM : T.FI := ⟨true, T.Zs C0 2 2 ZcP⟩
abbrev ZbZ (e : T.En) : Prop := e.fn "_law_here" 1 ["_law_script", "_law_place"] ZM
theorem ZfK (F : T.TI e.K "_law_here" (top 26)) (Z : Txt e C)  : ZbZ e :=
 T.Zak (C := C0) (body := ZcP) (k := 0) Z.Y F ["_law_script", "_law_place"] fun _ _ _ _ _ _ _ hr =>
 (Za (Zo (Z1 (Zmk rfl) Z.sum_ Zmp (Ze (Zb (ZjN ql (Zeg ql) (Zeg (Zb (qb ql Zg))))) Zi)))
  Zd)
noncomputable def ZX : List T.S := [.asg 2 (.bin .FloorDiv (.v 0) (.k (.int 2))), .asg 3 (.bin .Mod (.v 2) (.k (.int 1999999973))), .asg 4 (.bin .Mod (.bin .FloorDiv (.v 2) (.k (.int 1999999973))) (.k (.int 1999999943))), .asg 5 (.lst []), .for_ (.name 6) .rng1 [.bin .Add (.v 1) (.k (.int 2))] [.asg 7 (.bin .Add (.bin .Add (.bin .Add (.bin .Mult (.v 3) (.k (.int 1664525))) (.bin .Mult (.v 4) (.v 4))) (.bin .Mult (.k (.int 97)) (.v 6))) (.k (.int 40503))), .asg 3 (.v 4), .asg 4 (.bin .Mod (.v 7) (.k (.int 1999999973))), .ex (.mut .append 5 [] [.v 4])], .asg 5 (.sl (.v 5) (.k (.int 2)) (.k .non)), .iff (.cmp .Eq (.bin .Mod (.v 0) (.k (.int 2))) (.k (.int 0))) [.ret (.v 5)] [], .for_ (.name 8) .rng1 [.v 1] [.iff (.cmp .Gt (.v 2) (.k (.int 0))) [.sub 5 [] (.v 8) (.bin .Mod (.v 2) (.k (.int 1999999973))), .asg 2 (.bin .FloorDiv (.v 2) (.k (.int 1999999973)))] []], .ret (.v 5)]
noncomputable def ZF : T.FI := ⟨true, T.Zs C0 2 9 ZX⟩
abbrev Zbx (e : T.En) : Prop := e.fn "_law_shaken" 1 ["_law_cell", "_law_many"] ZF
theorem Zel (F : T.TI e.K "_law_shaken" (top 27)) (Z : Txt e C)  : Zbx e :=
 T.Zak (C := C0) (body := ZX) (k := 0) Z.Y F ["_law_cell", "_law_many", "_law_rest", "_law_one", "_law_two", "_law_found", "_law_turn", "_law_more", "_law_k"] fun _ _ _ _ _ _ _ hr =>
 have hu := hr.units
 (Za (qa (qb ql Zg))
  (Za (qa (qb ql Zg))
  (Za (qa (qb (Zb (qb ql Zg)) Zg))
  (Za (qa (ZS Zk))
  (Za (Zaf PassesOwn.never rfl (Za0 _ _) (hw_1 (ZfG rfl)) (Zb6 Z.range_ (Zb (qb ql Zg))) qt
  (Za (qa (qb (Zb (qb (Zb (qb (Zb (qb ql Zg)) (Zb (qb ql ql)))) (Zb (qb Zg ql)))) Zg))
  (Za (qa (ok_v qv))
  (Za (qa (qb ql Zg))
  (Za (ZW (ZE qv (Zf (ok_v qv) Zk)))
  Zd)))))
  (Za (qa (ZjN ql (Zeg Zg) Zoa))
  (Za (Zu (Zp hu (Zb (qb ql Zg)) Zg) (Za (Zo (Zbr qv))
  Zd) Zd)
  (Za (Zaf PassesOwn.never rfl (Za0 _ _) (hw_1 (Zax rfl)) (Zb6 Z.range_ ql) qt
  (Za (Zu (Zp hu ql Zg) (Za (Zb9 hu qv ql (qb ql Zg))
  (Za (qa (qb ql Zg))
  Zd)) Zd)
  Zd))
  (Za (Zo (Zbr qv))
  Zd)))))))))
noncomputable def Zat : List T.S := [.asg 3 (.bin .Add (.k (.int 1)) (.bin .Mod (.call ZM [.v 0, .v 1]) (.k (.int 4)))), .asg 4 (.ix (.kl [(.str "a"), (.str "ab"), (.str "abc7"), (.str "abcdefghijklmnopqrstuvwxyz0123456789")]) (.bin .Mod (.bin .FloorDiv (.call ZM [.v 0, .v 1]) (.k (.int 4))) (.k (.int 4)))), .asg 5 (.lst []), .for_ (.name 6) .rng1 [.v 3] [.asg 7 (.call ZF [.call ZM [.v 0, .bin .Add (.bin .Add (.v 1) (.k (.int 1))) (.v 6)], .v 2]), .asg 8 (.lst []), .for_ (.name 9) .val [.v 7] [.iff (.cmp .Lt (.bin .Mod (.v 9) (.k (.int 8))) (.k (.int 5))) [.ex (.mut .append 8 [] [.tup [.k (.str "sign"), .ix (.v 4) (.bin .Mod (.bin .FloorDiv (.v 9) (.k (.int 8))) (.bf .len [.v 4]))]])] [.ex (.mut .append 8 [] [.tup [.ix (.lst [.k (.str "lock"), .k (.str "shift"), .k (.str "nothing")]) (.bin .Sub (.bin .Mod (.v 9) (.k (.int 8))) (.k (.int 5))), .bin .Mod (.bin .FloorDiv (.v 9) (.k (.int 8))) (.v 3)]])]], .ex (.mut .append 5 [] [.v 8])], .ret (.v 5)]
noncomputable def Za6 : T.FI := ⟨true, T.Zs C0 3 10 Zat⟩
abbrev ZcQ (e : T.En) : Prop := e.fn "_law_cases" 2 ["_law_script", "_law_start", "_law_prime"] Za6
theorem ZeK (F : T.TI e.K "_law_cases" (top 28)) (Z : Txt e C) (g12 : ZbZ e) (g13 : Zbx e) : ZcQ e :=
 T.Zak (C := C0) (body := Zat) (k := 1) Z.Y F ["_law_script", "_law_start", "_law_prime", "_law_many", "_law_pool", "_law_found", "_law_case", "_law_xs", "_law_row", "_law_x"] fun _ _ _ _ _ _ _ hr =>
 have hu := hr.units
 (Za (qa (qb Zg (Zb (qb (Zb (Zz g12 hr (Ze ql (Ze ql Zi)))) Zg))))
  (Za (qa (Zj hu (Zb (Zhh (vs := [(.str "a"), (.str "ab"), (.str "abc7"), (.str "abcdefghijklmnopqrstuvwxyz0123456789")]) (by kernel_rfl))) (Zb (qb (Zb (qb (Zb (Zz g12 hr (Ze ql (Ze ql Zi)))) Zg)) Zg))))
  (Za (qa (ZS Zk))
  (Za (Zaf PassesOwn.never rfl (Za0 _ _) (hw_1 (Zax rfl)) (Zb6 Z.range_ ql) qt
  (Za (qa (Zz g13 hr (Ze (Zb (Zz g12 hr (Ze ql (Ze (Zb (qb (Zb (qb ql Zg)) ql)) Zi)))) (Ze ql Zi))))
  (Za (qa (ZS Zk))
  (Za (Zaf PassesOwn.never rfl (Za0 _ _) (hw_1 (Zax rfl)) (Zao ql) qt
  (Za (Zu (Zp hu (Zb (qb ql Zg)) Zg) (Za (ZW (ZE qv (Zf (Zt (Zf (ok_k Zr) (Zf (Zj hu ql (Zb (qb (Zb (qb ql Zg)) (Zb (Z1 ZA Z.len_ ZB (Ze ql Zi)))))) Zk))) Zk)))
  Zd) (Za (ZW (ZE qv (Zf (Zt (Zf (Zj hu (Zb (ZS (Zf (ok_k Zr) (Zf (ok_k Zr) (Zf (ok_k Zr) Zk))))) (Zb (qb (Zb (qb ql Zg)) Zg))) (Zf (qb (Zb (qb ql Zg)) ql) Zk))) Zk)))
  Zd))
  Zd))
  (Za (ZW (ZE qv (Zf (ok_v qv) Zk)))
  Zd)))))
  (Za (Zo (Zbr qv))
  Zd)))))
noncomputable def Za7 : List T.S := [.asg 2 (.lst [.bin .Add (.k (.str "symbols ")) (.bf .str [.v 0])]), .for_ (.name 3) .val [.v 1] [.asg 4 (.lst []), .for_ (.tup [5, 6]) .val [.v 3] [.iff (.cmp .Eq (.v 5) (.k (.str "sign"))) [.ex (.mut .append 4 [] [.v 6])] [.iff (.cmp .Eq (.v 5) (.k (.str "nothing"))) [.ex (.mut .append 4 [] [.k (.str "-")])] [.ex (.mut .append 4 [] [.bin .Add (.v 5) (.bf .str [.v 6])])]]], .ex (.mut .append 2 [] [.bm .join (.k (.str " ")) [.v 4]])], .ret (.bm .join (.k (.str "\n")) [.v 2])]
noncomputable def Z5 : T.FI := ⟨true, T.Zs C0 2 7 Za7⟩
abbrev Zd1 (e : T.En) : Prop := e.fn "_law_text" 1 ["_law_prime", "_law_cases_here"] Z5
theorem ZfL (F : T.TI e.K "_law_text" (top 29)) (Z : Txt e C)  : Zd1 e :=
 T.Zak (C := C0) (body := Za7) (k := 0) Z.Y F ["_law_prime", "_law_cases_here", "_law_rows", "_law_row", "_law_words", "_law_sort", "_law_thing"] fun _ _ _ _ _ _ _ hr =>
 have hu := hr.units
 (Za (qa (ZS (Zf (qb (Zb (ok_k Zr)) (Zb (ZdN Zih Z.str_ Zim (Ze ql Zi)))) Zk)))
  (Za (Zaf PassesOwn.never rfl (Za0 _ _) (hw_1 (Zax rfl)) (Zao ql) qt
  (Za (qa (ZS Zk))
  (Za (Zaf PassesOwn.never rfl (Za0 _ _) (hw_1 (Zax rfl)) (Zao ql) (ZpK rfl (qg (qg Zcz)))
  (Za (Zu (Zp hu ql (Zb (ok_k Zr))) (Za (ZW (ZE qv (Zf (ok_v qv) Zk)))
  Zd) (Za (Zu (Zp hu ql (Zb (ok_k Zr))) (Za (ZW (ZE qv (Zf (ok_k Zr) Zk)))
  Zd) (Za (ZW (ZE qv (Zf (qb ql (Zb (ZdN Zih Z.str_ Zim (Ze ql Zi)))) Zk)))
  Zd))
  Zd))
  Zd))
  (Za (ZW (ZE qv (Zf (ZgC (Zb (ok_k Zr)) (Ze ql Zi)) Zk)))
  Zd))))
  (Za (Zo (ZgC (Zb (ok_k Zr)) (Ze ql Zi)))
  Zd)))
noncomputable def ZcB : List T.S := [.iff (.or (.isN true (.v 1)) (.cmp .GtE (.v 2) (.bf .len [.ix (.v 0) (.k (.int 0))]))) [.ret (.tup [.k .non, .k (.str "")])] [], .unp [3, 4] (.v 1), .iff (.isN false (.v 4)) [.unp [5, 6] (.ix (.ix (.v 0) (.v 4)) (.v 2)), .iff (.cmp .Eq (.v 5) (.k (.str "sign"))) [.ret (.tup [.tup [.v 3, .k .non], .v 6])] [], .ret (.tup [.k .non, .k (.str "")])] [], .unp [5, 6] (.ix (.ix (.v 0) (.v 3)) (.v 2)), .iff (.cmp .Eq (.v 5) (.k (.str "sign"))) [.ret (.tup [.v 1, .v 6])] [], .iff (.cmp .Eq (.v 5) (.k (.str "lock"))) [.ret (.tup [.tup [.v 6, .k .non], .k (.str "")])] [], .iff (.cmp .Eq (.v 5) (.k (.str "shift"))) [.ret (.tup [.tup [.v 3, .v 6], .k (.str "")])] [], .ret (.tup [.k .non, .k (.str "")])]
noncomputable def ZD : T.FI := ⟨true, T.Zs C0 3 7 ZcB⟩
abbrev ZbL (e : T.En) : Prop := e.fn "_law_moved" 1 ["_law_cases_here", "_law_state", "_law_symbol"] ZD
theorem ZeL (F : T.TI e.K "_law_moved" (top 30)) (Z : Txt e C)  : ZbL e :=
 T.Zak (C := C0) (body := ZcB) (k := 0) Z.Y F ["_law_cases_here", "_law_state", "_law_symbol", "_law_case", "_law_ahead", "_law_sort", "_law_thing"] fun _ _ _ _ _ _ _ hr =>
 have hu := hr.units
 (Za (Zu (PW.pt (ZaK (ZbA ql) (ZaZ (Zp hu ql (Zb (Z1 ZA Z.len_ ZB (Ze (Zb (Zj hu ql Zg)) Zi))))))) (Za (Zo (Zt (Zf (ok_k ZH) (Zf (ok_k Zr) Zk))))
  Zd) Zd)
  (Za (Zcg rfl ql (qg (qg Zcz)))
  (Za (Zu (ZbJ ql) (Za (Zcg rfl (Zb (Zj hu (Zb (Zj hu ql ql)) ql)) (qg (qg Zcz)))
  (Za (Zu (Zp hu ql (Zb (ok_k Zr))) (Za (Zo (Zt (Zf (Zt (Zf (ok_v qv) (Zf (ok_k ZH) Zk))) (Zf (ok_v qv) Zk))))
  Zd) Zd)
  (Za (Zo (Zt (Zf (ok_k ZH) (Zf (ok_k Zr) Zk))))
  Zd))) Zd)
  (Za (Zcg rfl (Zb (Zj hu (Zb (Zj hu ql ql)) ql)) (qg (qg Zcz)))
  (Za (Zu (Zp hu ql (Zb (ok_k Zr))) (Za (Zo (Zt (Zf (ok_v qv) (Zf (ok_v qv) Zk))))
  Zd) Zd)
  (Za (Zu (Zp hu ql (Zb (ok_k Zr))) (Za (Zo (Zt (Zf (Zt (Zf (ok_v qv) (Zf (ok_k ZH) Zk))) (Zf (ok_k Zr) Zk))))
  Zd) Zd)
  (Za (Zu (Zp hu ql (Zb (ok_k Zr))) (Za (Zo (Zt (Zf (Zt (Zf (ok_v qv) (Zf (ok_v qv) Zk))) (Zf (ok_k Zr) Zk))))
  Zd) Zd)
  (Za (Zo (Zt (Zf (ok_k ZH) (Zf (ok_k Zr) Zk))))
  Zd))))))))
noncomputable def Za8 : List T.S := [.asg 2 (.tup [.k (.int 0), .k .non]), .asg 3 (.k (.str "")), .for_ (.name 4) .val [.v 1] [.unp [2, 5] (.call ZD [.v 0, .v 2, .v 4]), .asg 3 (.bin .Add (.v 3) (.v 5))], .iff (.or (.isN true (.v 2)) (.isN false (.ix (.v 2) (.k (.int 1))))) [.ret (.k .non)] [], .ret (.v 3)]
noncomputable def ZaM : T.FI := ⟨true, T.Zs C0 2 6 Za8⟩
abbrev Zd2 (e : T.En) : Prop := e.fn "_law_read" 2 ["_law_cases_here", "_law_row"] ZaM
theorem ZfM (F : T.TI e.K "_law_read" (top 31)) (Z : Txt e C) (g16 : ZbL e) : Zd2 e :=
 T.Zak (C := C0) (body := Za8) (k := 1) Z.Y F ["_law_cases_here", "_law_row", "_law_state", "_law_text_here", "_law_symbol", "_law_sign"] fun _ _ _ _ _ _ _ hr =>
 have hu := hr.units
 (Za (qa (Zt (Zf (ok_k Zam) (Zf (ok_k ZH) Zk))))
  (Za (qa (ok_k Zr))
  (Za (Zaf PassesOwn.never rfl (Za0 _ _) (hw_1 (Zax rfl)) (Zao ql) qt
  (Za (Zcg rfl (Zb (Zz g16 hr (Ze ql (Ze ql (Ze ql Zi))))) (qg (qg Zcz)))
  (Za (qa (qb ql ql))
  Zd)))
  (Za (Zu (PW.pt (ZaK (ZbA ql) (ZaZ (ZbJ (Zb (Zj hu ql Zg)))))) (Za (Zo (ok_k ZH))
  Zd) Zd)
  (Za (Zo (Zbr qv))
  Zd)))))
noncomputable def Z2 : List T.S := [.asg 2 (.bf .max [.bf .len [.ix (.v 0) (.k (.int 0))], .bf .len [.ix (.v 1) (.k (.int 0))]]), .asg 3 (.lst [.tup [.tup [.k (.int 0), .k .non], .tup [.k (.int 0), .k .non]]]), .asg 4 (.dctP (.ix (.v 3) (.k (.int 0))) (.k (.int 0))), .asg 5 (.k (.int 0)), .while_ (.cmp .Lt (.v 5) (.bf .len [.v 3])) [.asg 6 (.ix (.v 3) (.v 5)), .asg 5 (.bin .Add (.v 5) (.k (.int 1))), .for_ (.name 7) .rng1 [.v 2] [.unp [8, 9] (.call ZD [.v 0, .ix (.v 6) (.k (.int 0)), .v 7]), .unp [10, 11] (.call ZD [.v 1, .ix (.v 6) (.k (.int 1)), .v 7]), .asg 12 (.lst [.or (.isN true (.v 8)) (.isN false (.ix (.v 8) (.k (.int 1)))), .or (.isN true (.v 10)) (.isN false (.ix (.v 10) (.k (.int 1))))]), .iff (.or (.cmp .NotEq (.ix (.v 12) (.k (.int 0))) (.ix (.v 12) (.k (.int 1)))) (.and (.nt (.ix (.v 12) (.k (.int 0)))) (.cmp .NotEq (.v 9) (.v 11)))) [.ret (.bin .Add (.ix (.v 4) (.v 6)) (.k (.int 1)))] [], .iff (.cmp .NotIn (.tup [.v 8, .v 10]) (.v 4)) [.sub 4 [] (.tup [.v 8, .v 10]) (.bin .Add (.ix (.v 4) (.v 6)) (.k (.int 1))), .ex (.mut .append 3 [] [.tup [.v 8, .v 10]])] []]], .ret (.k .non)]
noncomputable def Zbe : T.FI := ⟨true, T.Zs Cw 2 13 Z2⟩
abbrev ZcR (e : T.En) : Prop := e.fn "_law_least" 2 ["_law_one", "_law_other"] Zbe
theorem ZeM (F : T.TI e.K "_law_least" (top 32)) (Z : Txt e C) (g16 : ZbL e) : ZcR e :=
 T.Zak (C := Cw) (body := Z2) (k := 1) Z.Y F ["_law_one", "_law_other", "_law_many", "_law_queue", "_law_lengths", "_law_at", "_law_pair", "_law_symbol", "_law_left", "_law_sign", "_law_right_here", "_law_thing", "_law_shut"] fun _ _ _ _ _ _ _ hr =>
 have hu := hr.units
 (Za (qa (Z1 (Zfy rfl) Z.max_ Zf5 (Ze (Zb (Z1 ZA Z.len_ ZB (Ze (Zb (Zj hu ql Zg)) Zi))) (Ze (Zb (Z1 ZA Z.len_ ZB (Ze (Zb (Zj hu ql Zg)) Zi))) Zi))))
  (Za (qa (ZS (Zf (Zt (Zf (Zt (Zf (ok_k Zam) (Zf (ok_k ZH) Zk))) (Zf (Zt (Zf (ok_k Zam) (Zf (ok_k ZH) Zk))) Zk))) Zk)))
  (Za (qa (ZfI hu (Zb (Zj hu ql Zg)) (ok_k Zam)))
  (Za (qa (ok_k Zam))
  (Za (Zf0 PassesOwn.never (Zp hu ql (Zb (Z1 ZA Z.len_ ZB (Ze ql Zi)))) (Za (qa (Zj hu ql ql))
  (Za (qa (qb ql Zg))
  (Za (Zaf PassesOwn.never rfl (Za0 _ _) (hw_1 (Zax rfl)) (Zb6 Z.range_ ql) qt
  (Za (Zcg rfl (Zb (Zz g16 hr (Ze ql (Ze (Zb (Zj hu ql Zg)) (Ze ql Zi))))) (qg (qg Zcz)))
  (Za (Zcg rfl (Zb (Zz g16 hr (Ze ql (Ze (Zb (Zj hu ql Zg)) (Ze ql Zi))))) (qg (qg Zcz)))
  (Za (qa (ZS (Zf (Zif (Zb (Zf4 ql)) (Zie (ZgB (Zb (Zj hu ql Zg))))) (Zf (Zif (Zb (Zf4 ql)) (Zie (ZgB (Zb (Zj hu ql Zg))))) Zk))))
  (Za (Zu (PW.pt (ZaK (Zp hu (Zb (Zj hu ql Zg)) (Zb (Zj hu ql Zg))) (ZaZ (PW.pt (ZkB (ZaT (ZaJ (Zb (Zj hu ql Zg)))) (ZkA (Zp hu ql ql))))))) (Za (Zo (qb (Zb (Zj hu ql ql)) Zg))
  Zd) Zd)
  (Za (Zu (Zp hu (Zb (Zt (Zf (ok_v qv) (Zf (ok_v qv) Zk)))) ql) (Za (Zb9 hu qv (Zb (Zt (Zf (ok_v qv) (Zf (ok_v qv) Zk)))) (qb (Zb (Zj hu ql ql)) Zg))
  (Za (ZW (ZE qv (Zf (Zt (Zf (ok_v qv) (Zf (ok_v qv) Zk))) Zk)))
  Zd)) Zd)
  Zd))))))
  Zd))))
  (Za (Zo (ok_k ZH))
  Zd))))))
noncomputable def Zau : List T.S := [.iff (.isN true (.v 3)) [.ret (.isN true (.v 0))] [], .iff (.or (.nt (.bf (.isi .list) [.v 0])) (.cmp .NotEq (.bf .len [.v 0]) (.v 3))) [.ret (.k (.bl false))] [], .for_ (.name 4) .val [.v 0] [.iff (.or (.nt (.bf (.isi .int) [.v 4])) (.or (.bf (.isi .bool) [.v 4]) (.cmp .Lt (.v 4) (.k (.int 0))))) [.ret (.k (.bl false))] [], .iff (.cmp .GtE (.v 4) (.bf .max [.bf .len [.ix (.v 1) (.k (.int 0))], .bf .len [.ix (.v 2) (.k (.int 0))]])) [.ret (.k (.bl false))] []], .ret (.cmp .NotEq (.call ZaM [.v 1, .v 0]) (.call ZaM [.v 2, .v 0]))]
noncomputable def ZY : T.FI := ⟨true, T.Zs C0 4 5 Zau⟩
abbrev ZcS (e : T.En) : Prop := e.fn "_law_right" 3 ["_law_found", "_law_one", "_law_other", "_law_least_here"] ZY
theorem ZeN (F : T.TI e.K "_law_right" (top 33)) (Z : Txt e C) (g17 : Zd2 e) : ZcS e :=
 T.Zak (C := C0) (body := Zau) (k := 2) Z.Y F ["_law_found", "_law_one", "_law_other", "_law_least_here", "_law_symbol"] fun _ _ _ _ _ _ _ hr =>
 have hu := hr.units
 (Za (Zu (ZbA ql) (Za (Zo (Zf4 ql))
  Zd) Zd)
  (Za (Zu (PW.pt (ZaK (ZaT (ZaJ (Zb (qi Z.isinstance_ ql Z.list_ ZlZ)))) (ZaZ (Zp hu (Zb (Z1 ZA Z.len_ ZB (Ze ql Zi))) ql)))) (Za (Zo (ok_k Zcr))
  Zd) Zd)
  (Za (Zaf PassesOwn.never rfl (Za0 _ _) (hw_1 (Zax rfl)) (Zao ql) qt
  (Za (Zu (PW.pt (ZaK (ZaT (ZaJ (Zb (qi Z.isinstance_ ql Z.int_ ZnP)))) (ZaK (ZaJ (Zb (qi Z.isinstance_ ql Z.bool_ ZlY))) (ZaZ (Zp hu ql Zg))))) (Za (Zo (ok_k Zcr))
  Zd) Zd)
  (Za (Zu (Zp hu ql (Zb (Z1 (Zfy rfl) Z.max_ Zf5 (Ze (Zb (Z1 ZA Z.len_ ZB (Ze (Zb (Zj hu ql Zg)) Zi))) (Ze (Zb (Z1 ZA Z.len_ ZB (Ze (Zb (Zj hu ql Zg)) Zi))) Zi))))) (Za (Zo (ok_k Zcr))
  Zd) Zd)
  Zd)))
  (Za (Zo (Zdp hu (Zb (Zz g17 hr (Ze ql (Ze ql Zi)))) (Zb (Zz g17 hr (Ze ql (Ze ql Zi))))))
  Zd))))
noncomputable def Zah (C : Addr) : List T.S := [.asg 1 (.call ZF [.call ZM [.v 0, .k (.int 0)], .k (.int 4)]), .asg 2 (.ix (.kl [(.int 5), (.int 7), (.int 11), (.int 13), (.int 17), (.int 47)]) (.bin .Mod (.ix (.v 1) (.k (.int 0))) (.k (.int 6)))), .asg 3 (.call Za6 [.v 0, .k (.int 1), .v 2]), .asg 4 (.call Za6 [.v 0, .k (.int 6), .ix (.lst [.k (.int 5), .k (.int 7), .k (.int 11), .k (.int 43), .k (.int 17), .v 2]) (.bin .Mod (.ix (.v 1) (.k (.int 1))) (.k (.int 6)))]), .iff (.cmp .Eq (.bin .Mod (.ix (.v 1) (.k (.int 2))) (.k (.int 2))) (.k (.int 1))) [.asg 4 (.comp 1 [] (.name 0) .val [.v 3] [] (.bf .list [.v 0])), .asg 5 (.bor (.bin .Mod (.ix (.v 1) (.k (.int 3))) (.bf .len [.v 4]))), .asg 6 (.bin .Mod (.bin .FloorDiv (.ix (.v 1) (.k (.int 3))) (.k (.int 4))) (.v 2)), .iff (.cmp .Gt (.bin .Mod (.bin .FloorDiv (.ix (.v 1) (.k (.int 2))) (.k (.int 2))) (.k (.int 4))) (.k (.int 0))) [.asg 7 (.ix (.kl [(.str "sign"), (.str "nothing"), (.str "lock"), (.str "shift")]) (.bin .Mod (.bin .FloorDiv (.ix (.v 1) (.k (.int 3))) (.k (.int 100))) (.k (.int 4)))), .sub 4 [.v 5] (.v 6) (.tup [.v 7, .ix (.lst [.bor (.bin .Mod (.bin .FloorDiv (.ix (.v 1) (.k (.int 3))) (.k (.int 400))) (.bf .len [.v 4])), .k (.str "a")]) (.bf .int [.cmp .Eq (.v 7) (.k (.str "sign"))])])] []] [], .asg 8 (.comp 1 [] (.name 0) .val [.lst [.v 3, .v 4]] [] (.new C (ZJ C) [.call Z5 [.bf .len [.ix (.v 0) (.k (.int 0))], .v 0]])), .asg 9 (.call Zbe [.v 3, .v 4]), .asg 10 (.call (Zbm C) [.ix (.v 8) (.k (.int 0)), .ix (.v 8) (.k (.int 1))]), .iff (.nt (.call ZY [.v 10, .v 3, .v 4, .v 9])) [.ret (.k (.bl false))] [], .iff (.isN false (.v 9)) [.ex (.mut .append 10 [] [.k (.int 0)])] [], .iff (.cmp .Lt (.bin .Mult (.bin .Mult (.bf .len [.ix (.v 3) (.k (.int 0))]) (.bf .len [.v 3])) (.bf .len [.v 4])) (.k (.int 300))) [.iff (.nt (.call ZY [.call (Zbm C) [.ix (.v 8) (.k (.int 1)), .ix (.v 8) (.k (.int 0))], .v 3, .v 4, .v 9])) [.ret (.k (.bl false))] [], .iff (.nt (.call ZY [.call (Zbm C) [.ix (.v 8) (.k (.int 0)), .ix (.v 8) (.k (.int 1))], .v 3, .v 4, .v 9])) [.ret (.k (.bl false))] []] [], .ret (.cmp .Eq (.comp 1 [] (.name 0) .val [.v 8] [] (.meth C "shown" (ZR C) (.v 0) [])) (.comp 1 [] (.name 0) .val [.lst [.v 3, .v 4]] [] (.call Z5 [.bf .len [.ix (.v 0) (.k (.int 0))], .v 0])))]
noncomputable def ZeW (C : Addr) : T.FI := ⟨true, T.Zs (CK C) 1 11 (Zah C)⟩
theorem Znh {f : Addr} {fd : FuncData} (F : Fun e.K "law" "law" (top 34) f fd) (Z : Txt e C) (g13 : Zbx e) (g12 : ZbZ e) (g14 : ZcQ e) (g5 : ZbK e C) (g15 : Zd1 e) (g18 : ZcR e) (g11 : ZgJ e C) (g19 : ZcS e) (g7 : ZcA e C) : FnOk e.P e.w e.K e.mg e.base CX0 5 f fd ["_law_script"] (T.spF e.K (ZeW C).run) :=
 T.Znf (C := (CK C)) (body := (Zah C)) (k := 4) F ["_law_script", "_law_xs", "_law_prime", "_law_one", "_law_other", "_law_case", "_law_symbol", "_law_sort", "_law_tables", "_law_least_here", "_law_found"] fun _ _ _ _ _ _ _ hr =>
 have hu := hr.units
 (Za (qa (Zz g13 hr (Ze (Zb (Zz g12 hr (Ze ql (Ze Zg Zi)))) (Ze Zg Zi))))
  (Za (qa (Zj hu (Zb (Zhh (vs := [(.int 5), (.int 7), (.int 11), (.int 13), (.int 17), (.int 47)]) (by kernel_rfl))) (Zb (qb (Zb (Zj hu ql Zg)) Zg))))
  (Za (qa (Zz g14 hr (Ze ql (Ze Zg (Ze ql Zi)))))
  (Za (qa (Zz g14 hr (Ze ql (Ze Zg (Ze (Zb (Zj hu (Zb (ZS (Zf (ok_k Zam) (Zf (ok_k Zam) (Zf (ok_k Zam) (Zf (ok_k Zam) (Zf (ok_k Zam) (Zf (ok_v qv) Zk)))))))) (Zb (qb (Zb (Zj hu ql Zg)) Zg)))) Zi)))))
  (Za (Zu (Zp hu (Zb (qb (Zb (Zj hu ql Zg)) Zg)) Zg) (Za (qs (cS ["_law_row"]) (Zao ql) (fun _ _ _ _ _ => ⟨qt, Zch, (ZdN ZkC Z.list_ ZkN (Ze ql Zi))⟩))
  (Za (qa (Zir (qb (Zb (Zj hu ql Zg)) (Zb (Z1 ZA Z.len_ ZB (Ze ql Zi))))))
  (Za (qa (qb (Zb (qb (Zb (Zj hu ql Zg)) Zg)) ql))
  (Za (Zu (Zp hu (Zb (qb (Zb (qb (Zb (Zj hu ql Zg)) Zg)) Zg)) Zg) (Za (qa (Zj hu (Zb (Zhh (vs := [(.str "sign"), (.str "nothing"), (.str "lock"), (.str "shift")]) (by kernel_rfl))) (Zb (qb (Zb (qb (Zb (Zj hu ql Zg)) Zg)) Zg))))
  (Za (Zld qv qv qv (Zt (Zf (ok_v qv) (Zf (Zj hu (Zb (ZS (Zf (Zir (qb (Zb (qb (Zb (Zj hu ql Zg)) Zg)) (Zb (Z1 ZA Z.len_ ZB (Ze ql Zi))))) (Zf (ok_k Zr) Zk)))) (Zb (ZdN Zmj Z.int_ Zmr (Ze (Zb (Zdp hu ql (Zb (ok_k Zr)))) Zi)))) Zk))))
  Zd)) Zd)
  Zd)))) Zd)
  (Za (qs (cS ["_law_some"]) (Zao (Zb (ZS (Zf (ok_v qv) (Zf (ok_v qv) Zk))))) (fun _ _ _ _ _ => ⟨qt, Zch, (Zmt g5 hr (Ze (Zb (Zz g15 hr (Ze (Zb (Z1 ZA Z.len_ ZB (Ze (Zb (Zj hu ql Zg)) Zi))) (Ze ql Zi)))) Zi))⟩))
  (Za (qa (Zz g18 hr (Ze ql (Ze ql Zi))))
  (Za (qa (Zz g11 hr (Ze (Zb (Zj hu ql Zg)) (Ze (Zb (Zj hu ql Zg)) Zi))))
  (Za (Zu (ZaT (ZaJ (Zb (Zz g19 hr (Ze ql (Ze ql (Ze ql (Ze ql Zi)))))))) (Za (Zo (ok_k Zcr))
  Zd) Zd)
  (Za (Zu (ZbJ ql) (Za (ZW (ZE qv (Zf (ok_k Zam) Zk)))
  Zd) Zd)
  (Za (Zu (Zp hu (Zb (qb (Zb (qb (Zb (Z1 ZA Z.len_ ZB (Ze (Zb (Zj hu ql Zg)) Zi))) (Zb (Z1 ZA Z.len_ ZB (Ze ql Zi))))) (Zb (Z1 ZA Z.len_ ZB (Ze ql Zi))))) Zg) (Za (Zu (ZaT (ZaJ (Zb (Zz g19 hr (Ze (Zb (Zz g11 hr (Ze (Zb (Zj hu ql Zg)) (Ze (Zb (Zj hu ql Zg)) Zi)))) (Ze ql (Ze ql (Ze ql Zi)))))))) (Za (Zo (ok_k Zcr))
  Zd) Zd)
  (Za (Zu (ZaT (ZaJ (Zb (Zz g19 hr (Ze (Zb (Zz g11 hr (Ze (Zb (Zj hu ql Zg)) (Ze (Zb (Zj hu ql Zg)) Zi)))) (Ze ql (Ze ql (Ze ql Zi)))))))) (Za (Zo (ok_k Zcr))
  Zd) Zd)
  Zd)) Zd)
  (Za (Zo (Zdp hu (Zb (Zdk rfl (cS ["_law_table"]) (Zao ql) (fun _ _ _ _ _ => ⟨qt, Zch, (Zc1 g7 hr ql)⟩))) (Zb (Zdk rfl (cS ["_law_some"]) (Zao (Zb (ZS (Zf (ok_v qv) (Zf (ok_v qv) Zk))))) (fun _ _ _ _ _ => ⟨qt, Zch, (Zz g15 hr (Ze (Zb (Z1 ZA Z.len_ ZB (Ze (Zb (Zj hu ql Zg)) Zi))) (Ze ql Zi)))⟩)))))
  Zd))))))))))))
theorem Zni {l : PySem.W.OpenLaw} {w : World} {K : Fg} {h : Heap} {mg : Str -> Option Value} {fa C : Addr} (X : K.In h) (G : h.Ns mainGlobals mg) (hfa : mg "law" = some (.ref fa))
 (cC : T.CI K "Table" C)
 (nF0 : PySem.W.findIn K (.ref C) "size" = some none)
 (nF1 : PySem.W.findIn K (.ref C) "meanings" = some none)
 (nF2 : PySem.W.findIn K (.ref C) "text" = some none)
 (d0 : T.TI K "prime_told" (top 15))
 (d1 : T.TI K "meanings_of_words" (top 16))
 (d2 : T.TI K "rows_of" (top 17))
 (d3 : T.TI K "check_row_count" (top 18))
 (d4 : T.TI K "meanings_of_rows" (top 19))
 (d5 : T.MI K C "__init__" "Table.__init__" (ZaA (top 20) 0))
 (d6 : T.MI K C "prime" "Table.prime" (ZaA (top 20) 1))
 (d7 : T.MI K C "shown" "Table.shown" (ZaA (top 20) 4))
 (d8 : T.MI K C "behind" "Table.behind" (ZaA (top 20) 5))
 (d9 : T.TI K "step_of" (top 22))
 (d10 : T.TI K "given" (top 23))
 (d11 : T.TI K "apart" (top 24))
 (d12 : T.TI K "_law_here" (top 26))
 (d13 : T.TI K "_law_shaken" (top 27))
 (d14 : T.TI K "_law_cases" (top 28))
 (d15 : T.TI K "_law_text" (top 29))
 (d16 : T.TI K "_law_moved" (top 30))
 (d17 : T.TI K "_law_read" (top 31))
 (d18 : T.TI K "_law_least" (top 32))
 (d19 : T.TI K "_law_right" (top 33))
 (d20 : T.TI K "law" (top 34))
 (z0 : T.NI K "all")
 (z1 : T.NI K "bool")
 (z2 : T.NI K "int")
 (z3 : T.NI K "isinstance")
 (z4 : T.NI K "len")
 (z5 : T.NI K "list")
 (z6 : T.NI K "max")
 (z7 : T.NI K "range")
 (z8 : T.NI K "str")
 (z9 : T.NI K "sum")
 {tc0 : Tok} (zc0 : PySem.W.nsIn K mainGlobals "MOST_ROWS" = some (some (.int 5 tc0)))
 {ts0 : Tok} (zs0 : PySem.W.nsIn K mainGlobals "SIGNS" = some (some (.str "abcdefghijklmnopqrstuvwxyz0123456789" ts0)))
 {at0 : Addr} {dt0 : Option Addr} {it0 : Array Value} {nt0 : Nat} {st0 : Array (Option Value)} (zt0 : PySem.W.nsIn K mainGlobals "BEGINNING" = some (some (.ref at0))) (zl0 : K.lookup at0 = some ⟨.type "tuple", dt0, .seq it0 nt0, st0⟩) (zz0 : it0.size <= 1000) (zi0 : it0.toList.map T.unV = ([.int 0, .non] : List V).map some)
 {at1 : Addr} {dt1 : Option Addr} {it1 : Array Value} {nt1 : Nat} {st1 : Array (Option Value)} (zt1 : PySem.W.nsIn K mainGlobals "PRIMES" = some (some (.ref at1))) (zl1 : K.lookup at1 = some ⟨.type "tuple", dt1, .seq it1 nt1, st1⟩) (zz1 : it1.size <= 1000) (zi1 : it1.toList.map T.unV = (([5, 7, 11, 13, 17, 19, 23, 29, 31, 37, 41, 43, 47] : List Int).map V.int).map some)
 : ∃ fd : FuncData, (∀ (s : Shared) (v : Value), BindsTo s fd ⟨[v], []⟩ [("_law_script", v)]) /\ ∀ base : Heap, K.In base -> base.Ns mainGlobals mg -> FnOk l.prog w K mg base CX0 5 fa fd ["_law_script"] (T.spF K (ZeW (ZdU K)).run) := by
 have hC : ZdU K = C := by unfold ZdU; rw [cC.at_]
 rw [hC]
 obtain ⟨f, fd, x, F⟩ := d20
 cases hfa.symm.trans (PySem.W.mg_of X G x)
 refine ⟨fd, fun s v => ?_, fun base _ _ => ?_⟩
 . obtain ⟨oc, od, kV, doc, pm, an, cdv, ct, osl, rfl, lk, hcd⟩ := F.ex
   exact .of_eq rfl
 have m : ∀ {x : Str}, T.NI K x -> mg x = none := PySem.W.mg_none_of X G
 have Z : Txt ⟨l.prog, w, K, mg, base⟩ C := ⟨⟨h, X, G⟩, m z0, m z1, m z2, m z3, m z4, m z5, m z6, m z7, m z8, m z9, ⟨tc0, PySem.W.mg_of X G zc0⟩, ⟨ts0, PySem.W.mg_of X G zs0⟩, T.ZfH X G zt0 zl0 (by rw [T.szl]; omega) zi0, T.ZfH X G zt1 zl1 (by rw [T.szl]; omega) zi1, cC, nF0, nF1, nF2⟩
 have g0 := ZeJ d0 Z
 have g1 := Zc2 d1 Z
 have g2 := Zhn d2 Z
 have g3 := ZcO d3 Z
 have g4 := ZcC d4 Z g1
 have g5 := Zdw d5 Z g2 g0 g3 g4
 have g6 := Zej d6 Z
 have g7 := Zek d7 Z
 have g8 := ZdW d8 Z
 have g9 := Zho d9 Z g6 g8
 have g10 := Zjr d10 Z
 have g11 := Zjs d11 Z g6 g9 g10
 have g12 := ZfK d12 Z
 have g13 := Zel d13 Z
 have g14 := ZeK d14 Z g12 g13
 have g15 := ZfL d15 Z
 have g16 := ZeL d16 Z
 have g17 := ZfM d17 Z g16
 have g18 := ZeM d18 Z g16
 have g19 := ZeN d19 Z g17
 exact Znh F Z g13 g12 g14 g5 g15 g18 g11 g19 g7
end
theorem runB {f : FI} {C : T.Ctx} {n N : Nat} {b : List T.S} {ds : List D} {R : Rs (D × List D)} (e : f.run = Zs C n N b) (hl : ds.length = n) (h : Zce n (exs { C with lock := fun i => decide (i < n) } b (ds ++ List.replicate (N - n) .hole)) = R) : f.run ds = R := by rw [e, runA hl]; exact h
variable (lk : Nat -> Bool) (fok : Addr -> Str -> Bool) (fuel : Nat)
local macro_rules | `(tactic| walk_at "r") => `(tactic| (refine runB rfl rfl ?_; show Zce _ (exs _ (_ :: _) _) = _; simp only [List.replicate, Nat.reduceSub]))
local macro_rules | `(tactic| walk_at "ev") => `(tactic| simp only [Zne, bndA, ZkQ, retA, ZoB, ZkR, ZoC, ZoD, Zmv, Zmw, ZoE, Zmx, ZoF, ZoG, ZkS, ZkT, valA, Zmy, ZoH, ZoI, movA, Zmz, Zm0, ZoJ, ZoK, Zm1, ZoL, ZoM, Zm2, Zm3, ZoN, ZoO, Zm4, Zm5, ZoP, Zm6, Zm7, Zm8, Zm9, ZoQ, ZmA, exs1, exs0, Zdn, ZkW, ZkU, ZkV, e_k, o_k, e_g, ZoR, ZoS, ZoT, ZoU, ZoV, ZoW, ZoX, ZoY, t_nt, ZoZ, e_or, t_or, Zpa, Zpb, e_ix, t_ix, o_ix, e_sl, o_sl, Zpc, Zpd, Zpe, Zpf, Zpg, Zph, o_kl, ZmB, ZmC, ZmD, e_bf, t_bf, o_bf, e_bm, ZmE, ZmF, Zpi, ZkZ, ZmG, e_dP, Zpk, Zpl, ZmH, Zio, e_v, t_v, Zjk, Zpm, Zpn, evs0, evs1, Zpo, Zpp, Zpq, Zpr, ZmI, x_ex, Zps, Zpt, ZmJ, Zjl, Zpu, r_k, Zpv, Zpw, Zpx, r_ix, Zpy, Zpz, r_bf, r_bm, ZmK, Zp0, Zp1, Zp2, Zp3, Zp4, ZmL, ZmM, ZmN, c_in, Zpj, ix_d, Zp5, or_f, or_t, Zp6, Zp7, ZmO, ZmP, ZmQ, ZmR, ZmS, intp, sl_l, sl_f, ZeU, Zp8, Zp9, ZmT, asgn, ZmU, ZmV, ZmW, ZmX, ZpA, ZpB, ZmY, ZmZ, Zna, Znb, it_l, modA, ZpC, chkA, ZpD, ix_l, ix_t, shrL, shr, walked, C0, scr, List.getElem?_cons_zero, List.getElem?_cons_succ, List.set_cons_zero, List.set_cons_succ, List.length_cons, List.length_nil, Option.map_some, Option.bind_some, Option.toList_none, Option.toList_some, List.nil_append, List.append_nil, List.cons_append, List.map_cons, List.map_nil, if_true, if_false, Bool.false_eq_true, Bool.and_true, Bool.true_and, Bool.or_true, Bool.true_or, Bool.or_false, Bool.false_or, Bool.not_false, Bool.not_true, decide_true, decide_false, Nat.reduceLT, Nat.reduceAdd, Nat.reduceLeDiff, beq_self_eq_true, Nat.reduceBEq, Bool.and_false, Bool.false_and, reduceCtorEq, ite_true, ite_false])
local macro_rules | `(tactic| simp_all [$xs,*]) => `(tactic| repeat (first | walk_at "ev" | simp only [$xs,*]))
theorem Zem {a b : Str} (h : a.cps.toList = b.cps.toList) : a = b := by
 obtain ⟨⟨x⟩⟩ := a
 obtain ⟨⟨y⟩⟩ := b
 exact congrArg (fun l => (⟨⟨l⟩⟩ : Str)) h
theorem Zbf (a b : Str) : (a ++ b).cps.toList = a.cps.toList ++ b.cps.toList := by
 show (a.cps ++ b.cps).toList = _
 rw [Array.toList_append]
theorem ZfN {c : Nat} : ∀ {p q a b : List Nat}, c ∉ p -> c ∉ q -> p ++ c :: a = q ++ c :: b -> p = q /\ a = b
 | [], [], a, b, _, _, h => ⟨rfl, (List.cons.inj h).2⟩
 | [], y :: q, a, b, _, hq, h => absurd (List.cons.inj h).1 (fun e => hq (e ▸ List.mem_cons_self))
 | x :: p, [], a, b, hp, _, h => absurd (List.cons.inj h).1 (fun e => hp (e ▸ List.mem_cons_self))
 | x :: p, y :: q, a, b, hp, hq, h => by
  have h1 := List.cons.inj h
  obtain ⟨e1, e2⟩ := ZfN (fun m => hp (List.mem_cons_of_mem _ m)) (fun m => hq (List.mem_cons_of_mem _ m)) h1.2
  exact ⟨by rw [h1.1, e1], e2⟩
theorem Zbn (c : Nat) (p q : Str) (r : List Str) : (Str.join ⟨#[c]⟩ (p :: q :: r)).cps.toList = p.cps.toList ++ c :: (Str.join ⟨#[c]⟩ (q :: r)).cps.toList := by
 show (p ++ ⟨#[c]⟩ ++ Str.join ⟨#[c]⟩ (q :: r)).cps.toList = _
 rw [Zbf, Zbf, List.append_assoc]
 rfl
theorem ZfO (c : Nat) : ∀ (ps qs : List Str), ps ≠ [] -> qs ≠ [] -> (∀ p ∈ ps, c ∉ p.cps.toList) -> (∀ q ∈ qs, c ∉ q.cps.toList) -> Str.join ⟨#[c]⟩ ps = Str.join ⟨#[c]⟩ qs -> ps = qs
 | [], _, h, _, _, _, _ => absurd rfl h
 | _, [], _, h, _, _, _ => absurd rfl h
 | [p], [q], _, _, _, _, h => by
  have h' : p = q := h
  rw [h']
 | [p], q :: q' :: r, _, _, hp, _, h => by
  have e := congrArg (fun x : Str => x.cps.toList) h
  simp only [Zbn] at e
  have e' : p.cps.toList = q.cps.toList ++ c :: (Str.join ⟨#[c]⟩ (q' :: r)).cps.toList := e
  exact absurd (by rw [e']; simp) (hp p (by simp))
 | p :: p' :: r, [q], _, _, _, hq, h => by
  have e := congrArg (fun x : Str => x.cps.toList) h
  simp only [Zbn] at e
  have e' : p.cps.toList ++ c :: (Str.join ⟨#[c]⟩ (p' :: r)).cps.toList = q.cps.toList := e
  exact absurd (by rw [<- e']; simp) (hq q (by simp))
 | p :: p' :: r, q :: q' :: t, _, _, hp, hq, h => by
  have e := congrArg (fun x : Str => x.cps.toList) h
  simp only [Zbn] at e
  obtain ⟨e1, e2⟩ := ZfN (hp p (by simp)) (hq q (by simp)) e
  have ih := ZfO c (p' :: r) (q' :: t) (by simp) (by simp) (fun x hx => hp x (List.mem_cons_of_mem _ hx)) (fun x hx => hq x (List.mem_cons_of_mem _ hx)) (Zem e2)
  rw [Zem e1, ih]
theorem Zjt (x : Str) (c : Nat) : Txt.split x ⟨#[c]⟩ ≠ [] := by
 unfold Txt.split
 split
 . simp
 . split
   . simp
   . rw [StrLaws.partsBetween_eq]
     obtain ⟨p, r, e⟩ := StrLaws.partsFrom_ne x (⟨#[c]⟩ : Str).length 0 (Builtin.Str.occurrences x ⟨#[c]⟩ 0 x.length (x.length + 1))
     rw [e]
     simp
theorem Zhp (c : Nat) (ps : List Str) (h : ps ≠ []) (hf : ∀ p ∈ ps, c ∉ p.cps.toList) : Txt.split (Str.join ⟨#[c]⟩ ps) ⟨#[c]⟩ = ps :=
 ZfO c _ ps (Zjt _ c) h (StrLaws.split_free _ c) hf (StrLaws.join_split _ _)
theorem Zd3 (c : Nat) (ps : List Str) (h : ps ≠ []) (hf : ∀ p ∈ ps, c ∉ p.cps.toList) : Txt.split (Txt.join ⟨#[c]⟩ ps) ⟨#[c]⟩ = ps := by
 show Txt.split (Builtin.Str.glued ⟨#[c]⟩ ps) ⟨#[c]⟩ = ps
 rw [StrLaws.glued_eq_join]
 exact Zhp c ps h hf
theorem Zb4 (c : Nat) : ∀ (ps : List Str) (x : Nat), x ∈ (Str.join ⟨#[c]⟩ ps).cps.toList -> x = c \/ ∃ p ∈ ps, x ∈ p.cps.toList
 | [], x, h => by simp [Str.join, Str.empty] at h
 | [p], x, h => .inr ⟨p, by simp, h⟩
 | p :: q :: r, x, h => by
  rw [Zbn] at h
  (rcases List.mem_append.mp h with h | h)
  . exact .inr ⟨p, by simp, h⟩
  . rcases List.mem_cons.mp h with h | h
    . exact .inl h
    . rcases Zb4 c (q :: r) x h with h | ⟨y, hy, h⟩
      . exact .inl h
      . exact .inr ⟨y, List.mem_cons_of_mem _ hy, h⟩
theorem ZfP (c B : Nat) : ∀ ps : List Str, (∀ p ∈ ps, p.length <= B) -> (Txt.join ⟨#[c]⟩ ps).length <= ps.length * (B + 1) := by
 intro ps h
 show (Builtin.Str.glued ⟨#[c]⟩ ps).length <= _
 rw [StrLaws.glued_eq_join]
 refine Nat.le_trans (StrLaws.join_length_le _ ps) ?_
 have h1 := StrLaws.sumLen_le (B := B) ps h
 (have h2 : (⟨#[c]⟩ : Str).length = 1 := rfl)
 rw [h2, Nat.mul_add]
 omega
theorem Zis (c B : Nat) (ps : List Str) (h : ∀ p ∈ ps, p.length <= B) (hs : ps.length * (B + 1) <= 16777216) : JoinOk ⟨#[c]⟩ ps = true := by
 unfold JoinOk
 rw [StrLaws.joinFits h (by
  (have h2 : (⟨#[c]⟩ : Str).length = 1 := rfl)
  rw [h2, <- Nat.mul_add]
  exact hs)]
 rfl
noncomputable def bdy : T.S -> List T.S
 | .for_ _ _ _ b => b
 | .forX _ _ _ b => b
 | _ => []
theorem gd0 (s d : T.S) (l : List T.S) : (s :: l).getD 0 d = s := rfl
theorem gd1 (s d : T.S) (l : List T.S) (n : Nat) : (s :: l).getD (n + 1) d = l.getD n d := rfl
noncomputable abbrev I (i : Int) : D := .sc (.int i)
noncomputable abbrev S' (z : Str) : D := .sc (.str z)
noncomputable def sgn : List Nat := [97, 98, 99, 100, 101, 102, 103, 104, 105, 106, 107, 108, 109, 110, 111, 112, 113, 114, 115, 116, 117, 118, 119, 120, 121, 122, 48, 49, 50, 51, 52, 53, 54, 55, 56, 57]
noncomputable def lkw (k : Nat) : Str := ⟨#[108, 111, 99, 107, 48 + k]⟩
noncomputable def shw (k : Nat) : Str := ⟨#[115, 104, 105, 102, 116, 48 + k]⟩
noncomputable def wds (n : Nat) : List Str := ⟨#[45]⟩ :: ((sgn.map fun c => (⟨#[c]⟩ : Str)) ++ (List.range n).flatMap fun k => [lkw k, shw k])
noncomputable def ZaE (w : Str) : List D :=
 if w.cps.toList = [45] then [S' "nothing", .sc .non]
 else if w.cps.toList.take 4 = [108, 111, 99, 107] then [S' "lock", I ((w.cps.toList.getD 4 0 : Int) - 48)]
 else if w.cps.toList.take 5 = [115, 104, 105, 102, 116] then [S' "shift", I ((w.cps.toList.getD 5 0 : Int) - 48)]
 else [S' "sign", S' w]
noncomputable abbrev mean (o : Bool) (w : Str) : D := .node .tup o (ZaE w)
noncomputable def primes : List Nat := [5, 7, 11, 13, 17, 19, 23, 29, 31, 37, 41, 43, 47]
noncomputable def first (p : Nat) : Str := Str.ofString "symbols " ++ Str.ofString (toString (p : Int))
theorem Zgn : ∀ p ∈ primes, (10 ∉ (first p).cps.toList) /\ (first p).length <= 10 := by walk_at "d"
theorem ZZ : ∀ p ∈ primes, 5 <= p /\ p <= 47 := by decide
theorem Zd8 : ∀ n ∈ [1, 2, 3, 4], ∀ w ∈ wds n, 32 ∉ w.cps.toList /\ 10 ∉ w.cps.toList /\ w.length <= 6 := by walk_at "d"
set_option maxRecDepth 100000 in
theorem Zju : ∀ p ∈ primes, Zbc.run [S' (first p)] = .ok (I p, [S' (first p)]) := by
 unfold primes
 simp only [List.forall_mem_cons, List.not_mem_nil, false_implies, implies_true, and_true]
 refine ⟨?_, ?_, ?_, ?_, ?_, ?_, ?_, ?_, ?_, ?_, ?_, ?_, ?_⟩ <;> kernel_rfl
set_option maxRecDepth 100000 in
theorem Znj : ∀ n ∈ [1, 2, 3, 4], Zab.run [I (n : Nat)] = .ok (.node (.dic ((wds n).map .inr)) true ((wds n).map (mean true)), [I n]) := by
 simp only [List.forall_mem_cons, List.not_mem_nil, false_implies, implies_true, and_true]
 refine ⟨?_, ?_, ?_, ?_⟩ <;> kernel_rfl
theorem Zit (w : Str) (f : Str -> D) : ∀ ws : List Str, w ∈ ws -> Z3 (.inr w) (ws.map (Sum.inr : Str -> Key)) (ws.map f) = some (f w)
 | [], h => by simp at h
 | a :: ws, h => by
  simp only [List.map_cons, Z3]
  by_cases e : a = w
  . rw [if_pos (by rw [e]), e]
  . rw [if_neg (fun q => e (Sum.inr.inj q))]
    exact Zit w f ws (by rcases List.mem_cons.mp h with q | q; exact absurd q.symm e; exact q)
noncomputable abbrev dT (ws : List Str) : List D := ws.map fun w => S' w
noncomputable abbrev TL (o : Bool) (ws : List Str) : D := .node .lst o (dT ws)
theorem Zbu (ws : List Str) : shrL (dT ws) = dT ws := by
 induction ws with
 | nil => rfl
 | cons w ws ih => simp only [List.map_cons, shrL, shr] at ih ⊢; rw [ih]
theorem Zbv (ws : List Str) : (dT ws).length = ws.length := List.length_map _
theorem Zdq : newL [] = some (.node .lst true []) := Zay _ (by simp)
theorem ZbW (a : D) : newL [a] = some (.node .lst true [a]) := Zay _ (by rw [szl]; simp)
theorem Zv (a b : D) : newT [a, b] = some (.node .tup true [a, b]) := by unfold newT; rw [if_pos (by rw [szl]; simp)]
def ZfQ (z : Str) : Prop := z.cps.toList ≠ [] /\ z.length <= 36 /\ ∀ c ∈ z.cps.toList, c ∈ sgn
theorem n14 {n : Nat} (h1 : 1 <= n) (h4 : n <= 4) : n ∈ [1, 2, 3, 4] := by
 match n, h1, h4 with
 | 1, _, _ => simp
 | 2, _, _ => simp
 | 3, _, _ => simp
 | 4, _, _ => simp
theorem ZjS (k : Nat) (h : k < 4) : bfW .str [.sc (.int (k : Int))] = some (S' (Str.ofString (toString (k : Int)))) := by
 match k, h with
 | 0, _ => kernel_rfl
 | 1, _ => kernel_rfl
 | 2, _ => kernel_rfl
 | 3, _ => kernel_rfl
theorem ZjT (k : Nat) (h : k < 4) : binW .Add (.sc (.str "lock")) (.sc (.str (Str.ofString (toString (k : Int))))) = some (S' (Str.ofString "lock" ++ Str.ofString (toString (k : Int)))) /\ binW .Add (.sc (.str "shift")) (.sc (.str (Str.ofString (toString (k : Int))))) = some (S' (Str.ofString "shift" ++ Str.ofString (toString (k : Int)))) := by
 match k, h with
 | 0, _ => exact ⟨by kernel_rfl, by kernel_rfl⟩
 | 1, _ => exact ⟨by kernel_rfl, by kernel_rfl⟩
 | 2, _ => exact ⟨by kernel_rfl, by kernel_rfl⟩
 | 3, _ => exact ⟨by kernel_rfl, by kernel_rfl⟩
noncomputable abbrev Ls (o : Bool) (xs : List Int) : D := .node .lst o (dI xs)
def Zcn (p n : Nat) (rs : List (List Str)) : Prop := ∀ r ∈ rs, r.length = p /\ ∀ w ∈ r, w ∈ wds n
noncomputable def line (r : List Str) : Str := Txt.join ⟨#[32]⟩ r
noncomputable def lines (p : Nat) (rs : List (List Str)) : List Str := first p :: rs.map line
noncomputable def text (p : Nat) (rs : List (List Str)) : Str := Txt.join ⟨#[10]⟩ (lines p rs)
theorem Zle (ws : List Str) : Zbq (dT ws) = some ws := by
 induction ws with
 | nil => rfl
 | cons w ws ih =>
  show (Zbq (dT ws)).map (w :: ·) = _
  rw [ih]
  rfl
theorem Zdr {p n : Nat} {r : List Str} (hn : n ∈ [1, 2, 3, 4]) (hw : ∀ w ∈ r, w ∈ wds n) (hl : r.length = p) (hp : p <= 47) : JoinOk ⟨#[32]⟩ r = true /\ (line r).length <= 400 /\ 10 ∉ (line r).cps.toList := by
 have hb : ∀ w ∈ r, w.length <= 6 := fun w h => (Zd8 n hn w (hw w h)).2.2
 refine ⟨Zis 32 6 r hb (by omega), ?_, fun hc => ?_⟩
 . have := ZfP 32 6 r hb
   unfold line
   omega
 . have hc' : 10 ∈ (Builtin.Str.glued ⟨#[32]⟩ r).cps.toList := hc
   rw [StrLaws.glued_eq_join] at hc'
   rcases Zb4 32 _ 10 hc' with e | ⟨q, hq, hx⟩
   . omega
   . exact (Zd8 n hn q (hw q hq)).2.1 hx
theorem ZgK {p n : Nat} {rs : List (List Str)} (hp : p ∈ primes) (h1 : 1 <= n) (h4 : n <= 4) (hl : rs.length = n) (h : Zcn p n rs) : JoinOk ⟨#[10]⟩ (lines p rs) = true /\ (text p rs).length <= 3000 /\ Txt.split (text p rs) ⟨#[10]⟩ = lines p rs := by
 have hn := n14 h1 h4
 have hpl := ZZ p hp
 have hf := Zgn p hp
 have hb : ∀ w ∈ lines p rs, w.length <= 400 := fun w hw => by
  rcases List.mem_cons.mp hw with rfl | hw
  . omega
  . obtain ⟨r, hr, rfl⟩ := List.mem_map.mp hw
    exact (Zdr hn (h r hr).2 (h r hr).1 hpl.2).2.1
 have hll : (lines p rs).length = n + 1 := by unfold lines; rw [List.length_cons, List.length_map, hl]
 refine ⟨Zis 10 400 _ hb (by rw [hll]; omega), ?_, Zd3 10 _ (by unfold lines; simp) fun w hw => ?_⟩
 . have := ZfP 10 400 _ hb
   rw [hll] at this
   unfold text
   omega
 . rcases List.mem_cons.mp hw with rfl | hw
   . exact hf.1
   . obtain ⟨r, hr, rfl⟩ := List.mem_map.mp hw
     exact (Zdr hn (h r hr).2 (h r hr).1 hpl.2).2.2
theorem Zhq {p n : Nat} {r : List Str} (hn : n ∈ [1, 2, 3, 4]) (hw : ∀ w ∈ r, w ∈ wds n) (hl : r.length = p) (hp : 1 <= p) : Txt.split (line r) ⟨#[32]⟩ = r :=
 Zd3 32 _ (fun e => by subst e; simp at hl; omega) fun w h => (Zd8 n hn w (hw w h)).1
theorem ZpT : ∀ p ∈ primes, bfW .str [.sc (.int (p : Nat))] = some (S' (Str.ofString (toString (p : Int)))) := by
 unfold primes
 simp only [List.forall_mem_cons, List.not_mem_nil, false_implies, implies_true, and_true]
 refine ⟨?_, ?_, ?_, ?_, ?_, ?_, ?_, ?_, ?_, ?_, ?_, ?_, ?_⟩ <;> kernel_rfl
theorem ZpU : ∀ p ∈ primes, binW .Add (.sc (.str "symbols ")) (.sc (.str (Str.ofString (toString ((p : Nat) : Int))))) = some (S' (first p)) := by
 unfold primes
 simp only [List.forall_mem_cons, List.not_mem_nil, false_implies, implies_true, and_true]
 refine ⟨?_, ?_, ?_, ?_, ?_, ?_, ?_, ?_, ?_, ?_, ?_, ?_, ?_⟩ <;> kernel_rfl
theorem ZfR : (Str.ofString " ") = ⟨#[32]⟩ := by kernel_rfl
theorem ZdX : (Str.ofString "\n") = ⟨#[10]⟩ := by kernel_rfl
theorem Ziu (z : Str) (ws : List Str) (h : JoinOk z ws = true) : bmW .join z [.nd .lst (dT ws)] = some (S' (Txt.join z ws)) := by
 show (Zbq (dT ws)).bind _ = _
 rw [Zle]
 exact if_pos h
theorem ZgL (z s : Str) (h : s.cps.size = 1) (hz : z.length + 2 <= sizeLine) : bmW .split z [.sc (.str s)] = some (TL true (Txt.split z s)) := if_pos ⟨h, hz⟩
theorem ZdY (z : Str) : strW (.sc (.str z)) = some z := (rfl)
theorem ixT (ws : List Str) (k : Nat) (h : k < ws.length) : ((ixN' (dT ws).length (k : Int)).bind fun j => (dT ws)[j]?) = some (S' (ws.getD k Str.empty)) := by
 rw [Zbv, ZaU _ _ h]
 show (dT ws)[k]? = _
 rw [List.getElem?_map, List.getD_eq_getElem?_getD, List.getElem?_eq_getElem h]
 rfl
theorem ixR (g : List Str -> D) (rs : List (List Str)) (k : Nat) (h : k < rs.length) : ((ixN' (rs.map g).length (k : Int)).bind fun j => (rs.map g)[j]?) = some (g (rs.getD k [])) := by
 rw [List.length_map, ZaU _ _ h]
 show (rs.map g)[k]? = _
 rw [List.getElem?_map, List.getD_eq_getElem?_getD, List.getElem?_eq_getElem h]
 rfl
theorem ZpV (w : W) : bfW (.isi .str) [w] = (tyW .str w).map fun b => .sc (.bl b) := (rfl)
theorem ZpW (z : Str) : tyW .str (.sc (.str z)) = some true := (rfl)
theorem Zgo (t : Str) (ht : t.length <= 3000) : ZbU.run [S' t] = .ok (TL true (Txt.split t ⟨#[10]⟩), [S' t]) := by
 walk_at "r"
 have hs : bmW .split t [.sc (.str (Str.ofString "\n"))] = some (TL true (Txt.split t ⟨#[10]⟩)) := by
  rw [ZdX]
  exact ZgL _ _ rfl (by rw [szl]; omega)
 (simp_all [ZpV, ZpW, ZdY, hs]) <;> rfl
theorem Zlf (ls : List Str) (h2 : 2 <= ls.length) (h5 : ls.length <= 5) : Zal.run [TL true ls] = .ok (.sc .non, [TL true ls]) := by
 walk_at "r"
 have hl : ((dT ls).length : Int) = (ls.length : Int) := by rw [Zbv]
 have c1 : ¬ (5 : Int) < (ls.length : Int) := by omega
 have c2 : ¬ ((ls.length : Int) = 1) := by omega
 (simp_all [hl, Zbu, c1, c2, V.int.injEq]) <;> rfl
theorem ZpX (ds : List D) : bfW .all [.nd .lst ds] = (ZaB ds).map fun bs => .sc (.bl (bs.all id)) := (rfl)
theorem ZeA : ∀ n : Nat, ZaB (List.replicate n (D.sc (.bl true))) = some (List.replicate n true)
 | 0 => rfl
 | n + 1 => by rw [List.replicate_succ, ZaB, ZeA n]; rfl
theorem Zlg (n : Nat) : bfW .all [.nd .lst (List.replicate n (D.sc (.bl true)))] = some (.sc (.bl true)) := by
 rw [ZpX, ZeA]
 simp
theorem Zjv (n m : Nat) : List.replicate n (D.sc (.bl true)) ++ [D.sc (.bl true)] ++ List.replicate m (D.sc (.bl true)) = List.replicate (n + (m + 1)) (D.sc (.bl true)) := by
 rw [List.append_assoc, <- List.replicate_append_replicate]
 rfl
noncomputable abbrev Dc (b : Bool) (n : Nat) : D := .node (.dic ((wds n).map (Sum.inr : Str -> Key))) true ((wds n).map (mean b))
noncomputable abbrev Mrow (o : Bool) (r : List Str) : D := .node .lst o (r.map (mean false))
noncomputable abbrev MsT (o : Bool) (rs : List (List Str)) : D := .node .lst o (rs.map (Mrow o))
theorem Ziv (w : Str) : shrL (ZaE w) = ZaE w := by
 unfold ZaE
 split
 . rfl
 split
 . rfl
 split <;> rfl
theorem Zjw (b : Bool) (w : Str) : shr (mean b w) = mean false w := by
 show D.node .tup false (shrL (ZaE w)) = _
 rw [Ziv]
theorem ZcT (b : Bool) (ws : List Str) : shrL (ws.map (mean b)) = ws.map (mean false) := by
 induction ws with
 | nil => rfl
 | cons w ws ih => rw [List.map_cons, shrL, ih, Zjw, List.map_cons]
theorem Zco (o : Bool) (rs : List (List Str)) : shrL (rs.map (Mrow o)) = rs.map (Mrow false) := by
 induction rs with
 | nil => rfl
 | cons r rs ih =>
  rw [List.map_cons, shrL, ih, List.map_cons]
  congr 1
  show D.node .lst false (shrL (r.map (mean false))) = _
  rw [ZcT]
theorem Ziw (n : Nat) (w : Str) (hw : w ∈ wds n) : Z3 (.inr w) ((wds n).map (Sum.inr : Str -> Key)) ((wds n).map (mean false)) = some (mean false w) := Zit w (mean false) _ hw
theorem Zlh (h0 : lk 0 = false) (n : Nat) : ∀ (ws : List Str) (m : Nat) (a : D) (b : Bool), (∀ w ∈ ws, w ∈ wds n) -> ∃ a' b',
 Zae (asgT lk (.name 0)) (tsts ⟨lk, fok, fuel⟩ []) (evb ⟨lk, fok, fuel⟩ (.cmp .In (.v 0) (.v 1))).1 (dT ws) (List.replicate m (.sc (.bl true))) [a, Dc b n] = .ok (List.replicate (m + ws.length) (.sc (.bl true)), [a', Dc b' n]) := by
 intro ws
 induction ws with
 | nil => exact fun m a b _ => ⟨a, b, rfl⟩
 | cons w ws ih =>
  intro m a b hw
  obtain ⟨a', b', ih⟩ := ih (m + 1) (S' w) false (fun q hq => hw q (List.mem_cons_of_mem _ hq))
  refine ⟨a', b', ?_⟩
  have e : List.replicate m (D.sc (.bl true)) ++ [D.sc (.bl true)] = List.replicate (m + 1) (D.sc (.bl true)) := by have := Zjv m 0; rwa [List.replicate_zero, List.append_nil] at this
  rw [List.length_cons, show m + (ws.length + 1) = m + 1 + ws.length by omega, <- ih, show dT (w :: ws) = S' w :: dT ws from rfl, Zbb]
  have hk := Ziw n w (hw w (by simp))
  have hs : ∀ d : D, (some d).isSome = true := fun _ => rfl
  simp_all [h0, ZcT, hk, hs, e]
theorem Zjx (h0 : lk 0 = false) (n : Nat) : ∀ (ws acc : List Str) (a : D) (b : Bool), (∀ w ∈ ws, w ∈ wds n) -> ∃ a' b',
 Zae (asgT lk (.name 0)) (tsts ⟨lk, fok, fuel⟩ []) (evb ⟨lk, fok, fuel⟩ (.ix (.v 1) (.v 0))).1 (dT ws) (acc.map (mean false)) [a, Dc b n] = .ok ((acc ++ ws).map (mean false), [a', Dc b' n]) := by
 intro ws
 induction ws with
 | nil => exact fun acc a b _ => ⟨a, b, by rw [List.append_nil]; rfl⟩
 | cons w ws ih =>
  intro acc a b hw
  obtain ⟨a', b', ih⟩ := ih (acc ++ [w]) (S' w) false (fun q hq => hw q (List.mem_cons_of_mem _ hq))
  refine ⟨a', b', ?_⟩
  rw [List.append_assoc] at ih
  rw [show acc ++ w :: ws = acc ++ ([w] ++ ws) from rfl, <- ih, show dT (w :: ws) = S' w :: dT ws from rfl, Zbb]
  have hk := Ziw n w (hw w (by simp))
  have e : acc.map (mean false) ++ [D.node .tup false (ZaE w)] = (acc ++ [w]).map (mean false) := by rw [List.map_append]; rfl
  simp_all [h0, ZcT, hk, e]
theorem Zjy (h3 : lk 3 = false) (h4 : lk 4 = false) (h5 : lk 5 = false) (p n : Nat) (ls : List Str) (hp : 1 <= p) (hp2 : p <= 47) (hn : n ∈ [1, 2, 3, 4]) : ∀ (rs done : List (List Str)) (b : Bool) (a c : D), Zcn p n rs -> (∀ k : Nat, k < rs.length -> done.length + 1 + k < ls.length /\ ls.getD (done.length + 1 + k) Str.empty = line (rs.getD k [])) -> done.length + rs.length <= 4 -> ∃ b' a' c',
 forL (asgT lk (.name 4)) (exs ⟨lk, fok, fuel⟩ (bdy (ZI.getD 2 .pass))) (dI (rngI ((done.length + 1 : Nat) : Int) rs.length)) [I p, TL true ls, Dc b n, .node .lst true (done.map (Mrow true)), a, c] = .ok (.nx, [I p, TL true ls, Dc b' n, .node .lst true ((done ++ rs).map (Mrow true)), a', c']) := by
 intro rs
 induction rs with
 | nil => exact fun done b a c _ _ _ => ⟨b, a, c, by rw [List.append_nil]; rfl⟩
 | cons r rs ih =>
  intro done b a c hok hat hl
  rw [List.length_cons] at hl
  obtain ⟨hr1, hr2⟩ := hok r (by simp)
  obtain ⟨g1, g2⟩ := hat 0 (by simp)
  have g2 : ls.getD (done.length + 1) Str.empty = line r := g2
  have g1 : done.length + 1 < ls.length := g1
  obtain ⟨a1, b1, hin⟩ := Zlh (fun j => decide (1 <= j)) fok fuel rfl n r 0 .hole b hr2
  obtain ⟨a2, b2, hget⟩ := Zjx (fun j => decide (1 <= j)) fok fuel rfl n r [] .hole b1 hr2
  rw [List.nil_append] at hget
  rw [Nat.zero_add] at hin
  obtain ⟨b', a', c', ih⟩ := ih (done ++ [r]) b2 (I (done.length + 1 : Nat)) (TL true r) (fun q hq => hok q (List.mem_cons_of_mem _ hq)) (fun k hk => by
   have := hat (k + 1) (by rw [List.length_cons]; omega)
   rw [List.length_append, List.length_singleton]
   refine ⟨by omega, ?_⟩
   rw [show done.length + 1 + 1 + k = done.length + 1 + (k + 1) by omega, this.2]
   rfl) (by rw [List.length_append, List.length_singleton]; omega)
  refine ⟨b', a', c', ?_⟩
  rw [List.length_append, List.length_singleton, List.append_assoc] at ih
  rw [show done ++ r :: rs = done ++ ([r] ++ rs) from rfl, <- ih, List.length_cons, rngI, ZaV, ZO]
  simp only [ZI, bdy, gd1, gd0]
  have e1 : ((done.length + 1 + 1 : Nat) : Int) = ((done.length + 1 : Nat) : Int) + 1 := by omega
  rw [e1]
  have hx := ixT ls (done.length + 1) g1
  rw [g2] at hx
  generalize done.length + 1 = i at hx
  have hll := (Zdr hn hr2 hr1 hp2).2.1
  have hs : bmW .split (line r) [.sc (.str (Str.ofString " "))] = some (TL true r) := by
   rw [ZfR, ZgL _ _ rfl (by rw [szl]; omega), Zhq hn hr2 hr1 hp]
  have hlen : ((dT r).length : Int) = (p : Int) := by rw [Zbv, hr1]
  have hd : decide (V.int (p : Int) = V.int (p : Int)) = true := decide_eq_true rfl
  have hi : ∀ ds : List D, itW .val [.nd .lst ds] = some ds := fun _ => rfl
  have hc1 : ∀ b0 b1' b3 b4 b5 : D, Zap 1 [2] (Zaj fok fuel 1 (.name 0) [] (.cmp .In (.v 0) (.v 1)) (dT r) []) [b0, b1', Dc b n, b3, b4, b5] = .ok (.node .lst true (List.replicate r.length (.sc (.bl true))), [b0, b1', Dc b1 n, b3, b4, b5]) := fun b0 b1' b3 b4 b5 => by
   replace hin : Zaj fok fuel 1 (.name 0) [] (.cmp .In (.v 0) (.v 1)) (dT r) [] [.hole, Dc b n] = _ := hin
   rw [Zbl (js := [2]) (caps := [Dc b n]) (δ1 := [b0, b1', .hole, b3, b4, b5]) rfl hin (by rw [List.length_replicate, szl]; omega)]
   rfl
  have hc2 : ∀ b0 b1' b3 b4 b5 : D, Zap 1 [2] (Zaj fok fuel 1 (.name 0) [] (.ix (.v 1) (.v 0)) (dT r) []) [b0, b1', Dc b1 n, b3, b4, b5] = .ok (Mrow true r, [b0, b1', Dc b2 n, b3, b4, b5]) := fun b0 b1' b3 b4 b5 => by
   replace hget : Zaj fok fuel 1 (.name 0) [] (.ix (.v 1) (.v 0)) (dT r) [] [.hole, Dc b1 n] = _ := hget
   rw [Zbl (js := [2]) (caps := [Dc b1 n]) (δ1 := [b0, b1', .hole, b3, b4, b5]) rfl hget (by rw [List.length_map, szl]; omega)]
   rfl
  have hz : (done.map (Mrow true)).length < sizeLine := by rw [List.length_map, szl]; omega
  have ha := fun (δ : List D) (d : D) => Zba 3 δ d (done.map (Mrow true)) hz
  have e2 : done.map (Mrow true) ++ [Mrow true r] = (done ++ [r]).map (Mrow true) := by rw [List.map_append]; rfl
  simp_all [h3, h4, h5, hx, ZdY, hs, hlen, hd, Zbu, hi, hc1, hc2, Zlg, ha, e2]
theorem ZcU (p : Nat) (rs : List (List Str)) : (lines p rs).length = rs.length + 1 := by unfold lines; rw [List.length_cons, List.length_map]
theorem Zli {p n : Nat} {rs : List (List Str)} (hp : p ∈ primes) (h1 : 1 <= n) (h4 : n <= 4) (hl : rs.length = n) (h : Zcn p n rs) : Zag.run [I p, TL true (lines p rs)] = .ok (MsT true rs, [I p, TL true (lines p rs)]) := by
 walk_at "r"
 have hpl := ZZ p hp
 have hn := n14 h1 h4
 have hw := Znj n hn
 obtain ⟨b', a', c', hf⟩ := Zjy (fun j => decide (j < 2)) (fun _ _ => false) 0 rfl rfl rfl p n (lines p rs) (by omega) hpl.2 hn rs [] true .hole .hole h (fun k hk => by
  rw [ZcU, List.length_nil]
  refine ⟨by omega, ?_⟩
  show (lines p rs).getD (0 + 1 + k) Str.empty = _
  unfold lines
  rw [show 0 + 1 + k = k + 1 by omega, List.getD_eq_getElem?_getD, List.getElem?_cons_succ, List.getElem?_map, List.getD_eq_getElem?_getD, List.getElem?_eq_getElem hk]
  rfl) (by rw [List.length_nil]; omega)
 rw [List.nil_append, hl] at hf
 have e0 : (([] : List (List Str)).length + 1 : Nat) = 1 := rfl
 rw [e0, show ((1 : Nat) : Int) = 1 from rfl] at hf
 simp only [ZI, bdy, gd1, gd0] at hf
 have hlen : ((dT (lines p rs)).length : Int) = (n : Int) + 1 := by rw [Zbv, ZcU, hl]; rfl
 have e1 : (n : Int) + 1 - 1 = n := by omega
 have hit : itW .rng2 [.sc (.int 1), .sc (.int ((n : Int) + 1))] = some (dI (rngI 1 n)) := by
  have := ZpM 1 ((n : Int) + 1) (by omega)
  rwa [show ((n : Int) + 1 - 1).toNat = n by omega] at this
 have k1 : Zab.lend = true := rfl
 have e2 : D.node .lst true [] = D.node .lst true (([] : List (List Str)).map (Mrow true)) := rfl
 (simp_all [Zbu, hlen, e1, k1, hw, Zdq, e2, hit, hf]) <;> rfl
noncomputable abbrev fs3 : List Str := ["size", "meanings", "text"]
noncomputable abbrev Tb (C : Addr) (o : Bool) (p : Nat) (rs : List (List Str)) (t : Str) : D := .node (.ins C fs3) true [I p, MsT o rs, S' t]
theorem ZjU (C : Addr) (f : Str) (h : f ∈ fs3) : (CK C).fok C f = true := by
 show (decide (C = C) && _) = true
 simp only [decide_true, Bool.true_and, Bool.or_eq_true, beq_iff_eq]
 simp only [List.mem_cons, List.not_mem_nil, or_false] at h
 rcases h with rfl | rfl | rfl
 . exact .inl (.inl rfl)
 . exact .inl (.inr rfl)
 . exact .inr rfl
theorem ZeX (C : Addr) (f : Str) (fs : List Str) (ds : List D) (x : D) (hf : f ∈ fs3) (hl : ZbQ f fs ds = some x) : fldW (CK C).fok f (.nd (.ins C fs) ds) = some x := by
 show (if (CK C).fok C f = true then ZbQ f fs ds else none) = _
 rw [if_pos (ZjU C f hf), hl]
theorem ZpY (C : Addr) (a b c : D) : fldW (CK C).fok "size" (.nd (.ins C fs3) [a, b, c]) = some a := ZeX C _ _ _ _ (by decide) rfl
theorem ZjV (C : Addr) (a b c : D) : fldW (CK C).fok "meanings" (.nd (.ins C fs3) [a, b, c]) = some b := ZeX C _ _ _ _ (by decide) rfl
theorem ZpZ (C : Addr) (a b c : D) : fldW (CK C).fok "text" (.nd (.ins C fs3) [a, b, c]) = some c := ZeX C _ _ _ _ (by decide) rfl
theorem Zqa (C : Addr) (a : D) : fldW (CK C).fok "size" (.nd (.ins C ["size"]) [a]) = some a := ZeX C _ _ _ _ (by decide) rfl
theorem ZfS (C : Addr) (i : Nat) (δ : List D) (f : Str) (hf : f ∈ fs3) (d : D) (fs : List Str) (ds : List D) (hl : fs.length < 1000) : mdR i δ (putD (CK C).fok f d) (some (.node (.ins C fs) true ds)) = .ok (.sc .non, δ.set i (.node (.ins C (putN f fs)) true (putV f d fs ds))) := by
 have e : putD (CK C).fok f d (.ins C fs) ds = some (.sc .non, .ins C (putN f fs), putV f d fs ds) := by
  show (if fs.length < 1000 /\ (CK C).fok C f = true then some (D.sc .non, Kd.ins C (putN f fs), T.putV f d fs ds) else none) = _
  rw [if_pos ⟨hl, ZjU C f hf⟩]
 show (match putD (CK C).fok f d (.ins C fs) ds with | some (r, k', ds') => Rs.ok (r, δ.set i (.node k' true ds')) | none => .stuck) = _
 rw [e]
theorem ZfT (C : Addr) {p n : Nat} {rs : List (List Str)} (hp : p ∈ primes) (h1 : 1 <= n) (h4 : n <= 4) (hl : rs.length = n) (h : Zcn p n rs) : (ZJ C).run [.node (.ins C []) true [], S' (text p rs)] = .ok (.sc .non, [Tb C true p rs (text p rs), S' (text p rs)]) := by
 walk_at "r"
 obtain ⟨_, t2, t3⟩ := ZgK hp h1 h4 hl h
 have r1 := Zgo (text p rs) t2
 rw [t3] at r1
 have hll := ZcU p rs
 have hx := ixT (lines p rs) 0 (by omega)
 rw [show (lines p rs).getD 0 Str.empty = first p from rfl, show ((0 : Nat) : Int) = 0 from rfl] at hx
 have r2 := Zju p hp
 have r3 := Zlf (lines p rs) (by omega) (by omega)
 have r4 := Zli hp h1 h4 hl h
 have k1 : ZbU.lend = true := rfl
 have k2 : Zbc.lend = true := rfl
 have k3 : Zal.lend = true := rfl
 have k4 : Zag.lend = true := rfl
 have p1 := fun (δ : List D) (d : D) => ZfS C 0 δ "size" (by decide) d [] [] (by decide)
 have p2 := fun (δ : List D) (d a : D) => ZfS C 0 δ "meanings" (by decide) d ["size"] [a] (by decide)
 have p3 := fun (δ : List D) (d a b : D) => ZfS C 0 δ "text" (by decide) d ["size", "meanings"] [a, b] (by decide)
 have q1 : putN "size" [] = (["size"] : List Str) := by kernel_rfl
 have q2 : putN "meanings" ["size"] = (["size", "meanings"] : List Str) := by kernel_rfl
 have q3 : putN "text" ["size", "meanings"] = fs3 := by kernel_rfl
 have v1 : ∀ d : D, T.putV "size" d ([] : List Str) [] = [d] := fun d => rfl
 have v2 : ∀ d a : D, T.putV "meanings" d (["size"] : List Str) [a] = [a, d] := fun d a => rfl
 have v3 : ∀ d a b : D, T.putV "text" d (["size", "meanings"] : List Str) [a, b] = [a, b, d] := fun d a b => rfl
 rw [q1] at p1
 rw [q2] at p2
 rw [q3] at p3
 generalize text p rs = t at r1
 generalize lines p rs = ls at r1 hx r3 r4
 (simp_all [k1, k2, k3, k4, r1, r2, r3, r4, hx, Zbu, p1, p2, p3, v1, v2, v3, Zqa]) <;> rfl
theorem Zjz (w : Str) : ∃ k v, ZaE w = [S' k, .sc v] /\ tyW .bool (.sc v) = some false := by
 unfold ZaE
 split
 . exact ⟨_, _, rfl, rfl⟩
 split
 . exact ⟨_, _, rfl, rfl⟩
 split <;> exact ⟨_, _, rfl, rfl⟩
theorem ixM (r : List Str) (k : Nat) (h : k < r.length) : ((ixN' (r.map (mean false)).length (k : Int)).bind fun j => (r.map (mean false))[j]?) = some (mean false (r.getD k Str.empty)) := by
 rw [List.length_map, ZaU _ _ h]
 show (r.map (mean false))[k]? = _
 rw [List.getElem?_map, List.getD_eq_getElem?_getD, List.getElem?_eq_getElem h]
 rfl
theorem ix20 (a b : D) : ((ixN' 2 0).bind fun j => [a, b][j]?) = some a := rfl
theorem ix21 (a b : D) : ((ixN' 2 1).bind fun j => [a, b][j]?) = some b := rfl
theorem Zqb (i : Int) : tyW .int (.sc (.int i)) = some true := (rfl)
theorem Zqc (i : Int) : tyW .bool (.sc (.int i)) = some false := (rfl)
theorem Zqd (w : W) : bfW (.isi .int) [w] = (tyW .int w).map fun b => .sc (.bl b) := (rfl)
theorem ZjR (w : W) : bfW (.isi .bool) [w] = (tyW .bool w).map fun b => .sc (.bl b) := (rfl)
theorem Zds (C : Addr) (m : Str) (i : Nat) (δ : List D) (fs : List Str) (o : Bool) (ds : List D) (h : δ[i]? = some (.node (.ins C fs) o ds)) (hm : m ∉ fs) : chkI C m (.late i) δ = .ok ((), δ) := by
 unfold chkI
 simp only [h]
 rw [if_pos ⟨trivial, hm⟩]
theorem Z7 (p : Bool) : isNW p (.sc .non) = .sc (.bl (true == p)) := by cases p <;> rfl
theorem ZU (p : Bool) (k : Kd) (ds : List D) : isNW p (.nd k ds) = .sc (.bl (!p)) := (rfl)
theorem ZP (p : Bool) (i : Int) : isNW p (.sc (.int i)) = .sc (.bl (!p)) := by cases p <;> rfl
inductive Kw where
 | no | sg | lk (k : Nat) | sh (k : Nat)
noncomputable def kwOf (w : Str) : Kw :=
 if w.cps.toList = [45] then .no
 else if w.cps.toList.take 4 = [108, 111, 99, 107] then .lk (w.cps.toList.getD 4 0 - 48)
 else if w.cps.toList.take 5 = [115, 104, 105, 102, 116] then .sh (w.cps.toList.getD 5 0 - 48)
 else .sg
theorem Zix : ∀ c ∈ sgn, c ≠ 45 /\ decide (V.str ⟨#[c]⟩ = V.str "-") = false /\ decide (V.str (Txt.slice ⟨#[c]⟩ none (some 4)) = V.str "lock") = false /\ decide (V.str (Txt.slice ⟨#[c]⟩ none (some 5)) = V.str "shift") = false := by walk_at "d"
theorem Zc3 {c : Nat} (h : c ∈ sgn) : kwOf ⟨#[c]⟩ = .sg /\ ZaE ⟨#[c]⟩ = [S' "sign", S' ⟨#[c]⟩] := by
 have h1 : ¬ [c] = [45] := fun e => (Zix c h).1 (List.cons.inj e).1
 have h2 : ¬ [c].take 4 = [108, 111, 99, 107] := by simp
 have h3 : ¬ [c].take 5 = [115, 104, 105, 102, 116] := by simp
 constructor
 . unfold kwOf
   rw [if_neg h1, if_neg h2, if_neg h3]
 . unfold ZaE
   rw [if_neg h1, if_neg h2, if_neg h3]
theorem Zc4 : kwOf ⟨#[45]⟩ = .no /\ ZaE ⟨#[45]⟩ = [S' "nothing", .sc .non] := ⟨by kernel_rfl, by kernel_rfl⟩
theorem Zc5 (k : Nat) (h : k < 4) : kwOf (lkw k) = .lk k /\ ZaE (lkw k) = [S' "lock", I k] := by
 match k, h with
 | 0, _ => exact ⟨by kernel_rfl, by kernel_rfl⟩
 | 1, _ => exact ⟨by kernel_rfl, by kernel_rfl⟩
 | 2, _ => exact ⟨by kernel_rfl, by kernel_rfl⟩
 | 3, _ => exact ⟨by kernel_rfl, by kernel_rfl⟩
theorem Zc6 (k : Nat) (h : k < 4) : kwOf (shw k) = .sh k /\ ZaE (shw k) = [S' "shift", I k] := by
 match k, h with
 | 0, _ => exact ⟨by kernel_rfl, by kernel_rfl⟩
 | 1, _ => exact ⟨by kernel_rfl, by kernel_rfl⟩
 | 2, _ => exact ⟨by kernel_rfl, by kernel_rfl⟩
 | 3, _ => exact ⟨by kernel_rfl, by kernel_rfl⟩
theorem Ziy {n : Nat} {w : Str} (h : w ∈ wds n) : w = ⟨#[45]⟩ \/ (∃ c ∈ sgn, w = ⟨#[c]⟩) \/ (∃ k, k < n /\ w = lkw k) \/ ∃ k, k < n /\ w = shw k := by
 unfold wds at h
 rcases List.mem_cons.mp h with h | h
 . exact .inl h
 (rcases List.mem_append.mp h with h | h)
 . obtain ⟨c, hc, rfl⟩ := List.mem_map.mp h
   exact .inr (.inl ⟨c, hc, rfl⟩)
 . obtain ⟨k, hk, h⟩ := List.mem_flatMap.mp h
   simp only [List.mem_cons, List.not_mem_nil, or_false] at h
   rcases h with rfl | rfl
   . exact .inr (.inr (.inl ⟨k, List.mem_range.mp hk, rfl⟩))
   . exact .inr (.inr (.inr ⟨k, List.mem_range.mp hk, rfl⟩))
noncomputable def stp (w : Str) (i : Nat) (a : Option Nat) : Option ((Nat × Option Nat) × Str) := match kwOf w, a with
 | .sg, _ => some ((i, none), w)
 | .lk j, none => some ((j, none), Str.empty)
 | .sh j, none => some ((i, some j), Str.empty)
 | _, _ => none
theorem Ziz {n : Nat} {w s : Str} {i i' : Nat} {a a' : Option Nat} (hn : n <= 4) (hw : w ∈ wds n) (hi : i < n) (h : stp w i a = some ((i', a'), s)) : i' < n /\ (∀ j, a' = some j -> j < n) /\ s.length <= 1 := by
 unfold stp at h
 rcases Ziy hw with rfl | ⟨c, hc, rfl⟩ | ⟨k, hk, rfl⟩ | ⟨k, hk, rfl⟩
 . rw [Zc4.1] at h; cases h
 . rw [(Zc3 hc).1] at h; cases h
   exact ⟨hi, nofun, Nat.le_refl 1⟩
 . rw [(Zc5 k (by omega)).1] at h
   cases a <;> cases h
   exact ⟨hk, nofun, Nat.zero_le _⟩
 . rw [(Zc6 k (by omega)).1] at h
   cases a <;> cases h
   exact ⟨hi, fun j e => by cases e; exact hk, Nat.zero_le _⟩
noncomputable def optD : Option Nat -> D
 | none => .sc .non
 | some j => I j
noncomputable def bhD : Option ((Nat × Option Nat) × Str) -> D
 | some ((i, a), s) => .node .tup true [.node .tup true [I i, optD a], S' s]
 | none => .node .tup true [.sc .non, S' Str.empty]
noncomputable def wd (rs : List (List Str)) (i : Nat) (a : Option Nat) (x : Nat) : Str := (rs.getD (a.getD i) []).getD x Str.empty
theorem ss1 : decide (V.str "nothing" = V.str "sign") = false /\ decide (V.str "lock" = V.str "sign") = false /\ decide (V.str "shift" = V.str "sign") = false /\ decide (V.str "lock" = V.str "nothing") = false /\ decide (V.str "shift" = V.str "nothing") = false /\ decide (V.str "shift" = V.str "lock") = false := by walk_at "d"
theorem st0 : S' (Str.ofString "") = S' Str.empty := by kernel_rfl
noncomputable abbrev P := Option (Nat × Option Nat)
noncomputable abbrev Stf := P -> Nat -> P × Str
noncomputable abbrev Ent := (P × P) × List Nat
noncomputable def gv : P × Str -> Option Str
 | (some (_, none), s) => some s
 | _ => none
noncomputable def scan (f g : Stf) (q : P × P) (row : List Nat) : List Nat -> List Ent -> Sum (List Nat) (List Ent)
 | [], t => .inr t
 | x :: xs, t => if gv (f q.1 x) = gv (g q.2 x) then (if ((f q.1 x).1, (g q.2 x).1) ∈ t.map Prod.fst then scan f g q row xs t else scan f g q row xs (t ++ [(((f q.1 x).1, (g q.2 x).1), row ++ [x])])) else .inl (row ++ [x])
noncomputable def bfs (f g : Stf) (m : Nat) : Nat -> Nat -> List Ent -> Option (Option (List Nat))
 | 0, _, _ => none
 | k + 1, n, t => match t[n]? with
  | none => some none
  | some (q, row) => match scan f g q row (List.range m) t with
   | .inl r => some (some r)
   | .inr t' => bfs f g m k (n + 1) t'
noncomputable def wkP (f : Stf) : List Nat -> P × Str -> P × Str
 | [], q => q
 | x :: xs, q => wkP f xs ((f q.1 x).1, q.2 ++ (f q.1 x).2)
theorem Zcp (f : Stf) (x : Nat) : ∀ (xs : List Nat) (q : P × Str), wkP f (xs ++ [x]) q = ((f (wkP f xs q).1 x).1, (wkP f xs q).2 ++ (f (wkP f xs q).1 x).2)
 | [], _ => rfl
 | _ :: xs, _ => Zcp f x xs _
noncomputable abbrev q0 : P × Str := (some (0, none), Str.empty)
noncomputable def rdP (f : Stf) (row : List Nat) : Option Str := gv (wkP f row q0)
theorem ZjW {α : Type} [DecidableEq α] : ∀ (L l : List α), l.Nodup -> (∀ x ∈ l, x ∈ L) -> l.length <= L.length
 | [], l, _, h => by
  cases l with
  | nil => exact Nat.le_refl _
  | cons a l => exact absurd (h a List.mem_cons_self) (by simp)
 | a :: L, l, hn, h => by
  have h1 := ZjW L (l.erase a) (hn.erase a) fun x hx => by
   have h2 := h x (List.mem_of_mem_erase hx)
   rcases List.mem_cons.mp h2 with e | e
   . subst e
     exact absurd hx hn.not_mem_erase
   . exact e
  have h3 : l.length <= (l.erase a).length + 1 := by
   rw [List.length_erase]
   split <;> omega
  rw [List.length_cons]
  omega
structure SOk (f : Stf) (L : List P) : Prop where
 cl : ∀ q ∈ L, ∀ x, (f q x).1 ∈ L
 em : ∀ q x, gv (f q x) = none -> (f q x).2 = Str.empty
structure EOk (f g : Stf) (m : Nat) (L M : List P) (N : Nat) (e : Ent) : Prop where
 a1 : e.1.1 ∈ L
 a2 : e.1.2 ∈ M
 hx : ∀ x ∈ e.2, x < m
 len : e.2.length < N
 wk : ∃ s, wkP f e.2 q0 = (e.1.1, s) /\ wkP g e.2 q0 = (e.1.2, s)
structure IOk (f g : Stf) (m : Nat) (L M : List P) (t : List Ent) : Prop where
 nd : (t.map Prod.fst).Nodup
 all : ∀ e ∈ t, EOk f g m L M t.length e
theorem ZjX {a : P × Str} {s : Str} (h : gv a = some s) : a.2 = s := by
 obtain ⟨q, z⟩ := a
 match q, h with
 | some (_, none), h => exact Option.some.inj h
theorem Zi0 {q : P} {s s' : Str} (z : Str) : gv (q, z ++ s) = (gv (q, s)).map (z ++ ·) := by
 match q with
 | none => rfl
 | some (_, none) => rfl
 | some (_, some _) => rfl
theorem Zhr {z a b : Str} (h : z ++ a = z ++ b) : a = b := by
 have := congrArg (fun s : Str => s.cps.toList) h
 simp only [Zbf] at this
 exact Zem (List.append_cancel_left this)
theorem EOk.mono {f g : Stf} {m N N' : Nat} {L M : List P} {e : Ent} (h : EOk f g m L M N e) (hn : N <= N') : EOk f g m L M N' e := ⟨h.a1, h.a2, h.hx, Nat.lt_of_lt_of_le h.len hn, h.wk⟩
theorem IOk.le {f g : Stf} {m : Nat} {L M : List P} {t : List Ent} (h : IOk f g m L M t) : t.length <= L.length * M.length := by
 have := ZjW (L.flatMap fun a => M.map fun b => (a, b)) (t.map Prod.fst) h.nd fun x hx => by
  obtain ⟨e, he, rfl⟩ := List.mem_map.mp hx
  have := h.all e he
  exact List.mem_flatMap.mpr ⟨_, this.a1, List.mem_map.mpr ⟨_, this.a2, rfl⟩⟩
 rw [List.length_map] at this
 refine Nat.le_trans this ?_
 clear this h
 induction L with
 | nil => simp
 | cons a L ih =>
  rw [List.flatMap_cons, List.length_append, List.length_map, List.length_cons, Nat.succ_mul]
  omega
structure Parts (f g : Stf) (m N : Nat) (r : List Nat) : Prop where
 hx : ∀ x ∈ r, x < m
 len : r.length <= N
 ne : rdP f r ≠ rdP g r
theorem Zj0 {f g : Stf} {m : Nat} {L M : List P} {t : List Ent} {e : Ent} {x : Nat} (hf : SOk f L) (hg : SOk g M) (h : IOk f g m L M t) (he : e ∈ t) (hx : x < m) (hv : gv (f e.1.1 x) = gv (g e.1.2 x)) : EOk f g m L M (t.length + 1) (((f e.1.1 x).1, (g e.1.2 x).1), e.2 ++ [x]) := by
 have q := h.all e he
 obtain ⟨s, w1, w2⟩ := q.wk
 refine ⟨hf.cl _ q.a1 x, hg.cl _ q.a2 x, fun y hy => ?_, ?_, s ++ (f e.1.1 x).2, ?_, ?_⟩
 . rcases List.mem_append.mp hy with k | k
   . exact q.hx y k
   . rw [List.mem_singleton.mp k]; exact hx
 . have := q.len
   show (e.2 ++ [x]).length < t.length + 1
   rw [List.length_append, List.length_singleton]
   omega
 . show wkP f (e.2 ++ [x]) q0 = _
   rw [Zcp, w1]
 . show wkP g (e.2 ++ [x]) q0 = _
   rw [Zcp, w2]
   have : (g e.1.2 x).2 = (f e.1.1 x).2 := by
    cases c : gv (f e.1.1 x) with
    | none =>
     rw [c] at hv
     rw [hf.em _ _ c, hg.em _ _ hv.symm]
    | some z =>
     rw [c] at hv
     rw [ZjX c, ZjX hv.symm]
   rw [this]
theorem IOk.more {f g : Stf} {m : Nat} {L M : List P} {t : List Ent} {e : Ent} {x : Nat} (hf : SOk f L) (hg : SOk g M) (h : IOk f g m L M t) (he : e ∈ t) (hx : x < m) (hv : gv (f e.1.1 x) = gv (g e.1.2 x)) (hn : ((f e.1.1 x).1, (g e.1.2 x).1) ∉ t.map Prod.fst) : IOk f g m L M (t ++ [(((f e.1.1 x).1, (g e.1.2 x).1), e.2 ++ [x])]) := by
 refine ⟨?_, fun k hk => ?_⟩
 . (rw [List.map_append, List.nodup_append])
   refine ⟨h.nd, by simp, fun a ha b hb => ?_⟩
   (simp only [List.map_cons, List.map_nil, List.mem_singleton] at hb)
   subst hb
   intro e
   subst e
   exact hn ha
 . rw [List.length_append, List.length_singleton]
   rcases List.mem_append.mp hk with q | q
   . exact (h.all k q).mono (Nat.le_succ _)
   . rw [List.mem_singleton.mp q]
     exact Zj0 hf hg h he hx hv
theorem Zj1 {f g : Stf} {m : Nat} {L M : List P} {t : List Ent} {e : Ent} {x : Nat} (h : IOk f g m L M t) (he : e ∈ t) (hx : x < m) (hv : gv (f e.1.1 x) ≠ gv (g e.1.2 x)) : Parts f g m (L.length * M.length) (e.2 ++ [x]) := by
 have q := h.all e he
 have := h.le
 obtain ⟨s, w1, w2⟩ := q.wk
 refine ⟨fun y hy => ?_, ?_, fun r => ?_⟩
 . rcases List.mem_append.mp hy with k | k
   . exact q.hx y k
   . rw [List.mem_singleton.mp k]; exact hx
 . have := q.len
   rw [List.length_append, List.length_singleton]
   omega
 . unfold rdP at r
   rw [Zcp, Zcp, w1, w2, Zi0 (s' := s), Zi0 (s' := s)] at r
   apply hv
   show gv ((f e.1.1 x).1, (f e.1.1 x).2) = gv ((g e.1.2 x).1, (g e.1.2 x).2)
   cases c : gv ((f e.1.1 x).1, (f e.1.1 x).2) with
   | none =>
    rw [c] at r
    cases d : gv ((g e.1.2 x).1, (g e.1.2 x).2) with
    | none => rfl
    | some z => rw [d] at r; cases r
   | some y =>
    rw [c] at r
    cases d : gv ((g e.1.2 x).1, (g e.1.2 x).2) with
    | none => rw [d] at r; cases r
    | some z =>
     rw [d] at r
     rw [Zhr (Option.some.inj r)]
theorem Zcq {f g : Stf} {m : Nat} {L M : List P} (hf : SOk f L) (hg : SOk g M) (e : Ent) : ∀ (xs : List Nat) (t : List Ent), IOk f g m L M t -> e ∈ t -> (∀ x ∈ xs, x < m) -> (∀ r, scan f g e.1 e.2 xs t = .inl r -> Parts f g m (L.length * M.length) r) /\ ∀ t', scan f g e.1 e.2 xs t = .inr t' -> IOk f g m L M t' /\ t.length <= t'.length
 | [], t, h, he, _ => ⟨fun r k => (by cases k), fun t' k => by cases k; exact ⟨h, Nat.le_refl _⟩⟩
 | x :: xs, t, h, he, hx => by
  have h1 := hx x List.mem_cons_self
  have h2 : ∀ y ∈ xs, y < m := fun y hy => hx y (List.mem_cons_of_mem _ hy)
  unfold scan
  by_cases c : gv (f e.1.1 x) = gv (g e.1.2 x)
  . rw [if_pos c]
    by_cases d : ((f e.1.1 x).1, (g e.1.2 x).1) ∈ t.map Prod.fst
    . rw [if_pos d]
      exact Zcq hf hg e xs t h he h2
    . rw [if_neg d]
      have ih := Zcq hf hg e xs _ (h.more hf hg he h1 c d) (List.mem_append_left _ he) h2
      refine ⟨ih.1, fun t' k => ⟨(ih.2 t' k).1, ?_⟩⟩
      have := (ih.2 t' k).2
      rw [List.length_append] at this
      omega
  . rw [if_neg c]
    exact ⟨fun r k => by cases k; exact Zj1 h he h1 c, fun t' k => (by cases k)⟩
theorem Zi1 {f g : Stf} {m : Nat} {L M : List P} (hf : SOk f L) (hg : SOk g M) : ∀ (k n : Nat) (t : List Ent), IOk f g m L M t -> n <= t.length -> L.length * M.length < n + k -> ∃ r, bfs f g m k n t = some r /\ ∀ row, r = some row -> Parts f g m (L.length * M.length) row
 | 0, n, t, h, hn, hk => absurd h.le (by omega)
 | k + 1, n, t, h, hn, hk => by
  unfold bfs
  cases c : t[n]? with
  | none => exact ⟨none, rfl, nofun⟩
  | some e =>
   obtain ⟨q, row⟩ := e
   have hm := List.mem_of_getElem? c
   have hs := Zcq hf hg (q, row) (List.range m) t h hm fun x hx => List.mem_range.mp hx
   have hl : n < t.length := by
    rcases Nat.lt_or_ge n t.length with l | l
    . exact l
    . rw [List.getElem?_eq_none l] at c; cases c
   cases d : scan f g q row (List.range m) t with
   | inl r =>
    simp only [d]
    exact ⟨some r, rfl, fun row e => by cases e; exact hs.1 r d⟩
   | inr t' =>
    simp only [d]
    have := hs.2 t' d
    exact Zi1 hf hg k (n + 1) t' this.1 (by omega) (by omega)
noncomputable def sw (e : Ent) : Ent := ((e.1.2, e.1.1), e.2)
theorem ZfU (a b : P) : ∀ t : List Ent, (b, a) ∈ (t.map sw).map Prod.fst ↔ (a, b) ∈ t.map Prod.fst
 | [] => by simp
 | e :: t => by
  obtain ⟨⟨c, d⟩, r⟩ := e
  simp only [List.map_cons, List.mem_cons, sw, ZfU a b t, Prod.mk.injEq]
  constructor <;> (rintro (⟨h1, h2⟩ | h); exact .inl ⟨h2, h1⟩; exact .inr h)
theorem Zen (f g : Stf) (q : P × P) (row : List Nat) : ∀ (xs : List Nat) (t : List Ent), scan g f (q.2, q.1) row xs (t.map sw) = match scan f g q row xs t with | .inl r => .inl r | .inr t' => .inr (t'.map sw)
 | [], t => rfl
 | x :: xs, t => by
  unfold scan
  by_cases c : gv (f q.1 x) = gv (g q.2 x)
  . rw [if_pos c, if_pos c.symm]
    by_cases d : ((f q.1 x).1, (g q.2 x).1) ∈ t.map Prod.fst
    . rw [if_pos d, if_pos ((ZfU _ _ t).mpr d)]
      exact Zen f g q row xs t
    . rw [if_neg d, if_neg fun h => d ((ZfU _ _ t).mp h)]
      have := Zen f g q row xs (t ++ [(((f q.1 x).1, (g q.2 x).1), row ++ [x])])
      rw [List.map_append] at this
      exact this
  . rw [if_neg c, if_neg fun h => c h.symm]
theorem Zi2 (f g : Stf) (m : Nat) : ∀ (k n : Nat) (t : List Ent), bfs g f m k n (t.map sw) = bfs f g m k n t
 | 0, _, _ => rfl
 | k + 1, n, t => by
  unfold bfs
  rw [List.getElem?_map]
  cases c : t[n]? with
  | none => rfl
  | some e =>
   obtain ⟨q, row⟩ := e
   show (match scan g f (q.2, q.1) row (List.range m) (t.map sw) with | .inl r => some (some r) | .inr t' => bfs g f m k (n + 1) t') = _
   rw [Zen]
   cases d : scan f g q row (List.range m) t with
   | inl r => simp only [d]
   | inr t' =>
    simp only [d]
    exact Zi2 f g m k (n + 1) t'
theorem Zhs (h3 : lk 3 = false) (h4 : lk 4 = false) (h5 : lk 5 = false) (h6 : lk 6 = false) (h7 : lk 7 = false) (x0 x1 x2 x8 : D) : ∀ (ts : List Int) (one two : Int) (fd : List Int) (a b : D), 0 <= two -> two < 2000000000 -> fd.length + ts.length <= 1000 -> ∃ (one' two' : Int) (fd' : List Int) (a' b' : D), fd'.length = fd.length + ts.length /\
 forL (asgT lk (.name 6)) (exs ⟨lk, fok, fuel⟩ [.asg 7 (.bin .Add (.bin .Add (.bin .Add (.bin .Mult (.v 3) (.k (.int 1664525))) (.bin .Mult (.v 4) (.v 4))) (.bin .Mult (.k (.int 97)) (.v 6))) (.k (.int 40503))), .asg 3 (.v 4), .asg 4 (.bin .Mod (.v 7) (.k (.int 1999999973))), .ex (.mut .append 5 [] [.v 4])]) (dI ts) [x0, x1, x2, I one, I two, Ls true fd, a, b, x8]
  = .ok (.nx, [x0, x1, x2, I one', I two', Ls true fd', a', b', x8]) := by
 intro ts
 induction ts with
 | nil => exact fun one two fd a b _ _ _ => ⟨one, two, fd, a, b, rfl, rfl⟩
 | cons t ts ih =>
  intro one two fd a b t0 t1 hl
  rw [List.length_cons] at hl
  have q0 := Int.emod_nonneg (one * 1664525 + two * two + 97 * t + 40503) (show (1999999973 : Int) ≠ 0 by decide)
  have q1 := Int.emod_lt_of_pos (one * 1664525 + two * two + 97 * t + 40503) (show (0 : Int) < 1999999973 by decide)
  obtain ⟨one', two', fd', a', b', e, ih⟩ := ih two ((one * 1664525 + two * two + 97 * t + 40503) % 1999999973) (fd ++ [(one * 1664525 + two * two + 97 * t + 40503) % 1999999973]) (I t) (I (one * 1664525 + two * two + 97 * t + 40503)) q0 (by omega) (by rw [List.length_append, List.length_singleton]; omega)
  refine ⟨one', two', fd', a', b', by rw [e, List.length_append, List.length_singleton, List.length_cons]; omega, ?_⟩
  have m1 : binW .Mult (.sc (.int one)) (.sc (.int 1664525)) = some (.sc (.int (one * 1664525))) := ZdR _ _ (.inr (by decide))
  have m2 : binW .Mult (.sc (.int two)) (.sc (.int two)) = some (.sc (.int (two * two))) := ZdR _ _ (.inr (by omega))
  have m3 : binW .Mult (.sc (.int 97)) (.sc (.int t)) = some (.sc (.int (97 * t))) := ZdR _ _ (.inl (by decide))
  have m4 : ∀ u : Int, binW .Mod (.sc (.int u)) (.sc (.int 1999999973)) = some (.sc (.int (u % 1999999973))) := fun u => Za1 _ _ (by decide)
  generalize hw : one * 1664525 + two * two + 97 * t + 40503 = w at ih
  have ap : ∀ δ : List D, mdR 5 δ (appD (.sc (.int (w % 1999999973)))) (some (.node .lst true (dI fd))) = .ok (.sc .non, δ.set 5 (.node .lst true (dI (fd ++ [w % 1999999973])))) := fun δ => by
   rw [Zba 5 δ _ _ (by rw [ZfC, szl]; omega), Znd]
   rfl
  rw [<- ih, ZaV, ZO]
  simp_all [h3, h4, h5, h6, h7, m1, m2, m3, m4, hw, ap]
theorem Zj2 (h2 : lk 2 = false) (h5 : lk 5 = false) (h8 : lk 8 = false) (x0 x1 x3 x4 x6 x7 : D) : ∀ (n j : Nat) (rest : Int) (fd : List Int) (a : D), j + n <= fd.length -> ∃ (rest' : Int) (fd' : List Int) (a' : D), fd'.length = fd.length /\
 forL (asgT lk (.name 8)) (exs ⟨lk, fok, fuel⟩ [.iff (.cmp .Gt (.v 2) (.k (.int 0))) [.sub 5 [] (.v 8) (.bin .Mod (.v 2) (.k (.int 1999999973))), .asg 2 (.bin .FloorDiv (.v 2) (.k (.int 1999999973)))] []]) (dI (rngI j n)) [x0, x1, I rest, x3, x4, Ls true fd, x6, x7, a]
  = .ok (.nx, [x0, x1, I rest', x3, x4, Ls true fd', x6, x7, a']) := by
 intro n
 induction n with
 | zero => exact fun j rest fd a _ => ⟨rest, fd, a, rfl, rfl⟩
 | succ n ih =>
  intro j rest fd a hj
  have ej : ((j + 1 : Nat) : Int) = (j : Int) + 1 := by omega
  by_cases hr : 0 < rest
  . obtain ⟨rest', fd', a', e, ih⟩ := ih (j + 1) (rest / 1999999973) (fd.set j (rest % 1999999973)) (I j) (by rw [List.length_set]; omega)
    refine ⟨rest', fd', a', by rw [e, List.length_set], ?_⟩
    have m4 : ∀ u : Int, binW .Mod (.sc (.int u)) (.sc (.int 1999999973)) = some (.sc (.int (u % 1999999973))) := fun u => Za1 _ _ (by decide)
    have m5 : ∀ u : Int, binW .FloorDiv (.sc (.int u)) (.sc (.int 1999999973)) = some (.sc (.int (u / 1999999973))) := fun u => Zb2 _ _ (by decide)
    have st : ∀ (δ : List D) (v : Int), mdR 5 δ (Zb1 (.sc (.int (j : Int))) (.sc (.int v))) (some (.node .lst true (dI fd))) = .ok (.sc .non, δ.set 5 (.node .lst true (dI (fd.set j v)))) := fun δ v => by
     rw [Znc 5 δ _ (dI fd) (j : Int) j (ZaU _ _ (by rw [ZfC]; omega))]
     congr 4
     exact List.map_set.symm
    rw [ej] at ih
    rw [<- ih, rngI, ZaV, ZO]
    simp_all [h2, h5, h8, hr, m4, m5, st]
  . obtain ⟨rest', fd', a', e, ih⟩ := ih (j + 1) rest fd (I j) (by omega)
    refine ⟨rest', fd', a', e, ?_⟩
    rw [ej] at ih
    rw [<- ih, rngI, ZaV, ZO]
    simp_all [h2, h5, h8, hr]
theorem ZdZ (c : Int) (m : Nat) (hm : m <= 100) : ∃ ys : List Int, ys.length = m /\ ZF.run [I c, I m] = .ok (Ls true ys, [I c, I m]) := by
 have d1 : ∀ u : Int, binW .FloorDiv (.sc (.int u)) (.sc (.int 2)) = some (.sc (.int (u / 2))) := fun u => Zb2 _ _ (by decide)
 have d2 : ∀ u : Int, binW .Mod (.sc (.int u)) (.sc (.int 1999999973)) = some (.sc (.int (u % 1999999973))) := fun u => Za1 _ _ (by decide)
 have d3 : ∀ u : Int, binW .FloorDiv (.sc (.int u)) (.sc (.int 1999999973)) = some (.sc (.int (u / 1999999973))) := fun u => Zb2 _ _ (by decide)
 have d4 : ∀ u : Int, binW .Mod (.sc (.int u)) (.sc (.int 1999999943)) = some (.sc (.int (u % 1999999943))) := fun u => Za1 _ _ (by decide)
 have d5 : ∀ u : Int, binW .Mod (.sc (.int u)) (.sc (.int 2)) = some (.sc (.int (u % 2))) := fun u => Za1 _ _ (by decide)
 have q0 := Int.emod_nonneg (c / 2 / 1999999973) (show (1999999943 : Int) ≠ 0 by decide)
 have q1 := Int.emod_lt_of_pos (c / 2 / 1999999973) (show (0 : Int) < 1999999943 by decide)
 obtain ⟨one, two, fd, a, b, e1, hf⟩ := Zhs (fun j => decide (j < 2) || walked [.bin .Add (.v 1) (.k (.int 2))] j) (fun _ _ => false) 0 rfl rfl rfl rfl rfl (I c) (I m) (I (c / 2)) .hole (rngI 0 (m + 2)) (c / 2 % 1999999973) (c / 2 / 1999999973 % 1999999943) [] .hole .hole q0 (by omega) (by rw [ZfF, List.length_nil]; omega)
 rw [ZfF, List.length_nil, Nat.zero_add] at e1
 simp only [walked, Bool.or_false, Ls, ZfB] at hf
 have hit : itW .rng1 [.sc (.int ((m : Int) + 2))] = some (dI (rngI 0 (m + 2))) := by
  have := ZdS ((m : Int) + 2) (by omega)
  rwa [show ((m : Int) + 2).toNat = m + 2 by omega] at this
 have hit2 : itW .rng1 [.sc (.int (m : Int))] = some (dI (rngI 0 m)) := by
  have := ZdS (m : Int) (by omega)
  rwa [Int.toNat_natCast] at this
 have hcc : cutI fd (some 2) none = fd.drop 2 := by
  have e2 := HT.Zks fd.length 0 2
  rw [show ((2 : Nat) : Int) = 2 from rfl] at e2
  have e3 : HT.sIx fd.length fd.length none = fd.length := rfl
  unfold cutI
  rw [e2, e3, Nat.min_eq_left (by omega)]
  exact List.take_of_length_le (by rw [List.length_drop]; omega)
 have hc : cutD (dI fd) (some 2) none = dI (fd.drop 2) := by rw [ZfD, hcc]
 have hdl : (fd.drop 2).length = m := by rw [List.length_drop]; omega
 generalize fd.drop 2 = gd at hc hdl
 obtain ⟨rest, hd, a8, e3, hg⟩ := Zj2 (fun j => decide (j < 2) || walked [.v 1] j) (fun _ _ => false) 0 rfl rfl rfl (I c) (I m) (I one) (I two) a b m 0 (c / 2) gd .hole (by omega)
 rw [show ((0 : Nat) : Int) = 0 from rfl] at hg
 simp only [walked, Bool.or_false] at hg
 have hn0 : newL [] = some (.node .lst true []) := Zay _ (by simp)
 by_cases h2 : c % 2 = 0
 . refine ⟨gd, hdl, ?_⟩
   rw [show ZF.run = Zs C0 2 9 ZX from rfl]
   rw [runA (show [I c, I m].length = 2 from rfl)]
   unfold ZX
   simp only [List.replicate, Nat.reduceSub]
   (simp_all [d1, d2, d3, d4, d5, hn0, hit, hf, hc, Za4, h2, V.int.injEq]) <;> rfl
 . refine ⟨hd, by omega, ?_⟩
   rw [show ZF.run = Zs C0 2 9 ZX from rfl]
   rw [runA (show [I c, I m].length = 2 from rfl)]
   unfold ZX
   simp only [List.replicate, Nat.reduceSub]
   (simp_all [d1, d2, d3, d4, d5, hn0, hit, hit2, hf, hc, hg, Za4, h2, V.int.injEq]) <;> rfl
theorem Zd9 (ns : List Int) (k : Nat) : ∃ c : Int, ZM.run [scr ns, I k] = .ok (I c, [scr ns, I k]) := by
 have hc : cutD (ns.map fun i => D.sc (.int i)) (some (k : Int)) (some ((k : Int) + 1)) = dI (cutI ns (some (k : Int)) (some ((k : Int) + 1))) := ZfD ns _ _
 generalize cutI ns (some (k : Int)) (some ((k : Int) + 1)) = cs at hc
 have sm := Zjo cs
 refine ⟨cs.sum, ?_⟩
 walk_at "r"
 (simp_all [hc, sm, scr]) <;> rfl
inductive Cel where
 | sg (c : Nat) | no (k : Nat) | lk (k : Nat) | sh (k : Nat)
noncomputable def cwV : Cel -> List D
 | .sg c => [S' "sign", S' ⟨#[c]⟩]
 | .no k => [S' "nothing", I k]
 | .lk k => [S' "lock", I k]
 | .sh k => [S' "shift", I k]
noncomputable def cwW : Cel -> Str
 | .sg c => ⟨#[c]⟩
 | .no _ => ⟨#[45]⟩
 | .lk k => lkw k
 | .sh k => shw k
def ZaN (n : Nat) : Cel -> Prop
 | .sg c => c ∈ sgn
 | .no _ => True
 | .lk k => k < n
 | .sh k => k < n
noncomputable abbrev cwD (o : Bool) (c : Cel) : D := .node .tup o (cwV c)
noncomputable abbrev CR (o : Bool) (r : List Cel) : D := .node .lst o (r.map (cwD false))
noncomputable abbrev CL (o b : Bool) (cs : List (List Cel)) : D := .node .lst o (cs.map (CR b))
structure TOk (p n : Nat) (cs : List (List Cel)) : Prop where
 hp : p ∈ primes
 n1 : 1 <= n
 n4 : n <= 4
 len : cs.length = n
 all : ∀ r ∈ cs, r.length = p /\ ∀ c ∈ r, ZaN n c
noncomputable def wrs (cs : List (List Cel)) : List (List Str) := cs.map (List.map cwW)
theorem Zdt {n : Nat} {c : Cel} (h : ZaN n c) : cwW c ∈ wds n := by
 unfold wds
 cases c with
 | sg c => exact List.mem_cons_of_mem _ (List.mem_append_left _ (List.mem_map.mpr ⟨c, h, rfl⟩))
 | no k => exact List.mem_cons_self
 | lk k => exact List.mem_cons_of_mem _ (List.mem_append_right _ (List.mem_flatMap.mpr ⟨k, List.mem_range.mpr h, by simp [cwW]⟩))
 | sh k => exact List.mem_cons_of_mem _ (List.mem_append_right _ (List.mem_flatMap.mpr ⟨k, List.mem_range.mpr h, by simp [cwW]⟩))
theorem TOk.rows {p n : Nat} {cs : List (List Cel)} (h : TOk p n cs) : Zcn p n (wrs cs) := fun r hr => by
 obtain ⟨q, hq, rfl⟩ := List.mem_map.mp hr
 obtain ⟨h1, h2⟩ := h.all q hq
 refine ⟨by rw [List.length_map]; exact h1, fun w hw => ?_⟩
 obtain ⟨c, hc, rfl⟩ := List.mem_map.mp hw
 exact Zdt (h2 c hc)
theorem TOk.wlen {p n : Nat} {cs : List (List Cel)} (h : TOk p n cs) : (wrs cs).length = n := by unfold wrs; rw [List.length_map]; exact h.len
theorem Zi3 (c : Cel) : shrL (cwV c) = cwV c := by cases c <;> rfl
theorem Zeo (o : Bool) (r : List Cel) : shrL (r.map (cwD o)) = r.map (cwD false) := by
 induction r with
 | nil => rfl
 | cons c r ih =>
  rw [List.map_cons, shrL, ih, List.map_cons]
  congr 1
  show D.node .tup false (shrL (cwV c)) = _
  rw [Zi3]
theorem Zav (b : Bool) (cs : List (List Cel)) : shrL (cs.map (CR b)) = cs.map (CR false) := by
 induction cs with
 | nil => rfl
 | cons r cs ih =>
  rw [List.map_cons, shrL, ih, List.map_cons]
  congr 1
  show D.node .lst false (shrL (r.map (cwD false))) = _
  rw [Zeo]
theorem Zht (a b c : D) : newL [a, b, c] = some (.node .lst true [a, b, c]) := Zay _ (by rw [szl]; simp)
theorem ix30 (a b c : D) : ((ixN' 3 0).bind fun j => [a, b, c][j]?) = some a := rfl
theorem ix31 (a b c : D) : ((ixN' 3 1).bind fun j => [a, b, c][j]?) = some b := rfl
theorem ix32 (a b c : D) : ((ixN' 3 2).bind fun j => [a, b, c][j]?) = some c := rfl
theorem Zbo (a : Int) (n : Nat) (h : 1 <= n) : ∃ k : Nat, k < n /\ a % (n : Int) = k := ⟨(a % (n : Int)).toNat, by have := Int.emod_lt_of_pos a (show (0 : Int) < n by omega); have := Int.emod_nonneg a (show (n : Int) ≠ 0 by omega); omega, by have := Int.emod_nonneg a (show (n : Int) ≠ 0 by omega); omega⟩
theorem Zfk (z : Str) (j : Nat) (hz : z.length <= 36) (hj : j < z.cps.toList.length) : ixW2 (.sc (.str z)) (.sc (.int (j : Int))) = some (S' ⟨#[z.cps.toList[j]]⟩) := by
 show (if z.length <= sizeLine then _ else _) = _
 rw [if_pos (by rw [szl]; omega), ZaU _ _ hj]
 show ((z.cps.toList[j]?).map _) = _
 rw [List.getElem?_eq_getElem hj]
 rfl
noncomputable abbrev crL : List D -> M Fl := forL (asgT lk (.name 9)) (exs ⟨lk, fok, fuel⟩ [.iff (.cmp .Lt (.bin .Mod (.v 9) (.k (.int 8))) (.k (.int 5))) [.ex (.mut .append 8 [] [.tup [.k (.str "sign"), .ix (.v 4) (.bin .Mod (.bin .FloorDiv (.v 9) (.k (.int 8))) (.bf .len [.v 4]))]])] [.ex (.mut .append 8 [] [.tup [.ix (.lst [.k (.str "lock"), .k (.str "shift"), .k (.str "nothing")]) (.bin .Sub (.bin .Mod (.v 9) (.k (.int 8))) (.k (.int 5))), .bin .Mod (.bin .FloorDiv (.v 9) (.k (.int 8))) (.v 3)]])]])
theorem Zi4 (h8 : lk 8 = false) (h9 : lk 9 = false) (x0 x1 x2 x5 x6 x7 : D) (n : Nat) (z : Str) (hz : ZfQ z) (h1 : 1 <= n) (h4 : n <= 4) : ∀ (xs : List Int) (r : List Cel) (a : D), (∀ c ∈ r, ZaN n c) -> r.length + xs.length <= 100 -> ∃ (r' : List Cel) (a' : D), r'.length = r.length + xs.length /\ (∀ c ∈ r', ZaN n c) /\
 crL lk fok fuel (dI xs) [x0, x1, x2, I n, S' z, x5, x6, x7, .node .lst true (r.map (cwD true)), a]
  = .ok (.nx, [x0, x1, x2, I n, S' z, x5, x6, x7, .node .lst true (r'.map (cwD true)), a']) := by
 obtain ⟨hz1, hz2, hz3⟩ := hz
 have hlen : z.length = z.cps.toList.length := rfl
 have hpos : 0 < z.cps.toList.length := List.length_pos_iff.mpr hz1
 have hl : bfW .len [.sc (.str z)] = some (.sc (.int (z.length : Int))) := if_pos (by rw [szl]; omega)
 have e1 : ∀ a : Int, binW .Mod (.sc (.int a)) (.sc (.int 8)) = some (.sc (.int (a % 8))) := fun a => Za1 _ _ (by decide)
 have e2 : ∀ a : Int, binW .FloorDiv (.sc (.int a)) (.sc (.int 8)) = some (.sc (.int (a / 8))) := fun a => Zb2 _ _ (by decide)
 have e3 : ∀ a : Int, binW .Mod (.sc (.int a)) (.sc (.int (n : Int))) = some (.sc (.int (a % n))) := fun a => Za1 _ _ (by omega)
 have e4 : ∀ a : Int, binW .Mod (.sc (.int a)) (.sc (.int (z.length : Int))) = some (.sc (.int (a % z.length))) := fun a => Za1 _ _ (by omega)
 intro xs
 induction xs with
 | nil => exact fun r a h _ => ⟨r, a, rfl, h, rfl⟩
 | cons x xs ih =>
  intro r a h hn
  rw [List.length_cons] at hn
  have step : ∃ c : Cel, ZaN n c /\ ∀ ds, ds = dI xs -> crL lk fok fuel (.sc (.int x) :: ds) [x0, x1, x2, I n, S' z, x5, x6, x7, .node .lst true (r.map (cwD true)), a] = crL lk fok fuel ds [x0, x1, x2, I n, S' z, x5, x6, x7, .node .lst true ((r ++ [c]).map (cwD true)), I x] := by
   have hzz : (r.map (cwD true)).length < sizeLine := by rw [List.length_map, szl]; omega
   have ha := fun (δ : List D) (d : D) => Zba 8 δ d (r.map (cwD true)) hzz
   have q0 := Int.emod_nonneg x (show (8 : Int) ≠ 0 by decide)
   have q1 := Int.emod_lt_of_pos x (show (0 : Int) < 8 by decide)
   obtain ⟨k, hk1, hk2⟩ := Zbo (x / 8) n h1
   by_cases c1 : x % 8 < 5
   . obtain ⟨j, hj1, hj2⟩ := Zbo (x / 8) z.length (by omega)
     replace hj1 : j < z.cps.toList.length := hj1
     have hx := Zfk z j hz2 hj1
     refine ⟨.sg z.cps.toList[j], hz3 _ (List.getElem_mem hj1), fun ds _ => ?_⟩
     rw [List.map_append, crL, ZO]
     (simp_all [h8, h9, e1, e2, e4, hl, hj2, hx, c1, Zv, ha, cwD, cwV])
   . have : x % 8 - 5 = 0 \/ x % 8 - 5 = 1 \/ x % 8 - 5 = 2 := by omega
     rcases this with c2 | c2 | c2
     . refine ⟨.lk k, hk1, fun ds _ => ?_⟩
       rw [List.map_append, crL, ZO]
       (simp_all [h8, h9, e1, e2, e3, c1, c2, Zht, ix30, hk2, Zv, ha, cwD, cwV])
     . refine ⟨.sh k, hk1, fun ds _ => ?_⟩
       rw [List.map_append, crL, ZO]
       (simp_all [h8, h9, e1, e2, e3, c1, c2, Zht, ix31, hk2, Zv, ha, cwD, cwV])
     . refine ⟨.no k, trivial, fun ds _ => ?_⟩
       rw [List.map_append, crL, ZO]
       (simp_all [h8, h9, e1, e2, e3, c1, c2, Zht, ix32, hk2, Zv, ha, cwD, cwV])
  obtain ⟨c, hc, step⟩ := step
  obtain ⟨r', a', g1, g2, ih⟩ := ih (r ++ [c]) (I x) (fun y hy => by
   rcases List.mem_append.mp hy with q | q
   . exact h y q
   . rw [List.mem_singleton.mp q]; exact hc) (by rw [List.length_append, List.length_singleton]; omega)
  refine ⟨r', a', by rw [g1, List.length_append, List.length_singleton, List.length_cons]; omega, g2, ?_⟩
  rw [ZaV, step _ rfl]
  exact ih
theorem Zhu (h5 : lk 5 = false) (h6 : lk 6 = false) (h7 : lk 7 = false) (h8 : lk 8 = false) (h9 : lk 9 = false) (ns : List Int) (st p n : Nat) (z : Str) (hp : p <= 47) (hz : ZfQ z) (h1 : 1 <= n) (h4 : n <= 4) : ∀ (m i : Nat) (cs : List (List Cel)) (a b c d : D), (∀ r ∈ cs, r.length = p /\ ∀ c ∈ r, ZaN n c) -> cs.length + m <= 4 -> ∃ (cs' : List (List Cel)) (a' b' c' d' : D), cs'.length = cs.length + m /\ (∀ r ∈ cs', r.length = p /\ ∀ c ∈ r, ZaN n c) /\
 forL (asgT lk (.name 6)) (exs ⟨lk, fok, fuel⟩ (bdy (Zat.getD 3 .pass))) (dI (rngI i m)) [scr ns, I st, I p, I n, S' z, CL true false cs, a, b, c, d] = .ok (.nx, [scr ns, I st, I p, I n, S' z, CL true false cs', a', b', c', d']) := by
 intro m
 induction m with
 | zero => exact fun i cs a b c d h _ => ⟨cs, a, b, c, d, rfl, h, rfl⟩
 | succ m ih =>
  intro i cs a b c d h hl
  obtain ⟨cc, hc⟩ := Zd9 ns (st + 1 + i)
  rw [show ((st + 1 + i : Nat) : Int) = (st : Int) + 1 + (i : Int) by omega] at hc
  obtain ⟨xs, hxl, hs⟩ := ZdZ cc p (by omega)
  obtain ⟨r, a9, hr1, hr2, hr⟩ := Zi4 (fun j => lk j || walked [.v 7] j) fok fuel (by simp [walked, h8]) (by simp [walked, h9]) (scr ns) (I st) (I p) (CL true false cs) (I i) .hole n z hz h1 h4 xs [] d (fun w hw => by simp at hw) (by rw [hxl, List.length_nil]; omega)
  rw [List.length_nil, Nat.zero_add, hxl] at hr1
  obtain ⟨cs', a', b', c', d', g1, g2, ih⟩ := ih (i + 1) (cs ++ [r]) (I i) (Ls true xs) (CR false r) a9 (fun q hq => by
   rcases List.mem_append.mp hq with k | k
   . exact h q k
   . rw [List.mem_singleton.mp k]; exact ⟨hr1, hr2⟩) (by rw [List.length_append, List.length_singleton]; omega)
  refine ⟨cs', a', b', c', d', by rw [g1, List.length_append, List.length_singleton]; omega, g2, ?_⟩
  have e1 : ((i + 1 : Nat) : Int) = (i : Int) + 1 := by omega
  rw [e1] at ih
  rw [<- ih, rngI, ZaV, ZO]
  simp only [Zat, bdy, gd1, gd0]
  simp only [walked, Bool.or_false, crL, List.map_nil] at hr
  have k1 : ZM.lend = true := rfl
  have k2 : ZF.lend = true := rfl
  have hzz : (cs.map (CR false)).length < sizeLine := by rw [List.length_map, szl]; omega
  have ha := fun (δ : List D) (d : D) => Zba 5 δ d (cs.map (CR false)) hzz
  have e2 : cs.map (CR false) ++ [CR false r] = (cs ++ [r]).map (CR false) := by rw [List.map_append]; rfl
  have hi1 : ∀ ds : List D, itW .val [.nd .lst ds] = some ds := fun _ => rfl
  simp only [scr] at hc hr
  simp_all [h5, h6, h7, h8, h9, k1, k2, hc, hs, hi1, Zdq, hr, ha, e2, Za4, Zeo]
noncomputable def pools : List Str := ["a", "ab", "abc7", "abcdefghijklmnopqrstuvwxyz0123456789"]
theorem Zj3 : ∀ k ∈ List.range 4, (pools.getD k Str.empty).cps.toList ≠ [] /\ (pools.getD k Str.empty).length <= 36 /\ ∀ c ∈ (pools.getD k Str.empty).cps.toList, c ∈ sgn := by walk_at "d"
theorem ZeB (ns : List Int) (st p : Nat) (hp : p ∈ primes) : ∃ n cs, TOk p n cs /\ Za6.run [scr ns, I st, I p] = .ok (CL true false cs, [scr ns, I st, I p]) := by
 obtain ⟨cc, hc⟩ := Zd9 ns st
 obtain ⟨k, hk1, hk2⟩ := Zbo cc 4 (by decide)
 obtain ⟨j, hj1, hj2⟩ := Zbo (cc / 4) 4 (by decide)
 have hz : ZfQ (pools.getD j Str.empty) := Zj3 j (List.mem_range.mpr hj1)
 have hx := ixT pools j hj1
 generalize pools.getD j Str.empty = z at hz hx
 obtain ⟨cs, a, b, c, d, g1, g2, hf⟩ := Zhu (fun j => (fun i => decide (i < 3)) j || walked [.v 3] j) (fun _ _ => false) 0 rfl rfl rfl rfl rfl ns st p (1 + k) z (ZZ p hp).2 hz (by omega) (by omega) (1 + k) 0 [] .hole .hole .hole .hole (fun r hr => by simp at hr) (by rw [List.length_nil]; omega)
 rw [List.length_nil, Nat.zero_add] at g1
 refine ⟨1 + k, cs, ⟨hp, by omega, by omega, g1, g2⟩, ?_⟩
 rw [show ((0 : Nat) : Int) = 0 from rfl] at hf
 simp only [walked, Bool.or_false, Zat, bdy, gd1, gd0] at hf
 walk_at "r"
 have hk0 : ∀ C : T.Ctx, (evb C (.kl [(.str "a"), (.str "ab"), (.str "abc7"), (.str "abcdefghijklmnopqrstuvwxyz0123456789")])).1 = M.ret (TL true pools) := fun C => by
  show lift (newL (dT pools)) = _
  rw [Zay _ (by rw [Zbv, szl]; decide)]
  rfl
 have e1 : ∀ a : Int, binW .Mod (.sc (.int a)) (.sc (.int 4)) = some (.sc (.int (a % 4))) := fun a => Za1 _ _ (by decide)
 have e2 : ∀ a : Int, binW .FloorDiv (.sc (.int a)) (.sc (.int 4)) = some (.sc (.int (a / 4))) := fun a => Zb2 _ _ (by decide)
 have en : (1 : Int) + (k : Int) = ((1 + k : Nat) : Int) := by omega
 have hit : itW .rng1 [.sc (.int ((1 + k : Nat) : Int))] = some (dI (rngI 0 (1 + k))) := by
  have := ZdS ((1 + k : Nat) : Int) (by omega)
  rwa [Int.toNat_natCast] at this
 have k1 : ZM.lend = true := rfl
 replace hk2 : cc % 4 = (k : Int) := hk2
 replace hj2 : cc / 4 % 4 = (j : Int) := hj2
 simp only [scr] at hc hf
 have e3 : D.node .lst true [] = CL true false [] := rfl
 (simp_all [k1, hc, hk0, e1, e2, hk2, hj2, hx, en, hit, Zdq, e3, hf, Zbu]) <;> rfl
theorem Zlj : (Str.ofString "-") = ⟨#[45]⟩ := by kernel_rfl
theorem ZjY (k : Nat) (h : k < 4) : Str.ofString "lock" ++ Str.ofString (toString (k : Int)) = lkw k /\ Str.ofString "shift" ++ Str.ofString (toString (k : Int)) = shw k := by
 match k, h with
 | 0, _ => exact ⟨by kernel_rfl, by kernel_rfl⟩
 | 1, _ => exact ⟨by kernel_rfl, by kernel_rfl⟩
 | 2, _ => exact ⟨by kernel_rfl, by kernel_rfl⟩
 | 3, _ => exact ⟨by kernel_rfl, by kernel_rfl⟩
noncomputable abbrev wdL : List D -> M Fl := forL (asgT lk (.tup [5, 6])) (exs ⟨lk, fok, fuel⟩ [.iff (.cmp .Eq (.v 5) (.k (.str "sign"))) [.ex (.mut .append 4 [] [.v 6])] [.iff (.cmp .Eq (.v 5) (.k (.str "nothing"))) [.ex (.mut .append 4 [] [.k (.str "-")])] [.ex (.mut .append 4 [] [.bin .Add (.v 5) (.bf .str [.v 6])])]]])
theorem Zlk (h4 : lk 4 = false) (h5 : lk 5 = false) (h6 : lk 6 = false) (x0 x1 x2 x3 : D) (n : Nat) (hn : n <= 4) : ∀ (r : List Cel) (ws : List Str) (a b : D), (∀ c ∈ r, ZaN n c) -> ws.length + r.length <= 100 -> ∃ a' b', wdL lk fok fuel (r.map (cwD false)) [x0, x1, x2, x3, TL true ws, a, b] = .ok (.nx, [x0, x1, x2, x3, TL true (ws ++ r.map cwW), a', b']) := by
 intro r
 induction r with
 | nil => exact fun ws a b _ _ => ⟨a, b, by rw [List.map_nil, List.map_nil, List.append_nil]; rfl⟩
 | cons c r ih =>
  intro ws a b hc hl
  rw [List.length_cons] at hl
  have hz : (dT ws).length < sizeLine := by rw [Zbv, szl]; omega
  have ha := fun (δ : List D) (d : D) => Zba 4 δ d (dT ws) hz
  have e2 : ∀ w, dT ws ++ [S' w] = dT (ws ++ [w]) := fun w => (show dT (ws ++ [w]) = dT ws ++ [S' w] from List.map_append).symm
  obtain ⟨q1, q2, q3, q4, q5, q6⟩ := ss1
  have t1 : ∀ z : Str, decide (V.str z = V.str z) = true := fun z => decide_eq_true rfl
  have hd := Zlj
  have step : ∃ x y, wdL lk fok fuel (cwD false c :: r.map (cwD false)) [x0, x1, x2, x3, TL true ws, a, b] = wdL lk fok fuel (r.map (cwD false)) [x0, x1, x2, x3, TL true (ws ++ [cwW c]), x, y] := by
   have hk := hc c List.mem_cons_self
   generalize r.map (cwD false) = ds
   cases c with
   | sg k =>
    refine ⟨S' "sign", S' ⟨#[k]⟩, ?_⟩
    rw [wdL, ZO]
    simp_all [h4, h5, h6, cwD, cwV, cwW, ZdT, t1, ha, e2]
   | no k =>
    refine ⟨S' "nothing", I k, ?_⟩
    rw [wdL, ZO]
    simp_all [h4, h5, h6, cwD, cwV, cwW, ZdT, t1, q1, hd, ha, e2]
   | lk k =>
    refine ⟨S' "lock", I k, ?_⟩
    have hk : k < 4 := Nat.lt_of_lt_of_le hk hn
    have s1 := ZjS k hk
    have s2 := (ZjT k hk).1
    rw [(ZjY k hk).1] at s2
    rw [wdL, ZO]
    simp_all [h4, h5, h6, cwD, cwV, cwW, ZdT, q2, q4, s1, s2, ha, e2]
   | sh k =>
    refine ⟨S' "shift", I k, ?_⟩
    have hk : k < 4 := Nat.lt_of_lt_of_le hk hn
    have s1 := ZjS k hk
    have s2 := (ZjT k hk).2
    rw [(ZjY k hk).2] at s2
    rw [wdL, ZO]
    simp_all [h4, h5, h6, cwD, cwV, cwW, ZdT, q3, q5, s1, s2, ha, e2]
  obtain ⟨x, y, step⟩ := step
  obtain ⟨a', b', ih⟩ := ih (ws ++ [cwW c]) x y (fun q hq => hc q (List.mem_cons_of_mem _ hq)) (by rw [List.length_append, List.length_singleton]; omega)
  refine ⟨a', b', ?_⟩
  rw [List.append_assoc] at ih
  rw [List.map_cons, step, ih]
  rfl
theorem Zll (h2 : lk 2 = false) (h3 : lk 3 = false) (h4 : lk 4 = false) (h5 : lk 5 = false) (h6 : lk 6 = false) (x0 x1 : D) (p n : Nat) (hn : n ∈ [1, 2, 3, 4]) (hp : p <= 47) : ∀ (cs : List (List Cel)) (ls : List Str) (a b c d : D), (∀ r ∈ cs, r.length = p /\ ∀ c ∈ r, ZaN n c) -> ls.length + cs.length <= 100 -> ∃ a' b' c' d',
 forL (asgT lk (.name 3)) (exs ⟨lk, fok, fuel⟩ (bdy (Za7.getD 1 .pass))) (cs.map (CR false)) [x0, x1, TL true ls, a, b, c, d] = .ok (.nx, [x0, x1, TL true (ls ++ (wrs cs).map line), a', b', c', d']) := by
 intro cs
 induction cs with
 | nil => exact fun ls a b c d _ _ => ⟨a, b, c, d, by rw [show (wrs []).map line = [] from rfl, List.append_nil]; rfl⟩
 | cons r cs ih =>
  intro ls a b c d hj hl
  rw [List.length_cons] at hl
  obtain ⟨hr1, hr2⟩ := hj r List.mem_cons_self
  obtain ⟨c1, d1, hw⟩ := Zlk (fun j => lk j || walked [.v 3] j) fok fuel (by simp [walked, h4]) (by simp [walked, h5]) (by simp [walked, h6]) x0 x1 (TL true ls) (CR false r) n (by simp at hn; omega) r [] c d hr2 (by rw [hr1, List.length_nil]; omega)
  simp only [walked, Bool.or_false, wdL, List.nil_append] at hw
  obtain ⟨a', b', c', d', ih⟩ := ih (ls ++ [line (r.map cwW)]) (CR false r) (TL true (r.map cwW)) c1 d1 (fun q hq => hj q (List.mem_cons_of_mem _ hq)) (by rw [List.length_append, List.length_singleton]; omega)
  refine ⟨a', b', c', d', ?_⟩
  rw [List.append_assoc] at ih
  rw [List.map_cons, show ls ++ (wrs (r :: cs)).map line = ls ++ ([line (r.map cwW)] ++ (wrs cs).map line) from rfl, <- ih, ZO]
  simp only [Za7, bdy, gd1, gd0]
  have hj1 : bmW .join (Str.ofString " ") [.nd .lst (dT (r.map cwW))] = some (S' (line (r.map cwW))) := by
   rw [ZfR]
   exact Ziu _ _ (Zdr hn (fun w hw => by obtain ⟨c, hc, rfl⟩ := List.mem_map.mp hw; exact Zdt (hr2 c hc)) (by rw [List.length_map]; exact hr1) hp).1
  generalize r.map cwW = rw' at hj1 hw
  have hz : (dT ls).length < sizeLine := by rw [Zbv, szl]; omega
  have ha := fun (δ : List D) (d : D) => Zba 2 δ d (dT ls) hz
  have e2 : dT ls ++ [S' (line rw')] = dT (ls ++ [line rw']) := (show dT (ls ++ [line rw']) = dT ls ++ [S' (line rw')] from List.map_append).symm
  have hi : ∀ ds : List D, itW .val [.nd .lst ds] = some ds := fun _ => rfl
  have e3 : D.node .lst true [] = TL true [] := rfl
  simp_all [h2, h3, h4, h5, h6, ZdY, Zdq, e3, hi, hw, hj1, ha, e2, Zbu]
theorem Zc7 {p n : Nat} {cs : List (List Cel)} (h : TOk p n cs) : Z5.run [I p, CL false false cs] = .ok (S' (text p (wrs cs)), [I p, CL false false cs]) := by
 walk_at "r"
 have hpl := ZZ p h.hp
 obtain ⟨a', b', c', d', hf⟩ := Zll (fun j => (fun i => decide (i < 2)) j || walked [.v 1] j) (fun _ _ => false) 0 rfl rfl rfl rfl rfl (I p) (CL false false cs) p n (n14 h.n1 h.n4) hpl.2 cs [first p] .hole .hole .hole .hole h.all (by rw [List.length_singleton, h.len]; have := h.n4; omega)
 rw [show [first p] ++ (wrs cs).map line = lines p (wrs cs) from rfl] at hf
 simp only [walked, Bool.or_false, Za7, bdy, gd1, gd0] at hf
 have s1 := ZpT p h.hp
 have s2 := ZpU p h.hp
 have hi : ∀ ds : List D, itW .val [.nd .lst ds] = some ds := fun _ => rfl
 have e1 : D.node .lst true [S' (first p)] = TL true [first p] := rfl
 have hj : bmW .join (Str.ofString "\n") [.nd .lst (dT (lines p (wrs cs)))] = some (S' (text p (wrs cs))) := by
  rw [ZdX]
  exact Ziu _ _ (ZgK h.hp h.n1 h.n4 h.wlen h.rows).1
 (simp_all [Zbu, s1, s2, ZbW, e1, hi, hf, ZdY, hj]) <;> rfl
noncomputable def cel (cs : List (List Cel)) (i : Nat) (a : Option Nat) (x : Nat) : Cel := (cs.getD (a.getD i) []).getD x (.no 0)
noncomputable def mvS : Option ((Nat × Option Nat) × Str) -> P × Str
 | none => (none, Str.empty)
 | some (q, s) => (some q, s)
noncomputable def mv (cs : List (List Cel)) (p : Nat) : Stf
 | none, _ => (none, Str.empty)
 | some (i, a), x => if x < p then mvS (stp (cwW (cel cs i a x)) i a) else (none, Str.empty)
noncomputable def plT (o : Bool) : P -> D
 | none => .sc .non
 | some (i, a) => .node .tup o [I i, optD a]
def POk (n : Nat) : P -> Prop
 | none => True
 | some (i, a) => i < n /\ ∀ j, a = some j -> j < n
theorem Zlm (a : Option Nat) : shr (optD a) = optD a := by cases a <;> rfl
theorem ZfV (o : Bool) (q : P) : shr (plT o q) = plT false q := by
 match q with
 | none => rfl
 | some (i, a) =>
  show D.node .tup false [I i, shr (optD a)] = _
  rw [Zlm]
  rfl
theorem ixG {α : Type} (g : α -> D) (l : List α) (d : α) (k : Nat) (h : k < l.length) : ((ixN' (l.map g).length (k : Int)).bind fun j => (l.map g)[j]?) = some (g (l.getD k d)) := by
 rw [List.length_map, ZaU _ _ h]
 show (l.map g)[k]? = _
 rw [List.getElem?_map, List.getD_eq_getElem?_getD, List.getElem?_eq_getElem h]
 rfl
theorem Zaa {α : Type} (l : List α) (d : α) (k : Nat) (h : k < l.length) : l.getD k d ∈ l := by
 rw [List.getD_eq_getElem?_getD, List.getElem?_eq_getElem h]
 exact List.getElem_mem h
theorem TOk.cel {p n : Nat} {cs : List (List Cel)} (h : TOk p n cs) {i : Nat} {a : Option Nat} {x : Nat} (hi : i < n) (ha : ∀ j, a = some j -> j < n) (hx : x < p) : a.getD i < cs.length /\ (cs.getD (a.getD i) []).length = p /\ ZaN n (cel cs i a x) := by
 have hm : a.getD i < cs.length := by
  rw [h.len]
  cases a with
  | none => exact hi
  | some j => exact ha j rfl
 have hr := h.all _ (Zaa cs [] _ hm)
 exact ⟨hm, hr.1, hr.2 _ (Zaa _ _ _ (by rw [hr.1]; exact hx))⟩
theorem ZaF : (true == false) = false := rfl
theorem Zqe : decide (V.str "nothing" = V.str "lock") = false := by walk_at "d"
theorem Zqf : decide (V.str "nothing" = V.str "shift") = false := by walk_at "d"
theorem ZcV {p n : Nat} {cs : List (List Cel)} (h : TOk p n cs) (o : Bool) (q : P) (x : Nat) (hq : POk n q) : ∃ o1 o2, ZD.run [CL false false cs, plT o q, I x] = .ok (.node .tup true [plT o1 (mv cs p q x).1, S' (mv cs p q x).2], [CL false false cs, plT o2 q, I x]) := by
 have z0 := st0
 obtain ⟨q1, q2, q3, q4, q5, q6⟩ := ss1
 have t1 : ∀ z : Str, decide (V.str z = V.str z) = true := fun z => decide_eq_true rfl
 have bf := ZaF
 match q, hq with
 | none, _ =>
  refine ⟨true, o, ?_⟩
  walk_at "r"
  (simp_all [plT, Z7, Zv, z0]) <;> rfl
 | some (i, a), ⟨hi, ha⟩ =>
  have x0 := ixG (CR false) cs [] 0 (by rw [h.len]; exact h.n1)
  have hr0 := (h.all _ (Zaa cs [] 0 (by rw [h.len]; exact h.n1))).1
  have hlen : (((cs.getD 0 []).map (cwD false)).length : Int) = (p : Int) := by rw [List.length_map, hr0]
  generalize cs.getD 0 [] = r0 at x0 hlen
  rw [show ((0 : Nat) : Int) = 0 from rfl] at x0
  have v1 : ∀ b0 b2 b3 b4 b5 b6 : D, vwR 1 [b0, .node .tup o [I i, optD a], b2, b3, b4, b5, b6] (some (.node .tup o [I i, optD a])) = .ok (.nd .tup [I i, optD a], [b0, .node .tup o [I i, optD a], b2, b3, b4, b5, b6]) := fun b0 b2 b3 b4 b5 b6 => by cases o <;> cases a <;> rfl
  have v2 : ∀ b0 b2 b3 b4 b5 b6 : D, vlR 1 [b0, .node .tup o [I i, optD a], b2, b3, b4, b5, b6] (some (.node .tup o [I i, optD a])) = .ok (.node .tup false [I i, optD a], [b0, .node .tup false [I i, optD a], b2, b3, b4, b5, b6]) := fun b0 b2 b3 b4 b5 b6 => by cases o <;> cases a <;> rfl
  by_cases hx : x < p
  . have c0 : ¬ (p : Int) <= (x : Int) := by omega
    obtain ⟨hm, hr, hc⟩ := h.cel hi ha hx
    have x1 := ixG (CR false) cs [] _ hm
    have x2 := ixG (cwD false) (cs.getD (a.getD i) []) (.no 0) x (by rw [hr]; exact hx)
    replace x2 : _ = some (cwD false (cel cs i a x)) := x2
    have e : mv cs p (some (i, a)) x = mvS (stp (cwW (cel cs i a x)) i a) := if_pos hx
    rw [e]
    generalize cs.getD (a.getD i) [] = r at x1 x2
    generalize cel cs i a x = c at x2 hc
    have n4 := h.n4
    unfold stp
    cases a with
    | none =>
     rw [show (Option.none : Option Nat).getD i = i from rfl] at x1
     simp only [optD] at v1 v2
     cases c with
     | sg k =>
      refine ⟨false, false, ?_⟩
      walk_at "r"
      (simp_all [plT, v1, v2, ZU, Z7, bf, x0, hlen, c0, optD, x1, x2, cwD, cwV, t1, Zv, z0]) <;> (rw [show cwW (.sg k) = ⟨#[k]⟩ from rfl, (Zc3 hc).1]; rfl)
     | no k =>
      refine ⟨true, o, ?_⟩
      walk_at "r"
      (simp_all [plT, v1, v2, ZU, Z7, bf, x0, hlen, c0, optD, x1, x2, cwD, cwV, q1, Zqe, Zqf, Zv, z0]) <;> (rw [show cwW (.no k) = ⟨#[45]⟩ from rfl, Zc4.1]; rfl)
     | lk k =>
      refine ⟨true, o, ?_⟩
      walk_at "r"
      (simp_all [plT, v1, v2, ZU, Z7, bf, x0, hlen, c0, optD, x1, x2, cwD, cwV, t1, q2, Zv, z0]) <;> (rw [show cwW (.lk k) = lkw k from rfl, (Zc5 k (Nat.lt_of_lt_of_le hc n4)).1]; rfl)
     | sh k =>
      refine ⟨true, o, ?_⟩
      walk_at "r"
      (simp_all [plT, v1, v2, ZU, Z7, bf, x0, hlen, c0, optD, x1, x2, cwD, cwV, t1, q3, q6, Zv, z0]) <;> (rw [show cwW (.sh k) = shw k from rfl, (Zc6 k (Nat.lt_of_lt_of_le hc n4)).1]; rfl)
    | some j =>
     rw [show (some j).getD i = j from rfl] at x1
     simp only [optD] at v1 v2
     cases c with
     | sg k =>
      refine ⟨true, o, ?_⟩
      walk_at "r"
      (simp_all [plT, v1, v2, ZU, ZP, bf, x0, hlen, c0, optD, x1, x2, cwD, cwV, t1, Zv, z0]) <;> (rw [show cwW (.sg k) = ⟨#[k]⟩ from rfl, (Zc3 hc).1]; rfl)
     | no k =>
      refine ⟨true, o, ?_⟩
      walk_at "r"
      (simp_all [plT, v1, v2, ZU, ZP, bf, x0, hlen, c0, optD, x1, x2, cwD, cwV, q1, Zv, z0]) <;> (rw [show cwW (.no k) = ⟨#[45]⟩ from rfl, Zc4.1]; rfl)
     | lk k =>
      refine ⟨true, o, ?_⟩
      walk_at "r"
      (simp_all [plT, v1, v2, ZU, ZP, bf, x0, hlen, c0, optD, x1, x2, cwD, cwV, q2, Zv, z0]) <;> (rw [show cwW (.lk k) = lkw k from rfl, (Zc5 k (Nat.lt_of_lt_of_le hc n4)).1]; rfl)
     | sh k =>
      refine ⟨true, o, ?_⟩
      walk_at "r"
      (simp_all [plT, v1, v2, ZU, ZP, bf, x0, hlen, c0, optD, x1, x2, cwD, cwV, q3, Zv, z0]) <;> (rw [show cwW (.sh k) = shw k from rfl, (Zc6 k (Nat.lt_of_lt_of_le hc n4)).1]; rfl)
  . have c0 : (p : Int) <= (x : Int) := by omega
    have e : mv cs p (some (i, a)) x = (none, Str.empty) := if_neg hx
    rw [e]
    refine ⟨true, o, ?_⟩
    walk_at "r"
    (simp_all [plT, v1, ZU, bf, x0, hlen, c0, Zv, z0]) <;> rfl
noncomputable abbrev TbF (C : Addr) (p : Nat) (cs : List (List Cel)) (t : Str) : D := .node (.ins C fs3) false [I p, MsT false (wrs cs), S' t]
theorem Znk {cs : List (List Cel)} {i : Nat} {a : Option Nat} {x : Nat} (hm : a.getD i < cs.length) (hx : x < (cs.getD (a.getD i) []).length) : wd (wrs cs) i a x = cwW (cel cs i a x) := by
 unfold wd cel wrs
 have e : (cs.map (List.map cwW)).getD (a.getD i) [] = (cs.getD (a.getD i) []).map cwW := by
  rw [List.getD_eq_getElem?_getD, List.getElem?_map, List.getD_eq_getElem?_getD, List.getElem?_eq_getElem hm]
  rfl
 rw [e]
 generalize cs.getD (a.getD i) [] = r at hx
 rw [List.getD_eq_getElem?_getD, List.getElem?_map, List.getD_eq_getElem?_getD, List.getElem?_eq_getElem hx]
 rfl
theorem Zhv (C : Addr) {p n : Nat} {cs : List (List Cel)} (h : TOk p n cs) (t : Str) (kd : Kd) (hkd : kd = .ftp \/ kd = .tup) (i : Nat) (a : Option Nat) (x : Nat) (hi : i < n) (ha : ∀ j, a = some j -> j < n) (hx : x < p) : (ZaD C).run [TbF C p cs t, .node kd false [I i, optD a], I x] = .ok (bhD (stp (cwW (cel cs i a x)) i a), [TbF C p cs t, .node kd false [I i, optD a], I x]) := by
 have hx0 : ∀ u v : D, ixW2 (.nd kd [u, v]) (.sc (.int 0)) = some u := by rcases hkd with rfl | rfl <;> exact fun u v => rfl
 have hx1 : ∀ u v : D, ixW2 (.nd kd [u, v]) (.sc (.int 1)) = some v := by rcases hkd with rfl | rfl <;> exact fun u v => rfl
 obtain ⟨hm, hr, hc⟩ := h.cel hi ha hx
 have hm' : a.getD i < (wrs cs).length := by rw [h.wlen, <- h.len]; exact hm
 have x1 := ixR (Mrow false) (wrs cs) (a.getD i) hm'
 have hr' := h.rows _ (Zaa (wrs cs) [] _ hm')
 have x2 := ixM ((wrs cs).getD (a.getD i) []) x (by rw [hr'.1]; exact hx)
 replace x2 : _ = some (mean false (wd (wrs cs) i a x)) := x2
 rw [Znk hm (by rw [hr]; exact hx)] at x2
 generalize (wrs cs).getD (a.getD i) [] = r at x1 x2
 have n4 := h.n4
 generalize cel cs i a x = c at x2 hc
 obtain ⟨q1, q2, q3, q4, q5, q6⟩ := ss1
 have z0 := st0
 have e1 : ∀ z : Str, decide (V.str z = V.str z) = true := fun z => decide_eq_true rfl
 have bf : (true == false) = false := rfl
 obtain ⟨kk, v, hm, _⟩ := Zjz (cwW c)
 simp only [mean, hm] at x2
 walk_at "r"
 unfold stp
 cases a with
 | none =>
  simp only [Option.getD_none] at x1
  simp_all [optD, hx0, hx1, Z7, bf, ZjV, x1, x2, ix20, ix21, Zv, z0]
  cases c with
  | no k => rw [show cwW (.no k) = ⟨#[45]⟩ from rfl] at hm ⊢; rw [Zc4.2] at hm; cases hm; (simp_all [Z7, ZP, bf, ix20, ix21, Zv, z0, q1, e1]) <;> (rw [Zc4.1]; rfl)
  | sg k => rw [show cwW (.sg k) = ⟨#[k]⟩ from rfl] at hm ⊢; rw [(Zc3 hc).2] at hm; cases hm; (simp_all [Z7, ZP, bf, ix20, ix21, Zv, z0, e1]) <;> (rw [(Zc3 hc).1]; rfl)
  | lk k => rw [show cwW (.lk k) = lkw k from rfl] at hm ⊢; rw [(Zc5 k (Nat.lt_of_lt_of_le hc n4)).2] at hm; cases hm; (simp_all [Z7, ZP, bf, ix20, ix21, Zv, z0, q2, q4, e1]) <;> (rw [(Zc5 k (Nat.lt_of_lt_of_le hc n4)).1]; rfl)
  | sh k => rw [show cwW (.sh k) = shw k from rfl] at hm ⊢; rw [(Zc6 k (Nat.lt_of_lt_of_le hc n4)).2] at hm; cases hm; (simp_all [Z7, ZP, bf, ix20, ix21, Zv, z0, q3, q5, q6]) <;> (rw [(Zc6 k (Nat.lt_of_lt_of_le hc n4)).1]; rfl)
 | some j =>
  simp only [Option.getD_some] at x1
  simp_all [optD, hx0, hx1, ZP, ZjV, x1, x2, ix20, ix21, Zv, z0]
  cases c with
  | no k => rw [show cwW (.no k) = ⟨#[45]⟩ from rfl] at hm ⊢; rw [Zc4.2] at hm; cases hm; (simp_all [Z7, ZP, bf, ix20, ix21, Zv, z0, q1, e1]) <;> (rw [Zc4.1]; rfl)
  | sg k => rw [show cwW (.sg k) = ⟨#[k]⟩ from rfl] at hm ⊢; rw [(Zc3 hc).2] at hm; cases hm; (simp_all [Z7, ZP, bf, ix20, ix21, Zv, z0, e1]) <;> (rw [(Zc3 hc).1]; rfl)
  | lk k => rw [show cwW (.lk k) = lkw k from rfl] at hm ⊢; rw [(Zc5 k (Nat.lt_of_lt_of_le hc n4)).2] at hm; cases hm; (simp_all [Z7, ZP, bf, ix20, ix21, Zv, z0, q2, q4]) <;> (rw [(Zc5 k (Nat.lt_of_lt_of_le hc n4)).1]; rfl)
  | sh k => rw [show cwW (.sh k) = shw k from rfl] at hm ⊢; rw [(Zc6 k (Nat.lt_of_lt_of_le hc n4)).2] at hm; cases hm; (simp_all [Z7, ZP, bf, ix20, ix21, Zv, z0, q3, q5]) <;> (rw [(Zc6 k (Nat.lt_of_lt_of_le hc n4)).1]; rfl)
theorem ZcW (C : Addr) (p : Nat) (cs : List (List Cel)) (t : Str) : (ZQ C).run [TbF C p cs t] = .ok (I p, [TbF C p cs t]) := by
 walk_at "r"
 (simp_all [ZpY]) <;> rfl
theorem ZeC (C : Addr) (p : Nat) (cs : List (List Cel)) (t : Str) : (ZR C).run [TbF C p cs t] = .ok (S' t, [TbF C p cs t]) := by
 walk_at "r"
 (simp_all [ZpZ]) <;> rfl
inductive PR : D -> P -> Prop
 | non : PR (.sc .non) none
 | tup (i : Nat) (a : Option Nat) : PR (.node .tup false [I i, optD a]) (some (i, a))
 | beg : PR (.node .ftp false [I 0, .sc .non]) (some (0, none))
theorem Znl (r : Option ((Nat × Option Nat) × Str)) : bhD r = .node .tup true [plT true (mvS r).1, S' (mvS r).2] := by
 match r with
 | none => rfl
 | some ((i, a), s) => rfl
theorem ZfW (C : Addr) {p n : Nat} {cs : List (List Cel)} (h : TOk p n cs) (t : Str) {d : D} {q : P} (hd : PR d q) (hq : POk n q) (x : Nat) : (Za5 C).run [TbF C p cs t, d, I x] = .ok (.node .tup true [plT true (mv cs p q x).1, S' (mv cs p q x).2], [TbF C p cs t, d, I x]) := by
 walk_at "r"
 have z0 := st0
 have bf := ZaF
 have l1 : (ZQ C).lend = true := rfl
 have l2 : (ZaD C).lend = true := rfl
 have r1 := ZcW C p cs t
 have hck1 : chkI C "prime" (.late 0) [TbF C p cs t, d, I x] = .ok ((), [TbF C p cs t, d, I x]) := Zds C _ 0 _ fs3 false _ rfl (by decide)
 have hck2 : chkI C "behind" (.late 0) [TbF C p cs t, d, I x] = .ok ((), [TbF C p cs t, d, I x]) := Zds C _ 0 _ fs3 false _ rfl (by decide)
 have go : ∀ (kd : Kd) (i : Nat) (a : Option Nat), (kd = .ftp \/ kd = .tup) -> d = .node kd false [I i, optD a] -> q = some (i, a) -> Zce 3 (exs { CK C with lock := fun i => decide (i < 3) } (Zb3 C) [TbF C p cs t, d, I x]) = .ok (.node .tup true [plT true (mv cs p q x).1, S' (mv cs p q x).2], [TbF C p cs t, d, I x]) := by
  intro kd i a hkd ed eq
  subst ed eq
  obtain ⟨hi, ha⟩ := hq
  unfold Zb3
  by_cases hx : x < p
  . have c0 : ¬ (p : Int) <= (x : Int) := by omega
    have hb := Zhv C h t kd hkd i a x hi ha hx
    have e : mv cs p (some (i, a)) x = mvS (stp (cwW (cel cs i a x)) i a) := if_pos hx
    rw [e]
    rw [Znl] at hb
    (simp_all [ZU, bf, l1, l2, r1, hck1, hck2, c0, hb]) <;> rfl
  . have c0 : (p : Int) <= (x : Int) := by omega
    have e : mv cs p (some (i, a)) x = (none, Str.empty) := if_neg hx
    rw [e]
    (simp_all [ZU, bf, l1, r1, hck1, c0, Zv, z0]) <;> rfl
 cases hd with
 | non =>
  have e : mv cs p none x = (none, Str.empty) := rfl
  rw [e]
  (simp_all [Z7, Zv, z0]) <;> rfl
 | tup i a => exact go .tup i a (.inr rfl) rfl rfl
 | beg => exact go .ftp 0 none (.inl rfl) rfl rfl
noncomputable def gvD : Option Str -> V
 | none => .non
 | some s => .str s
theorem ZeD (q : P) (s : Str) : Zcm.run [.node .tup true [plT true q, S' s]] = .ok (.sc (gvD (gv (q, s))), [.node .tup true [plT false q, S' s]]) := by
 walk_at "r"
 have bf := ZaF
 match q with
 | none => (simp_all [plT, Z7, ix20]) <;> rfl
 | some (i, none) => (simp_all [plT, optD, ZU, Z7, bf, ix20, ix21]) <;> rfl
 | some (i, some j) => (simp_all [plT, optD, ZU, ZP, bf, ix20, ix21]) <;> rfl
theorem ZjZ (a b : Option Str) : Z4 .NotEq (.sc (gvD a)) (.sc (gvD b)) = some (!decide (a = b)) := by
 have hs : ∀ u v : V, scal u v = true -> Z4 .NotEq (.sc u) (.sc v) = some (!decide (u = v)) := fun u v h => by
  show (if scal u v = true then some (decide (u = v)) else _).map (!·) = _
  rw [if_pos h]
  rfl
 match a, b with
 | none, none => exact hs _ _ rfl
 | none, some s => exact hs _ _ rfl
 | some s, none => exact hs _ _ rfl
 | some s, some z =>
  rw [hs _ _ rfl]
  by_cases e : s = z
  . subst e; simp
  . rw [decide_eq_false (show ¬ gvD (some s) = gvD (some z) from fun h => e (V.str.inj h)), decide_eq_false fun h => e (Option.some.inj h)]
noncomputable def plc (n : Nat) : List P := none :: (List.range n).flatMap fun i => some (i, none) :: (List.range n).map fun j => some (i, some j)
theorem ZaG {n : Nat} {q : P} : q ∈ plc n ↔ POk n q := by
 unfold plc
 match q with
 | none => simp [POk]
 | some (i, none) =>
  simp only [List.mem_cons, List.mem_flatMap, List.mem_range, List.mem_map, reduceCtorEq, false_or, POk]
  constructor
  . rintro ⟨a, ha, h | ⟨b, _, h⟩⟩
    . cases h; exact ⟨ha, nofun⟩
    . cases h
  . exact fun h => ⟨i, h.1, .inl rfl⟩
 | some (i, some j) =>
  simp only [List.mem_cons, List.mem_flatMap, List.mem_range, List.mem_map, reduceCtorEq, false_or, POk]
  constructor
  . rintro ⟨a, ha, h | ⟨b, hb, h⟩⟩
    . cases h
    . cases h; exact ⟨ha, fun j e => by cases e; exact hb⟩
  . exact fun h => ⟨i, h.1, .inr ⟨j, h.2 j rfl, rfl⟩⟩
theorem ZbB : ∀ n ∈ [1, 2, 3, 4], (plc n).length <= 21 := by walk_at "d"
theorem Zbg {p n : Nat} {cs : List (List Cel)} (h : TOk p n cs) : SOk (mv cs p) (plc n) := by
 have n4 := h.n4
 refine ⟨fun q hq x => ?_, fun q x => ?_⟩
 . rw [ZaG] at hq ⊢
   match q, hq with
   | none, _ => exact trivial
   | some (i, a), ⟨hi, ha⟩ =>
    by_cases hx : x < p
    . rw [show mv cs p (some (i, a)) x = mvS (stp (cwW (cel cs i a x)) i a) from if_pos hx]
      have hc := (h.cel hi ha hx).2.2
      cases hs : stp (cwW (cel cs i a x)) i a with
      | none => exact trivial
      | some r =>
       obtain ⟨⟨i', a'⟩, s⟩ := r
       have := Ziz n4 (Zdt hc) hi hs
       exact ⟨this.1, this.2.1⟩
    . rw [show mv cs p (some (i, a)) x = (none, Str.empty) from if_neg hx]
      exact trivial
 . match q with
   | none => exact fun _ => rfl
   | some (i, a) =>
    by_cases hx : x < p
    . rw [show mv cs p (some (i, a)) x = mvS (stp (cwW (cel cs i a x)) i a) from if_pos hx]
      generalize cwW (cel cs i a x) = w
      unfold stp
      cases kwOf w <;> cases a <;> first | exact fun _ => rfl | exact fun h => (by cases h)
    . rw [show mv cs p (some (i, a)) x = (none, Str.empty) from if_neg hx]
      exact fun _ => rfl
noncomputable def plI : P -> Option (Int × Option Int)
 | none => none
 | some (c, none) => some (c, none)
 | some (c, some j) => some (c, some (j : Int))
noncomputable def pk (q : P × P) : Option (Int × Option Int) × Option (Int × Option Int) := (plI q.1, plI q.2)
theorem ZgM : ∀ {a b : P}, plI a = plI b -> a = b
 | none, none, _ => rfl
 | none, some (_, none), h => by cases h
 | none, some (_, some _), h => by cases h
 | some (_, none), none, h => by cases h
 | some (_, some _), none, h => by cases h
 | some (c, none), some (d, none), h => by
  have := Int.ofNat.inj (Prod.mk.inj (Option.some.inj h)).1
  rw [this]
 | some (c, none), some (d, some _), h => by cases (Prod.mk.inj (Option.some.inj h)).2
 | some (c, some _), some (d, none), h => by cases (Prod.mk.inj (Option.some.inj h)).2
 | some (c, some i), some (d, some j), h => by
  have h1 := Int.ofNat.inj (Prod.mk.inj (Option.some.inj h)).1
  have h2 := Int.ofNat.inj (Option.some.inj (Prod.mk.inj (Option.some.inj h)).2)
  rw [h1, h2]
theorem Zca {a b : P × P} (h : pk a = pk b) : a = b := by
 obtain ⟨a1, a2⟩ := a
 obtain ⟨b1, b2⟩ := b
 have := Prod.mk.inj h
 exact congr (congrArg Prod.mk (ZgM this.1)) (ZgM this.2)
noncomputable abbrev kz (t : List Ent) : List (Option (Int × Option Int) × Option (Int × Option Int)) := t.map fun e => pk e.1
theorem ZfX (g : Ent -> D) (e : Ent) : ∀ t : List Ent, (t.map Prod.fst).Nodup -> e ∈ t -> Z3 (pk e.1) (kz t) (t.map g) = some (g e)
 | [], _, h => by simp at h
 | u :: t, hn, h => by
  (rw [List.map_cons, List.nodup_cons] at hn)
  simp only [List.map_cons, Z3]
  rcases List.mem_cons.mp h with q | q
  . subst q
    rw [if_pos rfl]
  . rw [if_neg fun z => hn.1 (by rw [Zca z]; exact List.mem_map.mpr ⟨e, q, rfl⟩)]
    exact ZfX g e t hn.2 q
theorem Zep (g : Ent -> D) (q : P × P) : ∀ t : List Ent, (Z3 (pk q) (kz t) (t.map g)).isSome = decide (q ∈ t.map Prod.fst)
 | [] => by simp [Z3]
 | u :: t => by
  simp only [List.map_cons, Z3]
  by_cases c : u.1 = q
  . rw [if_pos (by rw [c]), decide_eq_true (by rw [c]; exact List.mem_cons_self)]
    rfl
  . rw [if_neg fun z => c (Zca z), Zep g q t]
    simp only [List.mem_cons]
    congr 1
    exact propext ⟨.inr, fun h => h.resolve_left fun z => c z.symm⟩
theorem Zi5 (g : Ent -> D) (q : P × P) (d : D) : ∀ t : List Ent, q ∉ t.map Prod.fst -> ZbP (pk q) d (kz t) (t.map g) = some (kz t ++ [pk q], t.map g ++ [d])
 | [], _ => rfl
 | u :: t, h => by
  rw [List.map_cons, List.mem_cons] at h
  simp only [List.map_cons, ZbP]
  rw [if_neg fun z => h (.inl (Zca z).symm), Zi5 g q d t fun z => h (.inr z)]
  rfl
theorem PR.pl {d : D} {q : P} (h : PR d q) : plD d = some (plI q) := by
 cases h with
 | non => rfl
 | tup i a => cases a <;> rfl
 | beg => rfl
theorem PR.shr {d : D} {q : P} (h : PR d q) : T.shr d = d := by
 cases h with
 | non => rfl
 | tup i a => cases a <;> rfl
 | beg => rfl
theorem ZaO (q : P) : PR (plT false q) q := by
 match q with
 | none => exact .non
 | some (i, a) => exact .tup i a
theorem ZbX {a b : D} {q : P × P} (h1 : PR a q.1) (h2 : PR b q.2) : keyP (.nd .tup [a, b]) = some (pk q) := by
 show (plD a).bind (fun u => (plD b).map fun v => (u, v)) = _
 rw [h1.pl, h2.pl]
 rfl
def QR (d : D) (q : P × P) : Prop := ∃ a b, d = .node .tup false [a, b] /\ PR a q.1 /\ PR b q.2
theorem QR.shr {d : D} {q : P × P} (h : QR d q) : T.shr d = d := by
 obtain ⟨a, b, rfl, h1, h2⟩ := h
 show D.node .tup false [T.shr a, T.shr b] = _
 rw [h1.shr, h2.shr]
noncomputable abbrev WL (o : Bool) (ws : List (D × (P × P))) : D := .node .lst o (ws.map Prod.fst)
theorem ZfY : ∀ ws : List (D × (P × P)), (∀ w ∈ ws, QR w.1 w.2) -> shrL (ws.map Prod.fst) = ws.map Prod.fst
 | [], _ => rfl
 | w :: ws, h => by rw [List.map_cons, shrL, (h w List.mem_cons_self).shr, ZfY ws fun x hx => h x (List.mem_cons_of_mem _ hx)]
theorem Zi6 (w : W) (ks : List (Option (Int × Option Int) × Option (Int × Option Int))) (ds : List D) (x : Option (Int × Option Int) × Option (Int × Option Int)) (h : keyP w = some x) : Z4 .NotIn w (.nd (.dpp ks) ds) = some ((Z3 x ks ds).isSome == false) := by
 show (match w, W.nd (.dpp ks) ds with
  | .sc v, .nd (.dic ks) ds => (keyD v).map fun k => (Z3 k ks ds).isSome == false
  | y, .nd (.dpp ks) ds => (keyP y).map fun k => (Z3 k ks ds).isSome == false
  | _, _ => none) = _
 cases w <;> (simp only [h]; rfl)
theorem ix_P (w : W) (ks : List (Option (Int × Option Int) × Option (Int × Option Int))) (ds : List D) (x : Option (Int × Option Int) × Option (Int × Option Int)) (h : keyP w = some x) : ixW2 (.nd (.dpp ks) ds) w = Z3 x ks ds := by
 show (keyP w).bind (fun k => Z3 k ks ds) = _
 rw [h]
 rfl
theorem md_P (i : Nat) (δ : List D) (w : W) (d : D) (g : Ent -> D) (t : List Ent) (q : P × P) (h : keyP w = some (pk q)) (hn : q ∉ t.map Prod.fst) (hl : t.length <= 1000) : mdR i δ (Zb1 w d) (some (.node (.dpp (kz t)) true (t.map g))) = .ok (.sc .non, δ.set i (.node (.dpp (kz t ++ [pk q])) true (t.map g ++ [d]))) := by
 have e : Zb1 w d (.dpp (kz t)) (t.map g) = some (.sc .non, .dpp (kz t ++ [pk q]), t.map g ++ [d]) := by
  show (if (t.map g).length < sizeLine then (keyP w).bind fun k => (ZbP k d (kz t) (t.map g)).map fun r => (D.sc .non, Kd.dpp r.1, r.2) else none) = _
  rw [if_pos (by rw [List.length_map, szl]; omega), h, Option.bind_some, Zi5 g q d t hn]
  rfl
 show (match Zb1 w d (.dpp (kz t)) (t.map g) with | some (r, k', ds') => Rs.ok (r, δ.set i (.node k' true ds')) | none => .stuck) = _
 rw [e]
theorem ZfZ {c : M Bool} {body : M Fl} {n : Nat} {δ δ1 δ2 : List D} (hc : c δ = .ok (true, δ1)) (hb : body δ1 = .ok (.nx, δ2)) : Z8 c body (n + 1) δ = Z8 c body n δ2 := by
 show (c.bnd fun b => if b then body.bnd fun f => match f with
  | .nx => Z8 c body n
  | .ct => Z8 c body n
  | .bk => M.ret .nx
  | .rt x => M.ret (.rt x)
  else M.ret .nx) δ = _
 rw [Zac hc, if_pos rfl, Zac hb]
theorem ZeE {c : M Bool} {body : M Fl} {n : Nat} {δ δ1 : List D} (hc : c δ = .ok (false, δ1)) : Z8 c body (n + 1) δ = .ok (.nx, δ1) := by
 show (c.bnd fun b => if b then body.bnd fun f => match f with
  | .nx => Z8 c body n
  | .ct => Z8 c body n
  | .bk => M.ret .nx
  | .rt x => M.ret (.rt x)
  else M.ret .nx) δ = _
 rw [Zac hc, if_neg (by simp)]
 rfl
theorem Zqg {f : Kd -> List D -> Option (D × Kd × List D)} {k k' : Kd} {ds ds' : List D} {r : D} {i : Nat} {δ : List D} (e : f k ds = some (r, k', ds')) : mdR i δ f (some (.node k true ds)) = .ok (r, δ.set i (.node k' true ds')) := by
 show (match f k ds with
  | some (r, k', ds') => Rs.ok (r, δ.set i (.node k' true ds'))
  | none => .stuck) = _
 rw [e]
theorem Zln (C : T.Ctx) (i : Nat) (es : List E) : (evb C (.mut .popAt i [] es)).1 = ((chkL i).bnd fun _ => (opds C es).bnd fun ps => (views ps).bnd fun ws => modS i (mutD .popAt ws)) := (rfl)
theorem Zlo (i : Nat) (δ : List D) (d : D) (ds : List D) : mdR i δ (mutD .popAt [.sc (.int 0)]) (some (.node .lst true (d :: ds))) = .ok (d, δ.set i (.node .lst true ds)) := by
 refine Zqg ?_
 show (if -(2 ^ 63) <= (0 : Int) /\ (0 : Int) < 2 ^ 63 then (ixN' (d :: ds).length 0).bind fun j => (d :: ds)[j]?.map fun x => (x, Kd.lst, (d :: ds).eraseIdx j) else none) = _
 rw [if_pos (by decide)]
 have : ixN' (d :: ds).length 0 = some 0 := by
  unfold ixN'
  rw [if_pos (by decide), if_pos (by rw [List.length_cons]; omega)]
  rfl
 rw [this]
 rfl
theorem ZeF {c : M Bool} {body : M Fl} {n : Nat} {δ δ1 δ2 : List D} {d : D} (hc : c δ = .ok (true, δ1)) (hb : body δ1 = .ok (.rt d, δ2)) : Z8 c body (n + 1) δ = .ok (.rt d, δ2) := by
 show (c.bnd fun b => if b then body.bnd fun f => match f with
  | .nx => Z8 c body n
  | .ct => Z8 c body n
  | .bk => M.ret .nx
  | .rt x => M.ret (.rt x)
  else M.ret .nx) δ = _
 rw [Zac hc, if_pos rfl, Zac hb]
 rfl
noncomputable abbrev nI (xs : List Nat) : List Int := xs.map fun (x : Nat) => (x : Int)
theorem Zdu (x : Nat) (xs : List Nat) : dI (nI (x :: xs)) = .sc (.int (x : Int)) :: dI (nI xs) := rfl
noncomputable def wbd : T.S -> List T.S
 | .while_ _ b => b
 | _ => []
theorem ZgN : ∀ (n a : Nat), rngI (a : Int) n = nI (List.range' a n)
 | 0, _ => rfl
 | n + 1, a => by
  rw [rngI, List.range'_succ, show (a : Int) + 1 = ((a + 1 : Nat) : Int) from rfl, ZgN n (a + 1)]
  rfl
theorem ZeG (m : Nat) : rngI 0 m = nI (List.range m) := by
 rw [List.range_eq_range']
 exact ZgN m 0
theorem Znm (row : List Nat) (x : Nat) : dI (nI row) ++ [I x] = dI (nI (row ++ [x])) := by
 show _ = List.map _ (List.map _ (row ++ [x]))
 rw [List.map_append, List.map_append]
 rfl
theorem Zga (row : List Nat) : (dI (nI row)).length = row.length := by rw [ZfC, List.length_map]
noncomputable abbrev gA (b : Bool) (e : Ent) : D := Ls b (nI e.2)
noncomputable abbrev DA (b : Bool) (t : List Ent) : D := .node (.dpp (kz t)) true (t.map (gA b))
theorem Znn (b : Bool) (t : List Ent) : shrL (t.map (gA b)) = t.map (gA false) := by
 induction t with
 | nil => rfl
 | cons e t ih =>
  rw [List.map_cons, shrL, ih, List.map_cons]
  congr 1
  show D.node .lst false (shrL (dI (nI e.2))) = _
  rw [Za4]
noncomputable abbrev tpD (o : Bool) (r : P × Str) : D := .node .tup true [plT o r.1, S' r.2]
noncomputable abbrev apL (C : Addr) : List D -> M Fl := forL (asgT lk (.name 7)) (exs ⟨lk, fok, fuel⟩ (bdy ((wbd ((Zar C).getD 4 .pass)).getD 1 .pass)))
theorem Zlp (C : Addr) (h4 : lk 4 = false) (h5 : lk 5 = false) (h7 : lk 7 = false) (h8 : lk 8 = false) (h9 : lk 9 = false) (h10 : lk 10 = false) (h11 : lk 11 = false) (k1 k2 : Kd) (as1 as2 : List D) (x2 x3 : D) {t : List Ent} {e : Ent} (ht : t.length <= 1000) (hnd : (t.map Prod.fst).Nodup) (he : e ∈ t) (hrow : e.2.length <= 1000) {d1 d2 : D} (hd1 : PR d1 e.1.1) (hd2 : PR d2 e.1.2) (x : Nat) (r1 r2 : P × Str)
 (s1 : (Za5 C).run [.node k1 false as1, d1, I x] = .ok (tpD true r1, [.node k1 false as1, d1, I x])) (s2 : (Za5 C).run [.node k2 false as2, d2, I x] = .ok (tpD true r2, [.node k2 false as2, d2, I x])) (b : Bool) (ws : List (D × (P × P))) (hW : ∀ w ∈ ws, QR w.1 w.2) (hw : ws.length <= 1000) (xs : List D) (a7 a8 a9 a10 a11 : D) :
 apL lk fok fuel C (.sc (.int (x : Int)) :: xs) [.node k1 false as1, .node k2 false as2, x2, x3, DA b t, WL true ws, .node .tup false [d1, d2], a7, a8, a9, a10, a11] =
 if gv r1 = gv r2 then (if (r1.1, r2.1) ∈ t.map Prod.fst then apL lk fok fuel C xs [.node k1 false as1, .node k2 false as2, x2, x3, DA false t, WL true ws, .node .tup false [d1, d2], I x, Ls true (nI (e.2 ++ [x])), tpD false r1, tpD false r2, .node .tup true [plT false r1.1, plT false r2.1]]
  else apL lk fok fuel C xs [.node k1 false as1, .node k2 false as2, x2, x3, DA false (t ++ [((r1.1, r2.1), e.2 ++ [x])]), WL true (ws ++ [(.node .tup false [plT false r1.1, plT false r2.1], (r1.1, r2.1))]), .node .tup false [d1, d2], I x, Ls false (nI (e.2 ++ [x])), tpD false r1, tpD false r2, .node .tup false [plT false r1.1, plT false r2.1]])
 else .ok (.rt (Ls true (nI (e.2 ++ [x]))), [.node k1 false as1, .node k2 false as2, x2, x3, DA false t, WL true ws, .node .tup false [d1, d2], I x, .hole, tpD false r1, tpD false r2, a11]) := by
 have l1 : (Za5 C).lend = true := rfl
 have l2 : Zcm.lend = true := rfl
 have g1 := ZeD r1.1 r1.2
 have g2 := ZeD r2.1 r2.2
 have ix0 : ixW2 (.nd (.dpp (kz t)) (t.map (gA false))) (.nd .tup [d1, d2]) = some (Ls false (nI e.2)) := by
  rw [ix_P _ _ _ _ (ZbX hd1 hd2)]
  exact ZfX (gA false) e t hnd he
 have ad : binW .Add (.nd .lst (dI (nI e.2))) (.nd .lst [I x]) = some (Ls true (nI (e.2 ++ [x]))) := by
  show newL (dI (nI e.2) ++ [I x]) = _
  rw [Znm, Zay _ (by rw [Zga, List.length_append, List.length_singleton, szl]; omega)]
 have nin : Z4 .NotIn (.nd .tup [plT false r1.1, plT false r2.1]) (.nd (.dpp (kz t)) (t.map (gA false))) = some (decide ((r1.1, r2.1) ∈ t.map Prod.fst) == false) := by
  rw [Zi6 _ _ _ _ (ZbX (q := (r1.1, r2.1)) (ZaO _) (ZaO _)), Zep]
 have ng := ZjZ (gv r1) (gv r2)
 have sD := Znn
 have sp := ZfV
 obtain ⟨q1, z1⟩ := r1
 obtain ⟨q2, z2⟩ := r2
 have sh1 : T.shr d1 = d1 := hd1.shr
 have sh2 : T.shr d2 = d2 := hd2.shr
 have sc1 : ∀ δ : List D, Zcy (.tmp d1) d1 δ = .ok ((), δ) := fun _ => rfl
 rw [apL, ZO]
 simp only [Zar, wbd, bdy, gd1, gd0]
 by_cases c : gv (q1, z1) = gv (q2, z2)
 . rw [if_pos c]
   have ng' : Z4 .NotEq (.sc (gvD (gv (q1, z1)))) (.sc (gvD (gv (q2, z2)))) = some false := by rw [ng, decide_eq_true c]; rfl
   by_cases m : (q1, q2) ∈ t.map Prod.fst
   . rw [if_pos m]
     have nin' : Z4 .NotIn (.nd .tup [plT false q1, plT false q2]) (.nd (.dpp (kz t)) (t.map (gA false))) = some false := by rw [nin, decide_eq_true m]; rfl
     simp_all [h4, h5, h7, h8, h9, h10, h11, l1, l2, ix0, ZbW, ad, ix20, ix21, s1, s2, g1, g2, ng', Zv, nin', sD, sp]
   . rw [if_neg m]
     have nin' : Z4 .NotIn (.nd .tup [plT false q1, plT false q2]) (.nd (.dpp (kz t)) (t.map (gA false))) = some true := by rw [nin, decide_eq_false m]; rfl
     have mp := fun (δ : List D) => md_P 4 δ (.nd .tup [plT false q1, plT false q2]) (Ls false (nI (e.2 ++ [x]))) (gA false) t (q1, q2) (ZbX (q := (q1, q2)) (ZaO _) (ZaO _)) m ht
     have ma := fun (δ : List D) (d : D) => Zba 5 δ d (ws.map Prod.fst) (by rw [List.length_map, szl]; omega)
     have e1 : kz t ++ [pk (q1, q2)] = kz (t ++ [((q1, q2), e.2 ++ [x])]) := by show _ = List.map _ _; rw [List.map_append]; rfl
     have e2 : t.map (gA false) ++ [Ls false (nI (e.2 ++ [x]))] = (t ++ [((q1, q2), e.2 ++ [x])]).map (gA false) := by rw [List.map_append]; rfl
     have e3 : ws.map Prod.fst ++ [D.node .tup false [plT false q1, plT false q2]] = (ws ++ [(D.node .tup false [plT false q1, plT false q2], (q1, q2))]).map Prod.fst := by rw [List.map_append]; rfl
     simp_all [h4, h5, h7, h8, h9, h10, h11, l1, l2, ix0, ZbW, ad, ix20, ix21, s1, s2, g1, g2, ng', Zv, nin', sD, sp, Za4, mp, ma, e1, e2, e3]
 . rw [if_neg c]
   have ng' : Z4 .NotEq (.sc (gvD (gv (q1, z1)))) (.sc (gvD (gv (q2, z2)))) = some true := by rw [ng, decide_eq_false c]; rfl
   (simp_all [h4, h5, h7, h8, h9, h10, h11, l1, l2, ix0, ZbW, ad, ix20, ix21, s1, s2, g1, g2, ng', sD, sp])
noncomputable abbrev dA (C : Addr) (p1 : Nat) (cs1 : List (List Cel)) (z1 : Str) (p2 : Nat) (cs2 : List (List Cel)) (z2 : Str) (x2 x3 : D) (b : Bool) (t : List Ent) (ws : List (D × (P × P))) (rest : List D) : List D := TbF C p1 cs1 z1 :: TbF C p2 cs2 z2 :: x2 :: x3 :: DA b t :: WL true ws :: rest
theorem Zj4 {α : Type} (t : List α) (e : α) (k : Nat) (h : k <= t.length) : (t ++ [e]).drop k = t.drop k ++ [e] := by rw [List.drop_append_of_le_length h]
theorem Zlq (C : Addr) (h4 : lk 4 = false) (h5 : lk 5 = false) (h7 : lk 7 = false) (h8 : lk 8 = false) (h9 : lk 9 = false) (h10 : lk 10 = false) (h11 : lk 11 = false) {p1 n1 p2 n2 m : Nat} {cs1 cs2 : List (List Cel)} (z1 z2 : Str) (T1 : TOk p1 n1 cs1) (T2 : TOk p2 n2 cs2) (x2 x3 : D) (e : Ent) {d1 d2 : D} (hd1 : PR d1 e.1.1) (hd2 : PR d2 e.1.2) : ∀ (xs : List Nat) (t : List Ent) (b : Bool) (ws : List (D × (P × P))) (k : Nat) (a7 a8 a9 a10 a11 : D), IOk (mv cs1 p1) (mv cs2 p2) m (plc n1) (plc n2) t -> e ∈ t -> (∀ x ∈ xs, x < m) -> (∀ w ∈ ws, QR w.1 w.2) -> k <= t.length -> ws.map Prod.snd = (t.drop k).map Prod.fst ->
 (∀ r, scan (mv cs1 p1) (mv cs2 p2) e.1 e.2 xs t = .inl r -> ∃ rest, apL lk fok fuel C (dI (nI xs)) (dA C p1 cs1 z1 p2 cs2 z2 x2 x3 b t ws [.node .tup false [d1, d2], a7, a8, a9, a10, a11]) = .ok (.rt (Ls true (nI r)), TbF C p1 cs1 z1 :: TbF C p2 cs2 z2 :: rest)) /\
 ∀ t', scan (mv cs1 p1) (mv cs2 p2) e.1 e.2 xs t = .inr t' -> ∃ b' ws' a7' a8' a9' a10' a11', (∀ w ∈ ws', QR w.1 w.2) /\ ws'.map Prod.snd = (t'.drop k).map Prod.fst /\ apL lk fok fuel C (dI (nI xs)) (dA C p1 cs1 z1 p2 cs2 z2 x2 x3 b t ws [.node .tup false [d1, d2], a7, a8, a9, a10, a11]) = .ok (.nx, dA C p1 cs1 z1 p2 cs2 z2 x2 x3 b' t' ws' [.node .tup false [d1, d2], a7', a8', a9', a10', a11']) := by
 have hL : (plc n1).length * (plc n2).length <= 441 := Nat.mul_le_mul (ZbB n1 (n14 T1.n1 T1.n4)) (ZbB n2 (n14 T2.n1 T2.n4))
 intro xs
 induction xs with
 | nil => exact fun t b ws k a7 a8 a9 a10 a11 _ _ _ hW _ hk => ⟨fun r h => (by cases h), fun t' h => by cases h; exact ⟨b, ws, a7, a8, a9, a10, a11, hW, hk, rfl⟩⟩
 | cons x xs ih =>
  intro t b ws k a7 a8 a9 a10 a11 hI he hx hW hkl hk
  have hle := hI.le
  have q := hI.all e he
  have hx0 := hx x List.mem_cons_self
  have hxs : ∀ y ∈ xs, y < m := fun y hy => hx y (List.mem_cons_of_mem _ hy)
  have hwl : ws.length <= 1000 := by
   have := congrArg List.length hk
   rw [List.length_map, List.length_map, List.length_drop] at this
   omega
  have st := Zlp lk fok fuel C h4 h5 h7 h8 h9 h10 h11 _ _ _ _ x2 x3 (by omega) hI.nd he (by have := q.len; omega) hd1 hd2 x _ _ (ZfW C T1 z1 hd1 (ZaG.mp q.a1) x) (ZfW C T2 z2 hd2 (ZaG.mp q.a2) x) b ws hW hwl (dI (nI xs)) a7 a8 a9 a10 a11
  rw [Zdu, dA, st]
  unfold scan
  by_cases c : gv (mv cs1 p1 e.1.1 x) = gv (mv cs2 p2 e.1.2 x)
  . rw [if_pos c, if_pos c]
    by_cases d : ((mv cs1 p1 e.1.1 x).1, (mv cs2 p2 e.1.2 x).1) ∈ t.map Prod.fst
    . rw [if_pos d, if_pos d]
      exact ih t false ws k _ _ _ _ _ hI he hxs hW hkl hk
    . rw [if_neg d, if_neg d]
      refine ih _ false _ k _ _ _ _ _ (hI.more (Zbg T1) (Zbg T2) he hx0 c d) (List.mem_append_left _ he) hxs (fun w hw => ?_) (by rw [List.length_append]; omega) ?_
      . rcases List.mem_append.mp hw with z | z
        . exact hW w z
        . rw [List.mem_singleton.mp z]
          exact ⟨_, _, rfl, ZaO _, ZaO _⟩
      . rw [Zj4 _ _ _ hkl, List.map_append, List.map_append, hk]
        rfl
  . rw [if_neg c, if_neg c]
    exact ⟨fun r h => by cases h; exact ⟨_, rfl⟩, fun t' h => (by cases h)⟩
noncomputable abbrev apC (C : Addr) : T.Ctx := { CK C with lock := fun i => decide (i < 2) }
noncomputable abbrev apW (C : Addr) : List T.S := wbd ((Zar C).getD 4 .pass)
theorem Zgb (C : Addr) {p1 n1 p2 n2 m : Nat} {cs1 cs2 : List (List Cel)} (z1 z2 : Str) (T1 : TOk p1 n1 cs1) (T2 : TOk p2 n2 cs2) (hm : m <= 47) (x3 : D) : ∀ (f n : Nat) (t : List Ent) (b : Bool) (ws : List (D × (P × P))) (a6 a7 a8 a9 a10 a11 : D), IOk (mv cs1 p1) (mv cs2 p2) m (plc n1) (plc n2) t -> n <= t.length -> (∀ w ∈ ws, QR w.1 w.2) -> ws.map Prod.snd = (t.drop n).map Prod.fst ->
 ∀ r, bfs (mv cs1 p1) (mv cs2 p2) m f n t = some r -> ∃ rest, Z8 (evb (apC C) (.v 5)).2 (exs (apC C) (apW C)) f (dA C p1 cs1 z1 p2 cs2 z2 (I m) x3 b t ws [a6, a7, a8, a9, a10, a11]) = .ok ((match r with | none => Fl.nx | some row => .rt (Ls true (nI row))), TbF C p1 cs1 z1 :: TbF C p2 cs2 z2 :: rest)
 | 0, _, _, _, _, _, _, _, _, _, _, _, _, _, _, r, h => (by cases h)
 | f + 1, n, t, b, ws, a6, a7, a8, a9, a10, a11, hI, hn, hW, hk, r, h => by
  have sW := ZfY ws hW
  have tl : ∀ ds : List D, truW (.nd .lst ds) = some (!ds.isEmpty) := fun _ => (rfl)
  unfold bfs at h
  cases hw : ws with
  | nil =>
   have hl : t.length <= n := by
    rw [hw] at hk
    have := congrArg List.length hk
    rw [List.map_nil, List.length_map, List.length_drop, List.length_nil] at this
    omega
   rw [List.getElem?_eq_none hl] at h
   cases h
   refine ⟨[I m, x3, DA b t, WL true [], a6, a7, a8, a9, a10, a11], ZeE ?_⟩
   simp only [dA, WL, List.map_nil]
   (simp_all [t_v, tl, shrL, List.isEmpty_nil]) <;> rfl
  | cons w ws' =>
   obtain ⟨d, qq⟩ := w
   rw [hw] at hk hW sW
   have hl : n < t.length := by
    have := congrArg List.length hk
    rw [List.map_cons, List.length_map, List.length_drop, List.length_cons] at this
    omega
   have hg := List.getElem?_eq_getElem hl
   have hdr := List.drop_eq_getElem_cons hl
   rw [hdr, List.map_cons, List.map_cons] at hk
   have hq := (List.cons.inj hk).1
   have hk' := (List.cons.inj hk).2
   have he : t[n] ∈ t := List.getElem_mem hl
   rw [hg] at h
   obtain ⟨d1, d2, ed, hd1, hd2⟩ := hW (d, qq) List.mem_cons_self
   replace ed : d = _ := ed
   replace hq : qq = t[n].1 := hq
   subst hq
   have sd : T.shr d = d := (hW _ List.mem_cons_self).shr
   have hW' : ∀ w ∈ ws', QR w.1 w.2 := fun w hw => hW w (List.mem_cons_of_mem _ hw)
   have sW' := ZfY ws' hW'
   clear hW hk hdr hg sW hw ws
   generalize t[n] = e at h hd1 hd2 he ⊢
   obtain ⟨q, row⟩ := e
   have lp := Zlq (fun j => decide (j < 2) || walked [.v 2] j) (CK C).fok (CK C).fuel C rfl rfl rfl rfl rfl rfl rfl z1 z2 T1 T2 (I m) x3 (q, row) hd1 hd2 (List.range m) t b ws' (n + 1) a7 a8 a9 a10 a11 hI he (fun x hx => List.mem_range.mp hx) hW' hl hk'
   have so := Zcq (Zbg T1) (Zbg T2) (q, row) (List.range m) t hI he fun x hx => List.mem_range.mp hx
   have hc : (evb (apC C) (.v 5)).2 (dA C p1 cs1 z1 p2 cs2 z2 (I m) x3 b t ((d, q) :: ws') [a6, a7, a8, a9, a10, a11]) = .ok (true, dA C p1 cs1 z1 p2 cs2 z2 (I m) x3 b t ((d, q) :: ws') [a6, a7, a8, a9, a10, a11]) := by
    simp only [dA, WL, List.map_cons]
    (simp_all [t_v, tl, sd, sW', List.isEmpty_cons]) <;> rfl
   have hit : itW .rng1 [.sc (.int (m : Int))] = some (dI (nI (List.range m))) := by
    have := ZdS (m : Int) (by omega)
    rw [Int.toNat_natCast, ZeG] at this
    exact this
   have mp : ∀ δ : List D, mdR 5 δ (mutD .popAt [.sc (.int 0)]) (some (WL true ((d, q) :: ws'))) = .ok (d, δ.set 5 (WL true ws')) := fun δ => Zlo 5 δ d (ws'.map Prod.fst)
   have ep := Zln
   subst ed
   simp only [walked, Bool.or_false, apL, Zar, wbd, bdy, gd1, gd0, dA] at lp
   cases hs : scan (mv cs1 p1) (mv cs2 p2) q row (List.range m) t with
   | inl rw' =>
    simp only [hs] at h
    cases h
    obtain ⟨rest, lp⟩ := lp.1 rw' hs
    refine ⟨rest, ZeF hc ?_⟩
    simp only [apW, Zar, wbd, gd1, gd0, dA]
    (simp_all [ep, mp, hit, lp]) <;> rfl
   | inr t' =>
    simp only [hs] at h
    obtain ⟨b', ws2, a7', a8', a9', a10', a11', hW2, hk2, lp⟩ := lp.2 t' hs
    have s2 := so.2 t' hs
    obtain ⟨rest, ih⟩ := Zgb C z1 z2 T1 T2 hm x3 f (n + 1) t' b' ws2 (.node .tup false [d1, d2]) a7' a8' a9' a10' a11' s2.1 (by omega) hW2 hk2 r h
    refine ⟨rest, ?_⟩
    rw [ZfZ hc (δ2 := dA C p1 cs1 z1 p2 cs2 z2 (I m) x3 b' t' ws2 [.node .tup false [d1, d2], a7', a8', a9', a10', a11']) ?_]
    . exact ih
    . simp only [apW, Zar, wbd, gd1, gd0, dA]
      (simp_all [ep, mp, hit, lp]) <;> rfl
noncomputable def t0 : List Ent := [((some (0, none), some (0, none)), [])]
theorem Zhw {p1 n1 p2 n2 : Nat} (m : Nat) {cs1 cs2 : List (List Cel)} (T1 : TOk p1 n1 cs1) (T2 : TOk p2 n2 cs2) : IOk (mv cs1 p1) (mv cs2 p2) m (plc n1) (plc n2) t0 := by
 refine ⟨by simp [t0], fun e he => ?_⟩
 rw [List.mem_singleton.mp he]
 exact ⟨ZaG.mpr ⟨T1.n1, nofun⟩, ZaG.mpr ⟨T2.n1, nofun⟩, fun x hx => by simp at hx, Nat.zero_lt_one, Str.empty, rfl, rfl⟩
noncomputable def resD : Option (List Nat) -> D
 | none => .sc .non
 | some row => Ls true (nI row)
theorem Zhx (a b : Nat) : bfW .max [.sc (.int (a : Int)), .sc (.int (b : Int))] = some (I (max a b : Nat)) := by
 show some (D.sc (.int (if (b : Int) > a then (b : Int) else a))) = _
 congr 3
 split <;> omega
theorem ZcX (C : Addr) {p1 n1 p2 n2 : Nat} {cs1 cs2 : List (List Cel)} (z1 z2 : Str) (T1 : TOk p1 n1 cs1) (T2 : TOk p2 n2 cs2) (r : Option (List Nat)) (h : bfs (mv cs1 p1) (mv cs2 p2) (max p1 p2) 1000 0 t0 = some r) : (Zbm C).run [TbF C p1 cs1 z1, TbF C p2 cs2 z2] = .ok (resD r, [TbF C p1 cs1 z1, TbF C p2 cs2 z2]) := by
 have b1 := (ZZ p1 T1.hp).2
 have b2 := (ZZ p2 T2.hp).2
 obtain ⟨rest, hw⟩ := Zgb C z1 z2 T1 T2 (m := max p1 p2) (by omega) (.node .tup false [.node .ftp false [I 0, .sc .non], .node .ftp false [I 0, .sc .non]]) 1000 0 t0 true [(.node .tup false [.node .ftp false [I 0, .sc .non], .node .ftp false [I 0, .sc .non]], (some (0, none), some (0, none)))] .hole .hole .hole .hole .hole .hole (Zhw _ T1 T2) (Nat.zero_le _) (fun w hw => by rw [List.mem_singleton.mp hw]; exact ⟨_, _, rfl, .beg, .beg⟩) rfl r h
 walk_at "r"
 have r1 := ZcW C p1 cs1 z1
 have r2 := ZcW C p2 cs2 z2
 have l1 : (ZQ C).lend = true := rfl
 have hck1 : ∀ δ : List D, chkI C "prime" (.late 0) (TbF C p1 cs1 z1 :: δ) = .ok ((), TbF C p1 cs1 z1 :: δ) := fun δ => Zds C _ 0 _ fs3 false _ rfl (by decide)
 have hck2 : ∀ (d : D) (δ : List D), chkI C "prime" (.late 1) (d :: TbF C p2 cs2 z2 :: δ) = .ok ((), d :: TbF C p2 cs2 z2 :: δ) := fun d δ => Zds C _ 1 _ fs3 false _ rfl (by decide)
 have mx := Zhx p1 p2
 have kp : keyP (.nd .tup [.node .ftp false [I 0, .sc .non], .node .ftp false [I 0, .sc .non]]) = some (pk (some (0, none), some (0, none))) := ZbX (q := (some (0, none), some (0, none))) .beg .beg
 have e1 : D.node (.dpp [pk (some (0, none), some (0, none))]) true [D.node .lst true []] = DA true t0 := rfl
 have e2 : D.node .lst true [D.node .tup false [.node .ftp false [I 0, .sc .non], .node .ftp false [I 0, .sc .non]]] = WL true [(.node .tup false [.node .ftp false [I 0, .sc .non], .node .ftp false [I 0, .sc .non]], (some (0, none), some (0, none)))] := rfl
 replace hw : Z8 (evb { CK C with lock := fun i => decide (i < 2) } (.v 5)).2 (exs { CK C with lock := fun i => decide (i < 2) } (apW C)) (CK C).fuel _ = _ := hw
 simp only [apW, Zar, wbd, gd1, gd0, dA, t_v] at hw
 cases r with
 | none => (simp_all [l1, hck1, hck2, r1, r2, mx, Zv, Zdq, ZbW, kp, e1, e2, hw]) <;> rfl
 | some row => (simp_all [l1, hck1, hck2, r1, r2, mx, Zv, Zdq, ZbW, kp, e1, e2, hw]) <;> rfl
noncomputable def shut : P -> Bool
 | some (_, none) => false
 | _ => true
noncomputable abbrev gL (e : Ent) : D := I (e.2.length : Nat)
noncomputable abbrev DL (t : List Ent) : D := .node (.dpp (kz t)) true (t.map gL)
theorem Zno (t : List Ent) : shrL (t.map gL) = t.map gL := by
 induction t with
 | nil => rfl
 | cons e t ih => rw [List.map_cons, shrL, ih]; rfl
noncomputable abbrev qD (o : Bool) (e : Ent) : D := .node .tup o [plT false e.1.1, plT false e.1.2]
theorem Zi7 (o : Bool) (e : Ent) : T.shr (qD o e) = qD false e := by
 show D.node .tup false [T.shr (plT false e.1.1), T.shr (plT false e.1.2)] = _
 rw [ZfV, ZfV]
theorem Zgc : ∀ xs ys : List D, shrL (xs ++ ys) = shrL xs ++ shrL ys
 | [], _ => rfl
 | x :: xs, ys => by rw [List.cons_append, shrL, Zgc xs ys]; rfl
theorem Zlr (q1 q2 : P) (z1 z2 : Str) : decide (gv (q1, z1) = gv (q2, z2)) = !((shut q1 != shut q2) || (!shut q1 && decide (z1 ≠ z2))) := by
 match q1, q2 with
 | none, none => rfl
 | none, some (_, none) => rfl
 | none, some (_, some _) => rfl
 | some (_, none), none => rfl
 | some (_, some _), none => rfl
 | some (_, none), some (_, none) =>
  show decide (some z1 = some z2) = _
  by_cases h : z1 = z2
  . subst h; simp [shut]
  . rw [decide_eq_false fun e => h (Option.some.inj e), decide_eq_true h]; rfl
 | some (_, none), some (_, some _) => rfl
 | some (_, some _), some (_, none) => rfl
 | some (_, some _), some (_, some _) => rfl
noncomputable abbrev lsB : List T.S := bdy ((wbd (Z2.getD 4 .pass)).getD 2 .pass)
noncomputable abbrev lsL : List D -> M Fl := forL (asgT lk (.name 7)) (exs ⟨lk, fok, fuel⟩ lsB)
noncomputable abbrev dL' (A B x2 : D) (qs : List D) (t : List Ent) (x5 : D) (rest : List D) : List D := A :: B :: x2 :: .node .lst true qs :: DL t :: x5 :: rest
theorem Zbp (a b : D) : newL [a, b] = some (.node .lst true [a, b]) := Zay _ (by rw [szl]; simp)
theorem Zls (h3 : lk 3 = false) (h4 : lk 4 = false) (h7 : lk 7 = false) (h8 : lk 8 = false) (h9 : lk 9 = false) (h10 : lk 10 = false) (h11 : lk 11 = false) (h12 : lk 12 = false) (as1 as2 : List D) (x2 x5 : D) {t : List Ent} {e : Ent} (ht : t.length <= 1000) (hnd : (t.map Prod.fst).Nodup) (he : e ∈ t) (x : Nat) (r1 r2 : P × Str)
 (s1 : ∃ o1 o2, ZD.run [.node .lst false as1, plT false e.1.1, I x] = .ok (tpD o1 r1, [.node .lst false as1, plT o2 e.1.1, I x])) (s2 : ∃ o1 o2, ZD.run [.node .lst false as2, plT false e.1.2, I x] = .ok (tpD o1 r2, [.node .lst false as2, plT o2 e.1.2, I x])) (qs : List D) (hq : qs.length <= 1000) (xs : List D) (a7 a8 a9 a10 a11 a12 : D) :
 (gv r1 = gv r2 -> (r1.1, r2.1) ∈ t.map Prod.fst -> ∃ a7' a8' a9' a10' a11' a12', lsL lk fok fuel (.sc (.int (x : Int)) :: xs) (dL' (.node .lst false as1) (.node .lst false as2) x2 qs t x5 [qD false e, a7, a8, a9, a10, a11, a12]) = lsL lk fok fuel xs (dL' (.node .lst false as1) (.node .lst false as2) x2 qs t x5 [qD false e, a7', a8', a9', a10', a11', a12'])) /\
 (gv r1 = gv r2 -> (r1.1, r2.1) ∉ t.map Prod.fst -> ∃ a7' a8' a9' a10' a11' a12', lsL lk fok fuel (.sc (.int (x : Int)) :: xs) (dL' (.node .lst false as1) (.node .lst false as2) x2 qs t x5 [qD false e, a7, a8, a9, a10, a11, a12]) = lsL lk fok fuel xs (dL' (.node .lst false as1) (.node .lst false as2) x2 (qs ++ [qD true ((r1.1, r2.1), e.2 ++ [x])]) (t ++ [((r1.1, r2.1), e.2 ++ [x])]) x5 [qD false e, a7', a8', a9', a10', a11', a12'])) /\
 (gv r1 ≠ gv r2 -> ∃ rest, lsL lk fok fuel (.sc (.int (x : Int)) :: xs) (dL' (.node .lst false as1) (.node .lst false as2) x2 qs t x5 [qD false e, a7, a8, a9, a10, a11, a12]) = .ok (.rt (I ((e.2 ++ [x]).length : Nat)), .node .lst false as1 :: .node .lst false as2 :: rest)) := by
 have l1 : ZD.lend = true := rfl
 obtain ⟨o1, w1, s1⟩ := s1
 obtain ⟨o2, w2, s2⟩ := s2
 have ix0 : ixW2 (.nd (.dpp (kz t)) (t.map gL)) (.nd .tup [plT false e.1.1, plT false e.1.2]) = some (I (e.2.length : Nat)) := by
  rw [ix_P _ _ _ _ (ZbX (q := e.1) (ZaO _) (ZaO _))]
  exact ZfX gL e t hnd he
 have nin : Z4 .NotIn (.nd .tup [plT false r1.1, plT false r2.1]) (.nd (.dpp (kz t)) (t.map gL)) = some (decide ((r1.1, r2.1) ∈ t.map Prod.fst) == false) := by
  rw [Zi6 _ _ _ _ (ZbX (q := (r1.1, r2.1)) (ZaO _) (ZaO _)), Zep]
 obtain ⟨q1, z1⟩ := r1
 obtain ⟨q2, z2⟩ := r2
 have gs := Zlr q1 q2 z1 z2
 have sD := Zno t
 have ho8 : ∀ (b0 b1 b2 b3 b4 b5 b6 b7 b9 b10 b11 b12 : D), (evb ⟨lk, fok, fuel⟩ (.or (.isN true (.v 8)) (.isN false (.ix (.v 8) (.k (.int 1)))))).1 [b0, b1, b2, b3, b4, b5, b6, b7, plT o1 q1, b9, b10, b11, b12] = .ok (.sc (.bl (shut q1)), [b0, b1, b2, b3, b4, b5, b6, b7, plT o1 q1, b9, b10, b11, b12]) := fun b0 b1 b2 b3 b4 b5 b6 b7 b9 b10 b11 b12 => by
  match q1 with
  | none => (simp_all [plT, Z7]) <;> rfl
  | some (i, none) => cases o1 <;> (simp_all [plT, optD, ZU, Z7, ZaF, ix21]) <;> rfl
  | some (i, some j) => cases o1 <;> (simp_all [plT, optD, ZU, ZP, ZaF, ix21]) <;> rfl
 have ho10 : ∀ (b0 b1 b2 b3 b4 b5 b6 b7 b8 b9 b11 b12 : D), (evb ⟨lk, fok, fuel⟩ (.or (.isN true (.v 10)) (.isN false (.ix (.v 10) (.k (.int 1)))))).1 [b0, b1, b2, b3, b4, b5, b6, b7, b8, b9, plT o2 q2, b11, b12] = .ok (.sc (.bl (shut q2)), [b0, b1, b2, b3, b4, b5, b6, b7, b8, b9, plT o2 q2, b11, b12]) := fun b0 b1 b2 b3 b4 b5 b6 b7 b8 b9 b11 b12 => by
  match q2 with
  | none => (simp_all [plT, Z7]) <;> rfl
  | some (i, none) => cases o2 <;> (simp_all [plT, optD, ZU, Z7, ZaF, ix21]) <;> rfl
  | some (i, some j) => cases o2 <;> (simp_all [plT, optD, ZU, ZP, ZaF, ix21]) <;> rfl
 have nb : ∀ a b : Bool, Z4 .NotEq (.sc (.bl a)) (.sc (.bl b)) = some (a != b) := fun a b => by cases a <;> cases b <;> rfl
 have nst : Z4 .NotEq (.sc (.str z1)) (.sc (.str z2)) = some (decide (z1 ≠ z2)) := by
  show some (!decide (V.str z1 = V.str z2)) = _
  by_cases h : z1 = z2
  . subst h; simp
  . rw [decide_eq_false fun h' => h (V.str.inj h'), decide_eq_true h]; rfl
 have hor : ∀ (b0 b1 b2 b3 b4 b5 b6 b7 b8 b10 : D), (evb ⟨lk, fok, fuel⟩ (.or (.cmp .NotEq (.ix (.v 12) (.k (.int 0))) (.ix (.v 12) (.k (.int 1)))) (.and (.nt (.ix (.v 12) (.k (.int 0)))) (.cmp .NotEq (.v 9) (.v 11))))).2 [b0, b1, b2, b3, b4, b5, b6, b7, b8, S' z1, b10, S' z2, .node .lst true [.sc (.bl (shut q1)), .sc (.bl (shut q2))]] = .ok ((shut q1 != shut q2) || (!shut q1 && decide (z1 ≠ z2)), [b0, b1, b2, b3, b4, b5, b6, b7, b8, S' z1, b10, S' z2, .node .lst true [.sc (.bl (shut q1)), .sc (.bl (shut q2))]]) := fun b0 b1 b2 b3 b4 b5 b6 b7 b8 b10 => by
  generalize shut q1 = a
  generalize shut q2 = b
  cases a <;> cases b <;> (simp_all [ix20, ix21, nb, nst]) <;> rfl
 have v8 : ∀ (b0 b1 b2 b3 b4 b5 b6 b7 b9 b10 b11 b12 : D), vlR 8 [b0, b1, b2, b3, b4, b5, b6, b7, plT o1 q1, b9, b10, b11, b12] (some (plT o1 q1)) = .ok (plT false q1, [b0, b1, b2, b3, b4, b5, b6, b7, plT false q1, b9, b10, b11, b12]) := fun b0 b1 b2 b3 b4 b5 b6 b7 b9 b10 b11 b12 => by
  match q1 with
  | none => rfl
  | some (i, none) => cases o1 <;> rfl
  | some (i, some j) => cases o1 <;> rfl
 have v10 : ∀ (b0 b1 b2 b3 b4 b5 b6 b7 b8 b9 b11 b12 : D), vlR 10 [b0, b1, b2, b3, b4, b5, b6, b7, b8, b9, plT o2 q2, b11, b12] (some (plT o2 q2)) = .ok (plT false q2, [b0, b1, b2, b3, b4, b5, b6, b7, b8, b9, plT false q2, b11, b12]) := fun b0 b1 b2 b3 b4 b5 b6 b7 b8 b9 b11 b12 => by
  match q2 with
  | none => rfl
  | some (i, none) => cases o2 <;> rfl
  | some (i, some j) => cases o2 <;> rfl
 have u8 : ∀ (b0 b1 b2 b3 b4 b5 b6 b7 b9 b10 b11 b12 : D), vlR 8 [b0, b1, b2, b3, b4, b5, b6, b7, plT false q1, b9, b10, b11, b12] (some (plT false q1)) = .ok (plT false q1, [b0, b1, b2, b3, b4, b5, b6, b7, plT false q1, b9, b10, b11, b12]) := fun b0 b1 b2 b3 b4 b5 b6 b7 b9 b10 b11 b12 => by
  match q1 with
  | none => rfl
  | some (i, a) => rfl
 have u10 : ∀ (b0 b1 b2 b3 b4 b5 b6 b7 b8 b9 b11 b12 : D), vlR 10 [b0, b1, b2, b3, b4, b5, b6, b7, b8, b9, plT false q2, b11, b12] (some (plT false q2)) = .ok (plT false q2, [b0, b1, b2, b3, b4, b5, b6, b7, b8, b9, plT false q2, b11, b12]) := fun b0 b1 b2 b3 b4 b5 b6 b7 b8 b9 b11 b12 => by
  match q2 with
  | none => rfl
  | some (i, a) => rfl
 refine ⟨fun c m => ?_, fun c m => ?_, fun c => ?_⟩
 . refine ⟨I x, plT false q1, S' z1, plT false q2, S' z2, .node .lst true [.sc (.bl (shut q1)), .sc (.bl (shut q2))], ?_⟩
   have ng : (shut q1 != shut q2 || !shut q1 && decide (z1 ≠ z2)) = false := by rw [decide_eq_true c] at gs; revert gs; cases (shut q1 != shut q2 || !shut q1 && decide (z1 ≠ z2)) <;> simp
   have nin' : Z4 .NotIn (.nd .tup [plT false q1, plT false q2]) (.nd (.dpp (kz t)) (t.map gL)) = some false := by rw [nin, decide_eq_true m]; rfl
   rw [lsL, ZO]
   simp only [lsB, Z2, wbd, bdy, gd1, gd0, dL']
   generalize E.or (.isN true (.v 8)) (.isN false (.ix (.v 8) (.k (.int 1)))) = E8 at ho8 ⊢
   generalize E.or (.isN true (.v 10)) (.isN false (.ix (.v 10) (.k (.int 1)))) = E10 at ho10 ⊢
   generalize E.or (.cmp .NotEq (.ix (.v 12) (.k (.int 0))) (.ix (.v 12) (.k (.int 1)))) (.and (.nt (.ix (.v 12) (.k (.int 0)))) (.cmp .NotEq (.v 9) (.v 11))) = E12 at hor ⊢
   simp_all [ho8, ho10, hor, v8, v10, h3, h4, h7, h8, h9, h10, h11, h12, l1, ix20, ix21, s1, s2, Zbp, ng, Zv, nin', sD]
 . refine ⟨I x, plT false q1, S' z1, plT false q2, S' z2, .node .lst true [.sc (.bl (shut q1)), .sc (.bl (shut q2))], ?_⟩
   have ng : (shut q1 != shut q2 || !shut q1 && decide (z1 ≠ z2)) = false := by rw [decide_eq_true c] at gs; revert gs; cases (shut q1 != shut q2 || !shut q1 && decide (z1 ≠ z2)) <;> simp
   have nin' : Z4 .NotIn (.nd .tup [plT false q1, plT false q2]) (.nd (.dpp (kz t)) (t.map gL)) = some true := by rw [nin, decide_eq_false m]; rfl
   have mp := fun (δ : List D) (d : D) => md_P 4 δ (.nd .tup [plT false q1, plT false q2]) d gL t (q1, q2) (ZbX (q := (q1, q2)) (ZaO _) (ZaO _)) m ht
   have ma := fun (δ : List D) (d : D) => Zba 3 δ d qs (by rw [szl]; omega)
   have e1 : kz t ++ [pk (q1, q2)] = kz (t ++ [((q1, q2), e.2 ++ [x])]) := by show _ = List.map _ _; rw [List.map_append]; rfl
   have e2 : t.map gL ++ [I ((e.2.length : Nat) + 1 : Int)] = (t ++ [((q1, q2), e.2 ++ [x])]).map gL := by
    rw [List.map_append]
    show _ = _ ++ [I ((e.2 ++ [x]).length : Nat)]
    rw [List.length_append]
    rfl
   rw [lsL, ZO]
   simp only [lsB, Z2, wbd, bdy, gd1, gd0, dL']
   generalize E.or (.isN true (.v 8)) (.isN false (.ix (.v 8) (.k (.int 1)))) = E8 at ho8 ⊢
   generalize E.or (.isN true (.v 10)) (.isN false (.ix (.v 10) (.k (.int 1)))) = E10 at ho10 ⊢
   generalize E.or (.cmp .NotEq (.ix (.v 12) (.k (.int 0))) (.ix (.v 12) (.k (.int 1)))) (.and (.nt (.ix (.v 12) (.k (.int 0)))) (.cmp .NotEq (.v 9) (.v 11))) = E12 at hor ⊢
   simp_all [ho8, ho10, hor, v8, v10, u8, u10, h3, h4, h7, h8, h9, h10, h11, h12, l1, ix20, ix21, s1, s2, Zbp, ng, Zv, nin', sD, ix0, mp, ma, e1, e2]
 . have ng : (shut q1 != shut q2 || !shut q1 && decide (z1 ≠ z2)) = true := by rw [decide_eq_false c] at gs; revert gs; cases (shut q1 != shut q2 || !shut q1 && decide (z1 ≠ z2)) <;> simp
   refine ⟨[x2, .node .lst true qs, DL t, x5, qD false e, I x, plT o1 q1, S' z1, plT o2 q2, S' z2, .node .lst true [.sc (.bl (shut q1)), .sc (.bl (shut q2))]], ?_⟩
   rw [List.length_append, List.length_singleton]
   rw [lsL, ZO]
   simp only [lsB, Z2, wbd, bdy, gd1, gd0, dL']
   generalize E.or (.isN true (.v 8)) (.isN false (.ix (.v 8) (.k (.int 1)))) = E8 at ho8 ⊢
   generalize E.or (.isN true (.v 10)) (.isN false (.ix (.v 10) (.k (.int 1)))) = E10 at ho10 ⊢
   generalize E.or (.cmp .NotEq (.ix (.v 12) (.k (.int 0))) (.ix (.v 12) (.k (.int 1)))) (.and (.nt (.ix (.v 12) (.k (.int 0)))) (.cmp .NotEq (.v 9) (.v 11))) = E12 at hor ⊢
   (simp_all [ho8, ho10, hor, h3, h4, h7, h8, h9, h10, h11, h12, l1, ix20, ix21, s1, s2, Zbp, ng, sD, ix0]) <;> rfl
theorem Zgd : ∀ l : List D, (shrL l).length = l.length
 | [] => rfl
 | _ :: l => congrArg Nat.succ (Zgd l)
theorem Zqh (t : List Ent) : shrL (t.map (qD false)) = t.map (qD false) := by
 induction t with
 | nil => rfl
 | cons e t ih => rw [List.map_cons, shrL, ih, Zi7]
theorem Zlt (h3 : lk 3 = false) (h4 : lk 4 = false) (h7 : lk 7 = false) (h8 : lk 8 = false) (h9 : lk 9 = false) (h10 : lk 10 = false) (h11 : lk 11 = false) (h12 : lk 12 = false) {p1 n1 p2 n2 m : Nat} {cs1 cs2 : List (List Cel)} (T1 : TOk p1 n1 cs1) (T2 : TOk p2 n2 cs2) (x2 x5 : D) (e : Ent) : ∀ (xs : List Nat) (t : List Ent) (qs : List D) (a7 a8 a9 a10 a11 a12 : D), IOk (mv cs1 p1) (mv cs2 p2) m (plc n1) (plc n2) t -> e ∈ t -> (∀ x ∈ xs, x < m) -> shrL qs = t.map (qD false) ->
 (∀ r, scan (mv cs1 p1) (mv cs2 p2) e.1 e.2 xs t = .inl r -> ∃ rest, lsL lk fok fuel (dI (nI xs)) (dL' (CL false false cs1) (CL false false cs2) x2 qs t x5 [qD false e, a7, a8, a9, a10, a11, a12]) = .ok (.rt (I (r.length : Nat)), CL false false cs1 :: CL false false cs2 :: rest)) /\
 ∀ t', scan (mv cs1 p1) (mv cs2 p2) e.1 e.2 xs t = .inr t' -> ∃ qs' a7' a8' a9' a10' a11' a12', shrL qs' = t'.map (qD false) /\ lsL lk fok fuel (dI (nI xs)) (dL' (CL false false cs1) (CL false false cs2) x2 qs t x5 [qD false e, a7, a8, a9, a10, a11, a12]) = .ok (.nx, dL' (CL false false cs1) (CL false false cs2) x2 qs' t' x5 [qD false e, a7', a8', a9', a10', a11', a12']) := by
 have hL : (plc n1).length * (plc n2).length <= 441 := Nat.mul_le_mul (ZbB n1 (n14 T1.n1 T1.n4)) (ZbB n2 (n14 T2.n1 T2.n4))
 intro xs
 induction xs with
 | nil => exact fun t qs a7 a8 a9 a10 a11 a12 _ _ _ hq => ⟨fun r h => (by cases h), fun t' h => by cases h; exact ⟨qs, a7, a8, a9, a10, a11, a12, hq, rfl⟩⟩
 | cons x xs ih =>
  intro t qs a7 a8 a9 a10 a11 a12 hI he hx hq
  have hle := hI.le
  have q := hI.all e he
  have hx0 := hx x List.mem_cons_self
  have hxs : ∀ y ∈ xs, y < m := fun y hy => hx y (List.mem_cons_of_mem _ hy)
  have hql : qs.length <= 1000 := by
   have := congrArg List.length hq
   rw [Zgd, List.length_map] at this
   omega
  have st := Zls lk fok fuel h3 h4 h7 h8 h9 h10 h11 h12 _ _ x2 x5 (by omega) hI.nd he x _ _ (ZcV T1 false e.1.1 x (ZaG.mp q.a1)) (ZcV T2 false e.1.2 x (ZaG.mp q.a2)) qs hql (dI (nI xs)) a7 a8 a9 a10 a11 a12
  rw [Zdu]
  unfold scan
  by_cases c : gv (mv cs1 p1 e.1.1 x) = gv (mv cs2 p2 e.1.2 x)
  . rw [if_pos c]
    by_cases d : ((mv cs1 p1 e.1.1 x).1, (mv cs2 p2 e.1.2 x).1) ∈ t.map Prod.fst
    . rw [if_pos d]
      obtain ⟨b7, b8, b9, b10, b11, b12, st⟩ := st.1 c d
      rw [st]
      exact ih t qs _ _ _ _ _ _ hI he hxs hq
    . rw [if_neg d]
      obtain ⟨b7, b8, b9, b10, b11, b12, st⟩ := st.2.1 c d
      rw [st]
      refine ih _ _ _ _ _ _ _ _ (hI.more (Zbg T1) (Zbg T2) he hx0 c d) (List.mem_append_left _ he) hxs ?_
      rw [Zgc, hq, List.map_append]
      show _ ++ [T.shr _] = _
      rw [Zi7]
      rfl
  . rw [if_neg c]
    obtain ⟨rest, st⟩ := st.2.2 c
    rw [st]
    exact ⟨fun r h => by cases h; exact ⟨_, rfl⟩, fun t' h => (by cases h)⟩
noncomputable abbrev lsC : T.Ctx := { Cw with lock := fun i => decide (i < 2) }
noncomputable abbrev lsW : List T.S := wbd (Z2.getD 4 .pass)
theorem Zge {p1 n1 p2 n2 m : Nat} {cs1 cs2 : List (List Cel)} (T1 : TOk p1 n1 cs1) (T2 : TOk p2 n2 cs2) (hm : m <= 47) : ∀ (f n : Nat) (t : List Ent) (qs : List D) (a6 a7 a8 a9 a10 a11 a12 : D), IOk (mv cs1 p1) (mv cs2 p2) m (plc n1) (plc n2) t -> n <= t.length -> shrL qs = t.map (qD false) ->
 ∀ r, bfs (mv cs1 p1) (mv cs2 p2) m f n t = some r -> ∃ rest, Z8 (evb lsC (.cmp .Lt (.v 5) (.bf .len [.v 3]))).2 (exs lsC lsW) f (dL' (CL false false cs1) (CL false false cs2) (I m) qs t (I n) [a6, a7, a8, a9, a10, a11, a12]) = .ok ((match r with | none => Fl.nx | some row => .rt (I (row.length : Nat))), CL false false cs1 :: CL false false cs2 :: rest)
 | 0, _, _, _, _, _, _, _, _, _, _, _, _, _, r, h => (by cases h)
 | f + 1, n, t, qs, a6, a7, a8, a9, a10, a11, a12, hI, hn, hq, r, h => by
  unfold bfs at h
  have hlen : ((t.map (qD false)).length : Int) = (t.length : Int) := by rw [List.length_map]
  have hc : (evb lsC (.cmp .Lt (.v 5) (.bf .len [.v 3]))).2 (dL' (CL false false cs1) (CL false false cs2) (I m) qs t (I n) [a6, a7, a8, a9, a10, a11, a12]) = .ok (decide ((n : Int) < (t.length : Int)), dL' (CL false false cs1) (CL false false cs2) (I m) (t.map (qD false)) t (I n) [a6, a7, a8, a9, a10, a11, a12]) := by
   simp only [dL']
   (simp_all [hq, hlen]) <;> rfl
  by_cases hl : n < t.length
  . have hg := List.getElem?_eq_getElem hl
    have he : t[n] ∈ t := List.getElem_mem hl
    have hx := ixG (qD false) t ((none, none), []) n hl
    rw [show t.getD n ((none, none), []) = t[n] by rw [List.getD_eq_getElem?_getD, hg]; rfl] at hx
    rw [decide_eq_true (show (n : Int) < (t.length : Int) by omega)] at hc
    rw [hg] at h
    clear hg
    generalize t[n] = e at h he hx
    obtain ⟨q, row⟩ := e
    have sq := Zqh t
    have lp := Zlt (fun j => decide (j < 2) || walked [.v 2] j) Cw.fok Cw.fuel rfl rfl rfl rfl rfl rfl rfl rfl T1 T2 (I m) (I ((n + 1 : Nat) : Int)) (q, row) (List.range m) t (t.map (qD false)) a7 a8 a9 a10 a11 a12 hI he (fun x hx => List.mem_range.mp hx) sq
    have so := Zcq (Zbg T1) (Zbg T2) (q, row) (List.range m) t hI he fun x hx => List.mem_range.mp hx
    have hit : itW .rng1 [.sc (.int (m : Int))] = some (dI (nI (List.range m))) := by
     have := ZdS (m : Int) (by omega)
     rw [Int.toNat_natCast, ZeG] at this
     exact this
    have en : ((n + 1 : Nat) : Int) = (n : Int) + 1 := rfl
    simp only [walked, Bool.or_false, lsL, lsB, Z2, wbd, bdy, gd1, gd0, dL', en] at lp
    cases hs : scan (mv cs1 p1) (mv cs2 p2) q row (List.range m) t with
    | inl rw' =>
     simp only [hs] at h
     cases h
     obtain ⟨rest, lp⟩ := lp.1 rw' hs
     refine ⟨rest, ZeF hc ?_⟩
     simp only [lsW, Z2, wbd, gd1, gd0, dL']
     (simp_all [sq, hx, hit, lp]) <;> rfl
    | inr t' =>
     simp only [hs] at h
     obtain ⟨qs2, a7', a8', a9', a10', a11', a12', hq2, lp⟩ := lp.2 t' hs
     have s2 := so.2 t' hs
     obtain ⟨rest, ih⟩ := Zge T1 T2 hm f (n + 1) t' qs2 (qD false (q, row)) a7' a8' a9' a10' a11' a12' s2.1 (by omega) hq2 r h
     refine ⟨rest, ?_⟩
     rw [ZfZ hc (δ2 := dL' (CL false false cs1) (CL false false cs2) (I m) qs2 t' (I ((n + 1 : Nat) : Int)) [qD false (q, row), a7', a8', a9', a10', a11', a12']) ?_]
     . exact ih
     . simp only [lsW, Z2, wbd, gd1, gd0, dL', en]
       (simp_all [sq, hx, hit, lp]) <;> rfl
  . rw [decide_eq_false (show ¬ (n : Int) < (t.length : Int) by omega)] at hc
    rw [List.getElem?_eq_none (by omega)] at h
    cases h
    exact ⟨_, ZeE hc⟩
noncomputable def lenD : Option (List Nat) -> D
 | none => .sc .non
 | some row => I (row.length : Nat)
theorem Zi8 {p1 n1 p2 n2 : Nat} {cs1 cs2 : List (List Cel)} (T1 : TOk p1 n1 cs1) (T2 : TOk p2 n2 cs2) (r : Option (List Nat)) (h : bfs (mv cs1 p1) (mv cs2 p2) (max p1 p2) 1000 0 t0 = some r) : Zbe.run [CL false false cs1, CL false false cs2] = .ok (lenD r, [CL false false cs1, CL false false cs2]) := by
 have b1 := (ZZ p1 T1.hp).2
 have b2 := (ZZ p2 T2.hp).2
 obtain ⟨rest, hw⟩ := Zge T1 T2 (m := max p1 p2) (by omega) 1000 0 t0 (t0.map (qD false)) .hole .hole .hole .hole .hole .hole .hole (Zhw _ T1 T2) (Nat.zero_le _) rfl r h
 walk_at "r"
 have x1 := ixG (CR false) cs1 [] 0 (by rw [T1.len]; exact T1.n1)
 have x2 := ixG (CR false) cs2 [] 0 (by rw [T2.len]; exact T2.n1)
 have l1 : (((cs1.getD 0 []).map (cwD false)).length : Int) = (p1 : Int) := by rw [List.length_map, (T1.all _ (Zaa cs1 [] 0 (by rw [T1.len]; exact T1.n1))).1]
 have l2 : (((cs2.getD 0 []).map (cwD false)).length : Int) = (p2 : Int) := by rw [List.length_map, (T2.all _ (Zaa cs2 [] 0 (by rw [T2.len]; exact T2.n1))).1]
 rw [show ((0 : Nat) : Int) = 0 from rfl] at x1 x2 hw
 have mx := Zhx p1 p2
 have kp : keyP (.nd .tup [.node .tup false [I 0, .sc .non], .node .tup false [I 0, .sc .non]]) = some (pk (some (0, none), some (0, none))) := ZbX (q := (some (0, none), some (0, none))) (.tup 0 none) (.tup 0 none)
 have ix1 : ∀ d : D, ((ixN' 1 0).bind fun j => [d][j]?) = some d := fun _ => rfl
 have e1 : D.node (.dpp [pk (some (0, none), some (0, none))]) true [D.sc (.int 0)] = DL t0 := rfl
 have e2 : D.node .lst true [D.node .tup false [.node .tup false [I 0, .sc .non], .node .tup false [I 0, .sc .non]]] = .node .lst true (t0.map (qD false)) := rfl
 replace hw : Z8 (evb { Cw with lock := fun i => decide (i < 2) } (.cmp .Lt (.v 5) (.bf .len [.v 3]))).2 (exs { Cw with lock := fun i => decide (i < 2) } lsW) Cw.fuel _ = _ := hw
 generalize E.cmp .Lt (.v 5) (.bf .len [.v 3]) = E5 at hw ⊢
 simp only [lsW, Z2, wbd, gd1, gd0, dL'] at hw
 cases r with
 | none => (simp_all [x1, x2, l1, l2, mx, Zv, ZbW, ix1, kp, e1, e2, hw]) <;> rfl
 | some row => (simp_all [x1, x2, l1, l2, mx, Zv, ZbW, ix1, kp, e1, e2, hw]) <;> rfl
theorem Znp {p n : Nat} {cs : List (List Cel)} (h : TOk p n cs) {q : P} (hq : POk n q) (x : Nat) : (mv cs p q x).2.length <= 1 := by
 match q, hq with
 | none, _ => exact Nat.zero_le _
 | some (i, a), ⟨hi, ha⟩ =>
  by_cases hx : x < p
  . rw [show mv cs p (some (i, a)) x = mvS (stp (cwW (cel cs i a x)) i a) from if_pos hx]
    have hc := (h.cel hi ha hx).2.2
    cases hs : stp (cwW (cel cs i a x)) i a with
    | none => exact Nat.zero_le _
    | some r =>
     obtain ⟨⟨i', a'⟩, s⟩ := r
     exact (Ziz h.n4 (Zdt hc) hi hs).2.2
  . rw [show mv cs p (some (i, a)) x = (none, Str.empty) from if_neg hx]
    exact Nat.zero_le _
theorem Zgp (a b : Str) : (a ++ b).length = a.length + b.length := by
 show (a ++ b).cps.toList.length = a.cps.toList.length + b.cps.toList.length
 rw [Zbf, List.length_append]
noncomputable abbrev rdL : List D -> M Fl := forL (asgT lk (.name 4)) (exs ⟨lk, fok, fuel⟩ (bdy (Za8.getD 2 .pass)))
theorem Zi9 (h2 : lk 2 = false) (h3 : lk 3 = false) (h4 : lk 4 = false) (h5 : lk 5 = false) {p n : Nat} {cs : List (List Cel)} (T1 : TOk p n cs) (x1 : D) : ∀ (xs : List Nat) (q : P × Str) (o : Bool) (a4 a5 : D), POk n q.1 -> q.2.length + xs.length <= 1000 -> ∃ o' a4' a5', rdL lk fok fuel (dI (nI xs)) [CL false false cs, x1, plT o q.1, S' q.2, a4, a5] = .ok (.nx, [CL false false cs, x1, plT o' (wkP (mv cs p) xs q).1, S' (wkP (mv cs p) xs q).2, a4', a5']) := by
 intro xs
 induction xs with
 | nil => exact fun q o a4 a5 _ _ => ⟨o, a4, a5, rfl⟩
 | cons x xs ih =>
  intro q o a4 a5 hq hl
  rw [List.length_cons] at hl
  have l1 : ZD.lend = true := rfl
  obtain ⟨o1, o2, hm⟩ := ZcV T1 o q.1 x hq
  have hlen := Znp T1 hq x
  have hp : POk n (mv cs p q.1 x).1 := ZaG.mp ((Zbg T1).cl _ (ZaG.mpr hq) x)
  obtain ⟨o', a4', a5', ih⟩ := ih ((mv cs p q.1 x).1, q.2 ++ (mv cs p q.1 x).2) o1 (I x) (S' (mv cs p q.1 x).2) hp (by rw [Zgp]; omega)
  refine ⟨o', a4', a5', ?_⟩
  have ad : binW .Add (.sc (.str q.2)) (.sc (.str (mv cs p q.1 x).2)) = some (S' (q.2 ++ (mv cs p q.1 x).2)) := if_pos (by rw [szl]; omega)
  rw [Zdu]
  show _ = Rs.ok (Fl.nx, [CL false false cs, x1, plT o' (wkP (mv cs p) xs ((mv cs p q.1 x).1, q.2 ++ (mv cs p q.1 x).2)).1, S' (wkP (mv cs p) xs ((mv cs p q.1 x).1, q.2 ++ (mv cs p q.1 x).2)).2, a4', a5'])
  rw [<- ih, rdL, ZO]
  simp only [Za8, bdy, gd1, gd0]
  obtain ⟨q, z⟩ := q
  generalize mv cs p q x = r at hm ad
  obtain ⟨q', s⟩ := r
  match q, o with
  | none, _ =>
   simp only [plT] at hm
   simp_all [h2, h3, h4, h5, l1, plT, hm, ZeU, ad]
  | some (i, a), true =>
   simp only [plT] at hm
   simp_all [h2, h3, h4, h5, l1, plT, hm, ZeU, ad]
  | some (i, a), false =>
   simp only [plT] at hm
   simp_all [h2, h3, h4, h5, l1, plT, hm, ZeU, ad]
theorem Zgf {p n : Nat} {cs : List (List Cel)} (h : TOk p n cs) (row : List Nat) (hl : row.length <= 1000) : ZaM.run [CL false false cs, Ls true (nI row)] = .ok (.sc (gvD (rdP (mv cs p) row)), [CL false false cs, Ls true (nI row)]) := by
 obtain ⟨o, a4, a5, hf⟩ := Zi9 (fun j => decide (j < 2) || walked [.v 1] j) (fun _ _ => false) 0 rfl rfl rfl rfl h .hole row q0 true .hole .hole ⟨h.n1, nofun⟩ (by show 0 + _ <= _; omega)
 simp only [walked, Bool.or_false, rdL, Za8, bdy, gd1, gd0] at hf
 walk_at "r"
 have z0 := st0
 have hi : ∀ ds : List D, itW .val [.nd .lst ds] = some ds := fun _ => rfl
 have e1 : D.node .tup true [D.sc (.int 0), D.sc .non] = plT true (some (0, none)) := rfl
 have z1 : D.sc (.str (Str.ofString "")) = S' Str.empty := st0
 unfold rdP
 generalize wkP (mv cs p) row q0 = r at hf
 obtain ⟨q, z⟩ := r
 simp_all [Zv, e1, z1, hi, Za4, hf]
 match q with
 | none => (simp_all [plT, Z7]) <;> rfl
 | some (i, none) => cases o <;> (simp_all [plT, optD, ZU, Z7, ZaF, ix21]) <;> rfl
 | some (i, some j) => cases o <;> (simp_all [plT, optD, ZU, ZP, ZaF, ix21]) <;> rfl
noncomputable abbrev rtL : List D -> M Fl := forL (asgT lk (.name 4)) (exs ⟨lk, fok, fuel⟩ (bdy (Zau.getD 2 .pass)))
theorem Zlu (h4 : lk 4 = false) {p1 n1 p2 n2 : Nat} {cs1 cs2 : List (List Cel)} (T1 : TOk p1 n1 cs1) (T2 : TOk p2 n2 cs2) (x0 x3 : D) : ∀ (xs : List Nat) (a : D), (∀ x ∈ xs, x < max p1 p2) -> ∃ a', rtL lk fok fuel (dI (nI xs)) [x0, CL false false cs1, CL false false cs2, x3, a] = .ok (.nx, [x0, CL false false cs1, CL false false cs2, x3, a']) := by
 have y1 := ixG (CR false) cs1 [] 0 (by rw [T1.len]; exact T1.n1)
 have y2 := ixG (CR false) cs2 [] 0 (by rw [T2.len]; exact T2.n1)
 have l1 : (((cs1.getD 0 []).map (cwD false)).length : Int) = (p1 : Int) := by rw [List.length_map, (T1.all _ (Zaa cs1 [] 0 (by rw [T1.len]; exact T1.n1))).1]
 have l2 : (((cs2.getD 0 []).map (cwD false)).length : Int) = (p2 : Int) := by rw [List.length_map, (T2.all _ (Zaa cs2 [] 0 (by rw [T2.len]; exact T2.n1))).1]
 rw [show ((0 : Nat) : Int) = 0 from rfl] at y1 y2
 have mx := Zhx p1 p2
 intro xs
 induction xs with
 | nil => exact fun a _ => ⟨a, rfl⟩
 | cons x xs ih =>
  intro a hx
  have hx0 := hx x List.mem_cons_self
  obtain ⟨a', ih⟩ := ih (I x) fun y hy => hx y (List.mem_cons_of_mem _ hy)
  refine ⟨a', ?_⟩
  have c1 : ¬ ((x : Int) < 0) := by omega
  have c2 : ¬ (((max p1 p2 : Nat) : Int) <= (x : Int)) := by omega
  rw [Zdu, <- ih, rtL, ZO]
  simp only [Zau, bdy, gd1, gd0]
  simp_all [h4, Zqd, ZjR, Zqb, Zqc, y1, y2, l1, l2, mx, c1, c2]
theorem Zqi (ds : List D) : tyW .list (.nd .lst ds) = some true := (rfl)
theorem Zqj (w : W) : bfW (.isi .list) [w] = (tyW .list w).map fun b => .sc (.bl b) := (rfl)
theorem Zhy (A B : D) (hA : ∃ ds, A = .node .lst false ds) (hB : ∃ ds, B = .node .lst false ds) : ZY.run [.sc .non, A, B, .sc .non] = .ok (.sc (.bl true), [.sc .non, A, B, .sc .non]) := by
 obtain ⟨a, rfl⟩ := hA
 obtain ⟨b, rfl⟩ := hB
 walk_at "r"
 (simp_all [Z7]) <;> rfl
theorem Zhz {p1 n1 p2 n2 N : Nat} {cs1 cs2 : List (List Cel)} (T1 : TOk p1 n1 cs1) (T2 : TOk p2 n2 cs2) (hN : N <= 1000) (r : List Nat) (h : Parts (mv cs1 p1) (mv cs2 p2) (max p1 p2) N r) : ZY.run [Ls true (nI r), CL false false cs1, CL false false cs2, I (r.length : Nat)] = .ok (.sc (.bl true), [Ls true (nI r), CL false false cs1, CL false false cs2, I (r.length : Nat)]) := by
 have hl := h.len
 obtain ⟨a, hf⟩ := Zlu (fun j => decide (j < 4) || walked [.v 0] j) (fun _ _ => false) 0 rfl T1 T2 .hole (I (r.length : Nat)) r .hole h.hx
 simp only [walked, Bool.or_false, rtL, Zau, bdy, gd1, gd0] at hf
 have r1 := Zgf T1 r (by omega)
 have r2 := Zgf T2 r (by omega)
 have ng : Z4 .NotEq (.sc (gvD (rdP (mv cs1 p1) r))) (.sc (gvD (rdP (mv cs2 p2) r))) = some true := by rw [ZjZ, decide_eq_false h.ne]; rfl
 have hlen : ((dI (nI r)).length : Int) = (r.length : Int) := by rw [Zga]
 have hd : decide (V.int (r.length : Int) = V.int (r.length : Int)) = true := decide_eq_true rfl
 have hi : ∀ ds : List D, itW .val [.nd .lst ds] = some ds := fun _ => rfl
 have k1 : ZaM.lend = true := rfl
 walk_at "r"
 (simp_all [ZP, Zqj, Zqi, Za4, hlen, hd, hi, hf, k1, r1, r2, ng]) <;> rfl
theorem Zj5 : ∀ p ∈ primes, ∀ c ∈ (first p).cps.toList, c < 128 := by walk_at "d"
theorem Znq : ∀ n ∈ [1, 2, 3, 4], ∀ w ∈ wds n, ∀ c ∈ w.cps.toList, c < 128 := by walk_at "d"
theorem ZgO {p n : Nat} {rs : List (List Str)} (hp : p ∈ primes) (hn : n ∈ [1, 2, 3, 4]) (h : Zcn p n rs) : PyData.strOk (text p rs) = true := by
 have key : ∀ x ∈ (text p rs).cps.toList, x < 128 := fun x hx => by
  have hx' : x ∈ (Builtin.Str.glued ⟨#[10]⟩ (lines p rs)).cps.toList := hx
  rw [StrLaws.glued_eq_join] at hx'
  rcases Zb4 10 _ x hx' with e | ⟨l, hl, hx⟩
  . omega
  . rcases List.mem_cons.mp hl with rfl | hl
    . exact Zj5 p hp x hx
    . obtain ⟨r, hr, rfl⟩ := List.mem_map.mp hl
      have hy : x ∈ (Builtin.Str.glued ⟨#[32]⟩ r).cps.toList := hx
      rw [StrLaws.glued_eq_join] at hy
      rcases Zb4 32 _ x hy with e | ⟨w, hw, hx⟩
      . omega
      . exact Znq n hn w ((h r hr).2 w hw) x hx
 unfold PyData.strOk
 rw [Array.all_eq_true]
 intro i hi
 have := key _ (Array.getElem_mem_toList hi)
 simp only [decide_eq_true_eq]
 omega
theorem Znr (a b : Str) (ha : PyData.strOk a = true) (hb : PyData.strOk b = true) : Z4 .Eq (.nd .lst [S' a, S' b]) (.nd .lst [S' a, S' b]) = some true := by
 show eqPy (.list [.str a, .str b]) (.list [.str a, .str b]) = _
 unfold eqPy
 have sh : SeqAt.shaped (.list [.str a, .str b]) = true := by
  have h1 : (PyData.list [.str a, .str b]).canLay0 = true := by simp [PyData.canLay0, PyData.canLayAll0, ha, hb]
  have h2 : (PyData.list [.str a, .str b]).depth <= 64 := by simp [PyData.depth, PyData.depthAll]
  simp only [SeqAt.shaped, h1, h2, decide_true, Bool.and_self]
 rw [if_pos ⟨sh, sh⟩]
 simp [PyData.eqv, PyData.eqvAll]
theorem Zdv (C : T.Ctx) (b : List T.S) : ∀ (a : List T.S) (δ : List D), exs C (a ++ b) δ = seqR (exs C b) (exs C a δ)
 | [], δ => by rw [List.nil_append, exs0]; rfl
 | s :: a, δ => by
  rw [List.cons_append, exs1, exs1]
  cases ex C s δ with
  | stuck => rfl
  | exc x y => rfl
  | ok r =>
   obtain ⟨f, δ'⟩ := r
   cases f with
   | nx => exact Zdv C b a δ'
   | rt d => rfl
   | bk => rfl
   | ct => rfl
noncomputable abbrev lC (C : Addr) : T.Ctx := { CK C with lock := fun i => decide (i < 1) }
theorem Zka (a b c d e f : D) : newL [a, b, c, d, e, f] = some (.node .lst true [a, b, c, d, e, f]) := Zay _ (by rw [szl]; simp)
theorem Zqk (q : Nat) (hq : q ∈ primes) (r : Int) : ∃ p ∈ primes, ((ixN' 6 (r % 6)).bind fun j => [D.sc (.int 5), D.sc (.int 7), D.sc (.int 11), D.sc (.int 43), D.sc (.int 17), D.sc (.int (q : Int))][j]?) = some (.sc (.int (p : Nat))) := by
 obtain ⟨k, hk, e⟩ := Zbo r 6 (by decide)
 replace e : r % 6 = (k : Int) := e
 rw [e]
 match k, hk with
 | 0, _ => exact ⟨5, by decide, rfl⟩
 | 1, _ => exact ⟨7, by decide, rfl⟩
 | 2, _ => exact ⟨11, by decide, rfl⟩
 | 3, _ => exact ⟨43, by decide, rfl⟩
 | 4, _ => exact ⟨17, by decide, rfl⟩
 | 5, _ => exact ⟨q, hq, rfl⟩
theorem Zns (r : Int) : ∃ p ∈ primes, ((ixN' 6 (r % 6)).bind fun j => [D.sc (.int 5), D.sc (.int 7), D.sc (.int 11), D.sc (.int 13), D.sc (.int 17), D.sc (.int 47)][j]?) = some (.sc (.int (p : Nat))) := by
 obtain ⟨k, hk, e⟩ := Zbo r 6 (by decide)
 replace e : r % 6 = (k : Int) := e
 rw [e]
 match k, hk with
 | 0, _ => exact ⟨5, by decide, rfl⟩
 | 1, _ => exact ⟨7, by decide, rfl⟩
 | 2, _ => exact ⟨11, by decide, rfl⟩
 | 3, _ => exact ⟨13, by decide, rfl⟩
 | 4, _ => exact ⟨17, by decide, rfl⟩
 | 5, _ => exact ⟨47, by decide, rfl⟩
theorem Zql (C : Addr) (ns : List Int) : ∃ (x0 x1 x2 x3 : Int) (p n1 : Nat) (cs1 : List (List Cel)) (p2 n2 : Nat) (cs2 : List (List Cel)), TOk p n1 cs1 /\ TOk p2 n2 cs2 /\ exs (lC C) ((Zah C).take 4) [scr ns, .hole, .hole, .hole, .hole, .hole, .hole, .hole, .hole, .hole, .hole] = .ok (.nx, [scr ns, Ls true [x0, x1, x2, x3], I p, CL true false cs1, CL true false cs2, .hole, .hole, .hole, .hole, .hole, .hole]) := by
 obtain ⟨c, hc⟩ := Zd9 ns 0
 obtain ⟨ys, hy, hs⟩ := ZdZ c 4 (by decide)
 match ys, hy with
 | [x0, x1, x2, x3], _ =>
  obtain ⟨p, hp, hx⟩ := Zns x0
  obtain ⟨n1, cs1, T1, r1⟩ := ZeB ns 1 p hp
  obtain ⟨p2, hp2, hx2⟩ := Zqk p hp x1
  obtain ⟨n2, cs2, T2, r2⟩ := ZeB ns 6 p2 hp2
  refine ⟨x0, x1, x2, x3, p, n1, cs1, p2, n2, cs2, T1, T2, ?_⟩
  simp only [Zah, List.take_succ_cons, List.take_zero]
  have k1 : ZM.lend = true := rfl
  have k2 : ZF.lend = true := rfl
  have k3 : Za6.lend = true := rfl
  have e6 : ∀ a : Int, binW .Mod (.sc (.int a)) (.sc (.int 6)) = some (.sc (.int (a % 6))) := fun a => Za1 _ _ (by decide)
  have i40 : ∀ a b c d : D, ((ixN' 4 0).bind fun j => [a, b, c, d][j]?) = some a := fun _ _ _ _ => rfl
  have i41 : ∀ a b c d : D, ((ixN' 4 1).bind fun j => [a, b, c, d][j]?) = some b := fun _ _ _ _ => rfl
  have hk0 : ∀ C : T.Ctx, (evb C (.kl [(.int 5), (.int 7), (.int 11), (.int 13), (.int 17), (.int 47)])).1 = M.ret (.node .lst true [D.sc (.int 5), D.sc (.int 7), D.sc (.int 11), D.sc (.int 13), D.sc (.int 17), D.sc (.int 47)]) := fun C => by
   show lift (newL [D.sc (.int 5), D.sc (.int 7), D.sc (.int 11), D.sc (.int 13), D.sc (.int 17), D.sc (.int 47)]) = _
   rw [Zka]
   rfl
  rw [show ((0 : Nat) : Int) = 0 from rfl] at hc
  rw [show ((4 : Nat) : Int) = 4 from rfl] at hs
  rw [show ((1 : Nat) : Int) = 1 from rfl] at r1
  rw [show ((6 : Nat) : Int) = 6 from rfl] at r2
  simp only [scr] at hc r1 r2
  simp only [Ls, ZaV, ZfB] at hs ⊢
  (simp_all [k1, k2, k3, hc, hs, i40, i41, e6, hk0, hx, r1, Zka, hx2, r2]) <;> rfl
theorem ZiA (h0 : lk 0 = false) : ∀ (cs done : List (List Cel)) (a : D), ∃ a', Zae (asgT lk (.name 0)) (tsts ⟨lk, fok, fuel⟩ []) (evb ⟨lk, fok, fuel⟩ (.bf .list [.v 0])).1 (cs.map (CR false)) (done.map (CR true)) [a] = .ok ((done ++ cs).map (CR true), [a']) := by
 intro cs
 induction cs with
 | nil => exact fun done a => ⟨a, by rw [List.append_nil]; rfl⟩
 | cons r cs ih =>
  intro done a
  obtain ⟨a', ih⟩ := ih (done ++ [r]) (CR false r)
  refine ⟨a', ?_⟩
  rw [List.append_assoc, List.map_append] at ih
  have e : (done ++ r :: cs).map (CR true) = (done ++ ([r] ++ cs)).map (CR true) := rfl
  rw [e, <- ih, List.map_cons, Zbb]
  simp_all [h0]
theorem ZdA : ∀ (l : List D) (k : Nat) (d : D), shrL (l.set k d) = (shrL l).set k (T.shr d)
 | [], _, _ => rfl
 | _ :: _, 0, _ => rfl
 | x :: l, k + 1, d => congrArg (T.shr x :: ·) (ZdA l k d)
theorem Zlv {C : T.Ctx} {e : E} {δ δ1 : List D} {d : D} {i j l k5 k6 : Nat} {ds es : List D} (h : (evb C e).1 δ = .ok (d, δ1)) (hj : δ1[j]? = some (I k5)) (hl : δ1[l]? = some (I k6)) (hi : δ1[i]? = some (.node .lst true ds)) (h5 : ds[k5]? = some (.node .lst true es)) (h6 : k6 < es.length) : ex C (.sub i [.v j] (.v l) e) δ = .ok (.nx, δ1.set i (.node .lst true (ds.set k5 (.node .lst true (es.set k6 d))))) := by
 rw [Zio]
 have hlt : k5 < ds.length := by
  rcases Nat.lt_or_ge k5 ds.length with q | q
  . exact q
  . rw [List.getElem?_eq_none q] at h5; cases h5
 have hs : setD (.sc (.int (k6 : Int))) d .lst es = some (.sc .non, .lst, es.set k6 d) := by
  show (ixN' es.length (k6 : Int)).map _ = _
  rw [ZaU _ _ h6]
  rfl
 have hm : Zde i (k5 : Int) (setD (.sc (.int (k6 : Int))) d) δ1 = .ok (.sc .non, δ1.set i (.node .lst true (ds.set k5 (.node .lst true (es.set k6 d))))) := by
  unfold Zde
  simp only [hi, ZaU _ _ hlt, h5, hs]
 unfold subV
 dsimp only
 rw [Zac h]
 simp only [hj, hl]
 rw [Zac hm]
 rfl
theorem TOk.set {p n : Nat} {cs : List (List Cel)} (h : TOk p n cs) (k5 k6 : Nat) (h5 : k5 < n) (c : Cel) (hc : ZaN n c) : TOk p n (cs.set k5 ((cs.getD k5 []).set k6 c)) := by
 refine ⟨h.hp, h.n1, h.n4, by rw [List.length_set]; exact h.len, fun r hr => ?_⟩
 rcases List.mem_or_eq_of_mem_set hr with q | q
 . exact h.all r q
 . have := h.all _ (Zaa cs [] k5 (by rw [h.len]; exact h5))
   subst q
   refine ⟨by rw [List.length_set]; exact this.1, fun y hy => ?_⟩
   rcases List.mem_or_eq_of_mem_set hy with q | q
   . exact this.2 y q
   . rw [q]; exact hc
theorem Zlw {p n : Nat} {cs : List (List Cel)} (h : TOk p n cs) (k5 k6 : Nat) (h5 : k5 < n) (c : Cel) : shrL ((cs.map (CR true)).set k5 (.node .lst true (((cs.getD k5 []).map (cwD false)).set k6 (cwD true c)))) = (cs.set k5 ((cs.getD k5 []).set k6 c)).map (CR false) := by
 rw [ZdA, Zav, List.map_set]
 congr 1
 show D.node .lst false (shrL _) = D.node .lst false _
 rw [ZdA, Zeo, List.map_set]
 congr 2
 show D.node .tup false (shrL (cwV c)) = _
 rw [Zi3]
noncomputable abbrev lB (C : Addr) : List T.S := ((Zah C).drop 4).take 1
noncomputable def sorts : List Str := ["sign", "nothing", "lock", "shift"]
theorem Zj6 (n k : Nat) (hk : k < n) (j : Nat) (hj : j < 4) : ∃ (c : Cel) (z : Str) (b : Bool) (v : V), ZaN n c /\ sorts.getD j Str.empty = z /\ decide (V.str z = V.str "sign") = b /\ (v = if b then .str "a" else .int (k : Int)) /\ cwV c = [S' z, .sc v] := by
 obtain ⟨q1, q2, q3, q4, q5, q6⟩ := ss1
 match j, hj with
 | 0, _ => exact ⟨.sg 97, "sign", true, .str "a", (show 97 ∈ sgn by decide), rfl, decide_eq_true rfl, rfl, by kernel_rfl⟩
 | 1, _ => exact ⟨.no k, "nothing", false, .int k, trivial, rfl, q1, rfl, rfl⟩
 | 2, _ => exact ⟨.lk k, "lock", false, .int k, hk, rfl, q2, rfl, rfl⟩
 | 3, _ => exact ⟨.sh k, "shift", false, .int k, hk, rfl, q3, rfl, rfl⟩
theorem Zqm (C : Addr) (ns : List Int) (x0 x1 x2 x3 : Int) {p n1 p2 n2 : Nat} {cs1 cs2 : List (List Cel)} (T1 : TOk p n1 cs1) (T2 : TOk p2 n2 cs2) : ∃ (p2' n2' : Nat) (cs2' : List (List Cel)) (ds4 : List D) (a5 a6 a7 : D), TOk p2' n2' cs2' /\ shrL ds4 = cs2'.map (CR false) /\ exs (lC C) (lB C) [scr ns, Ls true [x0, x1, x2, x3], I p, CL true false cs1, CL true false cs2, .hole, .hole, .hole, .hole, .hole, .hole] = .ok (.nx, [scr ns, Ls true [x0, x1, x2, x3], I p, CL true false cs1, .node .lst true ds4, a5, a6, a7, .hole, .hole, .hole]) := by
 have hpl := ZZ p T1.hp
 have e2 : ∀ a : Int, binW .Mod (.sc (.int a)) (.sc (.int 2)) = some (.sc (.int (a % 2))) := fun a => Za1 _ _ (by decide)
 have e4 : ∀ a : Int, binW .Mod (.sc (.int a)) (.sc (.int 4)) = some (.sc (.int (a % 4))) := fun a => Za1 _ _ (by decide)
 have d2 : ∀ a : Int, binW .FloorDiv (.sc (.int a)) (.sc (.int 2)) = some (.sc (.int (a / 2))) := fun a => Zb2 _ _ (by decide)
 have d4 : ∀ a : Int, binW .FloorDiv (.sc (.int a)) (.sc (.int 4)) = some (.sc (.int (a / 4))) := fun a => Zb2 _ _ (by decide)
 have d100 : ∀ a : Int, binW .FloorDiv (.sc (.int a)) (.sc (.int 100)) = some (.sc (.int (a / 100))) := fun a => Zb2 _ _ (by decide)
 have d400 : ∀ a : Int, binW .FloorDiv (.sc (.int a)) (.sc (.int 400)) = some (.sc (.int (a / 400))) := fun a => Zb2 _ _ (by decide)
 have en : ∀ a : Int, binW .Mod (.sc (.int a)) (.sc (.int (n1 : Int))) = some (.sc (.int (a % n1))) := fun a => Za1 _ _ (by have := T1.n1; omega)
 have ep : ∀ a : Int, binW .Mod (.sc (.int a)) (.sc (.int (p : Int))) = some (.sc (.int (a % p))) := fun a => Za1 _ _ (by omega)
 have i42 : ∀ a b c d : D, ((ixN' 4 2).bind fun j => [a, b, c, d][j]?) = some c := fun _ _ _ _ => rfl
 have i43 : ∀ a b c d : D, ((ixN' 4 3).bind fun j => [a, b, c, d][j]?) = some d := fun _ _ _ _ => rfl
 have hi : ∀ ds : List D, itW .val [.nd .lst ds] = some ds := fun _ => rfl
 have hlen : ∀ b, ((cs1.map (CR b)).length : Int) = (n1 : Int) := fun b => by rw [List.length_map, T1.len]
 have sr : shrL (ns.map fun i => D.sc (.int i)) = ns.map fun i => D.sc (.int i) := Za4 ns
 simp only [lB, Zah, List.drop_succ_cons, List.drop_zero, List.take_succ_cons, List.take_zero, Ls, ZaV, ZfB, scr]
 by_cases c1 : x2 % 2 = 1
 . obtain ⟨a', hcp⟩ := ZiA (fun j => decide (1 <= j)) (CK C).fok (CK C).fuel rfl cs1 [] .hole
   rw [List.nil_append] at hcp
   have hc1 : ∀ δ : List D, Zap 1 [] (Zaj (CK C).fok (CK C).fuel 1 (.name 0) [] (.bf .list [.v 0]) (cs1.map (CR false)) []) δ = .ok (CL true true cs1, δ) := fun δ => by
    replace hcp : Zaj (CK C).fok (CK C).fuel 1 (.name 0) [] (.bf .list [.v 0]) (cs1.map (CR false)) [] [.hole] = _ := hcp
    rw [Zbl (js := []) (caps := []) rfl hcp (by rw [List.length_map, T1.len, szl]; have := T1.n4; omega), ZaL]
    rfl
   obtain ⟨k5, h5, e5⟩ := Zbo x3 n1 T1.n1
   obtain ⟨k6, h6, e6⟩ := Zbo (x3 / 4) p (by omega)
   by_cases c2 : 0 < x2 / 2 % 4
   . obtain ⟨j, hj, ej⟩ := Zbo (x3 / 100) 4 (by decide)
     replace ej : x3 / 100 % 4 = (j : Int) := ej
     obtain ⟨kk, hkk, ekk⟩ := Zbo (x3 / 400) n1 T1.n1
     obtain ⟨c, z, b, v, hc, hz, hb, hv, hcv⟩ := Zj6 n1 kk hkk j hj
     have hk0 : ∀ C : T.Ctx, (evb C (.kl [(.str "sign"), (.str "nothing"), (.str "lock"), (.str "shift")])).1 = M.ret (TL true sorts) := fun C => by
      show lift (newL (dT sorts)) = _
      rw [Zay _ (by rw [Zbv, szl]; decide)]
      rfl
     have hx := ixT sorts j hj
     rw [hz] at hx
     have hge : cs1[k5]? = some (cs1.getD k5 []) := by rw [List.getD_eq_getElem?_getD, List.getElem?_eq_getElem (by rw [T1.len]; exact h5)]; rfl
     have hrl := (T1.all _ (Zaa cs1 [] k5 (by rw [T1.len]; exact h5))).1
     refine ⟨p, n1, cs1.set k5 ((cs1.getD k5 []).set k6 c), (cs1.map (CR true)).set k5 (.node .lst true (((cs1.getD k5 []).map (cwD false)).set k6 (cwD true c))), I k5, I k6, S' z, T1.set k5 k6 h5 c hc, Zlw T1 k5 k6 h5 c, ?_⟩
     have hsub : ex ⟨fun i => decide (i < 1), (CK C).fok, (CK C).fuel⟩ (.sub 4 [.v 5] (.v 6) (.tup [.v 7, .ix (.lst [.bor (.bin .Mod (.bin .FloorDiv (.ix (.v 1) (.k (.int 3))) (.k (.int 400))) (.bf .len [.v 4])), .k (.str "a")]) (.bf .int [.cmp .Eq (.v 7) (.k (.str "sign"))])])) [.node .frl false (ns.map fun i => D.sc (.int i)), .node .lst true [D.sc (.int x0), D.sc (.int x1), D.sc (.int x2), D.sc (.int x3)], I p, CL true false cs1, CL true true cs1, I k5, I k6, S' z, .hole, .hole, .hole] = .ok (.nx, [.node .frl false (ns.map fun i => D.sc (.int i)), .node .lst true [D.sc (.int x0), D.sc (.int x1), D.sc (.int x2), D.sc (.int x3)], I p, CL true false cs1, .node .lst true ((cs1.map (CR true)).set k5 (.node .lst true (((cs1.getD k5 []).map (cwD false)).set k6 (cwD true c)))), I k5, I k6, S' z, .hole, .hole, .hole]) := by
      refine Zlv (k5 := k5) (k6 := k6) (d := cwD true c) (δ1 := [.node .frl false (ns.map fun i => D.sc (.int i)), .node .lst true [D.sc (.int x0), D.sc (.int x1), D.sc (.int x2), D.sc (.int x3)], I p, CL true false cs1, CL true true cs1, I k5, I k6, S' z, .hole, .hole, .hole]) ?_ rfl rfl rfl (by rw [List.getElem?_map, hge]; rfl) (by rw [List.length_map, hrl]; exact h6)
      rw [show cwD true c = .node .tup true [S' z, .sc v] by rw [cwD, hcv]]
      have ib : ∀ t : Bool, bfW .int [.sc (.bl t)] = some (.sc (.int (if t then 1 else 0))) := fun _ => (rfl)
      subst hv
      cases b with
      | true => (simp_all [sr, Zav, i43, hlen, d400, en, Zbp, hb, ib, ix21, Zv]) <;> rfl
      | false => (simp_all [sr, Zav, i43, hlen, d400, en, ekk, Zbp, hb, ib, ix20, Zv]) <;> rfl
     generalize T.S.sub 4 [.v 5] (.v 6) (.tup [.v 7, .ix (.lst [.bor (.bin .Mod (.bin .FloorDiv (.ix (.v 1) (.k (.int 3))) (.k (.int 400))) (.bf .len [.v 4])), .k (.str "a")]) (.bf .int [.cmp .Eq (.v 7) (.k (.str "sign"))])]) = SS at hsub ⊢
     (simp_all [sr, Zav, Zbu, i42, i43, e2, e4, d2, d4, d100, ep, en, c1, c2, hi, hc1, hlen, e5, e6, ej, hk0, hx, hsub, V.int.injEq]) <;> rfl
   . refine ⟨p, n1, cs1, cs1.map (CR true), I k5, I k6, .hole, T1, Zav true cs1, ?_⟩
     (simp_all [sr, Zav, i42, i43, e2, e4, d2, d4, ep, en, c1, c2, hi, hc1, hlen, e5, e6, V.int.injEq]) <;> rfl
 . refine ⟨p2, n2, cs2, cs2.map (CR false), .hole, .hole, .hole, T2, Zav false cs2, ?_⟩
   (simp_all [i42, e2, c1, V.int.injEq]) <;> rfl
theorem new1 {A : Addr} {fi : FI} {d x y : D} (h : fi.run [.node (.ins A []) true [], d] = .ok (.sc .non, [x, y])) (δ : List D) : newF A fi [.tmp d] δ = .ok (x, δ) := by
 unfold newF
 rw [Zac (show Zas fi.lend [.tmp d] δ = .ok ([d], δ) from rfl)]
 rw [h]
 rfl
theorem ZiB (C : Addr) (p : Nat) (cs : List (List Cel)) (t : Str) : T.shr (Tb C true p (wrs cs) t) = TbF C p cs t := by
 show D.node (.ins C fs3) false [I p, .node .lst false (shrL _), S' t] = _
 rw [Zco]
theorem TOk.head {p n : Nat} {cs : List (List Cel)} (h : TOk p n cs) : ((ixN' (cs.map (CR false)).length 0).bind fun j => (cs.map (CR false))[j]?) = some (CR false (cs.getD 0 [])) /\ (((cs.getD 0 []).map (cwD false)).length : Int) = (p : Int) := by
 have x1 := ixG (CR false) cs [] 0 (by rw [h.len]; exact h.n1)
 exact ⟨x1, by rw [List.length_map, (h.all _ (Zaa cs [] 0 (by rw [h.len]; exact h.n1))).1]⟩
theorem Zlx (C : Addr) {p1 n1 p2 n2 : Nat} {cs1 cs2 : List (List Cel)} (T1 : TOk p1 n1 cs1) (T2 : TOk p2 n2 cs2) (δ : List D) : Zap 1 [] (Zaj (CK C).fok (CK C).fuel 1 (.name 0) [] (.new C (ZJ C) [.call Z5 [.bf .len [.ix (.v 0) (.k (.int 0))], .v 0]]) [CL false false cs1, CL false false cs2] []) δ = .ok (.node .lst true [Tb C true p1 (wrs cs1) (text p1 (wrs cs1)), Tb C true p2 (wrs cs2) (text p2 (wrs cs2))], δ) := by
 have t1 := Zc7 T1
 have t2 := Zc7 T2
 have i1 := fun δ => new1 (ZfT C T1.hp T1.n1 T1.n4 T1.wlen T1.rows) δ
 have i2 := fun δ => new1 (ZfT C T2.hp T2.n1 T2.n4 T2.wlen T2.rows) δ
 obtain ⟨x1, l1⟩ := T1.head
 obtain ⟨x2, l2⟩ := T2.head
 have k1 : Z5.lend = true := rfl
 have h : Zaj (CK C).fok (CK C).fuel 1 (.name 0) [] (.new C (ZJ C) [.call Z5 [.bf .len [.ix (.v 0) (.k (.int 0))], .v 0]]) [CL false false cs1, CL false false cs2] [] [.hole] = .ok ([Tb C true p1 (wrs cs1) (text p1 (wrs cs1)), Tb C true p2 (wrs cs2) (text p2 (wrs cs2))], [CL false false cs2]) := by
  generalize text p1 (wrs cs1) = z1 at t1 i1
  generalize text p2 (wrs cs2) = z2 at t2 i2
  unfold Zaj
  rw [Zbb]
  simp_all [x1, l1, k1, t1, i1]
  rw [Zbb]
  (simp_all [x2, l2, k1, t2, i2]) <;> rfl
 rw [Zbl (js := []) (caps := []) rfl h (by rw [szl]; simp), ZaL]
 rfl
theorem Zly (C : Addr) {p1 n1 p2 n2 : Nat} {cs1 cs2 : List (List Cel)} (T1 : TOk p1 n1 cs1) (T2 : TOk p2 n2 cs2) (δ : List D) : Zap 1 [] (Zaj (CK C).fok (CK C).fuel 1 (.name 0) [] (.call Z5 [.bf .len [.ix (.v 0) (.k (.int 0))], .v 0]) [CL false false cs1, CL false false cs2] []) δ = .ok (.node .lst true [S' (text p1 (wrs cs1)), S' (text p2 (wrs cs2))], δ) := by
 have t1 := Zc7 T1
 have t2 := Zc7 T2
 obtain ⟨x1, l1⟩ := T1.head
 obtain ⟨x2, l2⟩ := T2.head
 have k1 : Z5.lend = true := rfl
 have h : Zaj (CK C).fok (CK C).fuel 1 (.name 0) [] (.call Z5 [.bf .len [.ix (.v 0) (.k (.int 0))], .v 0]) [CL false false cs1, CL false false cs2] [] [.hole] = .ok ([S' (text p1 (wrs cs1)), S' (text p2 (wrs cs2))], [CL false false cs2]) := by
  generalize text p1 (wrs cs1) = z1 at t1
  generalize text p2 (wrs cs2) = z2 at t2
  unfold Zaj
  rw [Zbb]
  simp_all [x1, l1, k1, t1]
  rw [Zbb]
  (simp_all [x2, l2, k1, t2]) <;> rfl
 rw [Zbl (js := []) (caps := []) rfl h (by rw [szl]; simp), ZaL]
 rfl
theorem Zlz (C : Addr) {p1 p2 : Nat} {cs1 cs2 : List (List Cel)} (z1 z2 : Str) (δ : List D) : Zap 1 [] (Zaj (CK C).fok (CK C).fuel 1 (.name 0) [] (.meth C "shown" (ZR C) (.v 0) []) [TbF C p1 cs1 z1, TbF C p2 cs2 z2] []) δ = .ok (.node .lst true [S' z1, S' z2], δ) := by
 have r1 := ZeC C p1 cs1 z1
 have r2 := ZeC C p2 cs2 z2
 have k1 : (ZR C).lend = true := rfl
 have c1 : chkI C "shown" (.late 0) [TbF C p1 cs1 z1] = .ok ((), [TbF C p1 cs1 z1]) := Zds C _ 0 _ fs3 false _ rfl (by decide)
 have c2 : chkI C "shown" (.late 0) [TbF C p2 cs2 z2] = .ok ((), [TbF C p2 cs2 z2]) := Zds C _ 0 _ fs3 false _ rfl (by decide)
 have h : Zaj (CK C).fok (CK C).fuel 1 (.name 0) [] (.meth C "shown" (ZR C) (.v 0) []) [TbF C p1 cs1 z1, TbF C p2 cs2 z2] [] [.hole] = .ok ([S' z1, S' z2], [TbF C p2 cs2 z2]) := by
  unfold Zaj
  rw [Zbb]
  simp_all [k1, c1, r1]
  rw [Zbb]
  (simp_all [k1, c2, r2]) <;> rfl
 rw [Zbl (js := []) (caps := []) rfl h (by rw [szl]; simp), ZaL]
 rfl
noncomputable abbrev lT (C : Addr) : List T.S := ((Zah C).drop 5).take 3
theorem Zqn (C : Addr) {p1 n1 p2 n2 : Nat} {cs1 cs2 : List (List Cel)} (T1 : TOk p1 n1 cs1) (T2 : TOk p2 n2 cs2) (r : Option (List Nat)) (h : bfs (mv cs1 p1) (mv cs2 p2) (max p1 p2) 1000 0 t0 = some r) (x0 a1 a2 a5 a6 a7 : D) (ds4 : List D) (hd : shrL ds4 = cs2.map (CR false)) : exs (lC C) (lT C) [x0, a1, a2, CL true false cs1, .node .lst true ds4, a5, a6, a7, .hole, .hole, .hole] = .ok (.nx, [x0, a1, a2, CL false false cs1, CL false false cs2, a5, a6, a7, .node .lst true [TbF C p1 cs1 (text p1 (wrs cs1)), TbF C p2 cs2 (text p2 (wrs cs2))], lenD r, resD r]) := by
 have hc := fun δ => Zlx C T1 T2 δ
 have hl := Zi8 T1 T2 r h
 have ha := ZcX C (text p1 (wrs cs1)) (text p2 (wrs cs2)) T1 T2 r h
 have s1 := ZiB C p1 cs1 (text p1 (wrs cs1))
 have s2 := ZiB C p2 cs2 (text p2 (wrs cs2))
 generalize text p1 (wrs cs1) = z1 at hc ha s1
 generalize text p2 (wrs cs2) = z2 at hc ha s2
 have k1 : Zbe.lend = true := rfl
 have k2 : (Zbm C).lend = true := rfl
 have hi : ∀ ds : List D, itW .val [.nd .lst ds] = some ds := fun _ => rfl
 simp only [lT, Zah, List.drop_succ_cons, List.drop_zero, List.take_succ_cons, List.take_zero]
 generalize E.new C (ZJ C) [.call Z5 [.bf .len [.ix (.v 0) (.k (.int 0))], .v 0]] = EN at hc ⊢
 generalize hT1 : Tb C true p1 (wrs cs1) z1 = TB1 at hc s1
 generalize hT2 : Tb C true p2 (wrs cs2) z2 = TB2 at hc s2
 (simp_all [hd, Zav, Zco, Zbp, hi, hc, k1, k2, hl, s1, s2, ix20, ix21, ha]) <;> rfl
noncomputable abbrev lE (C : Addr) : List T.S := (Zah C).drop 8
theorem Zl0 (f g : Stf) (m k n : Nat) : bfs g f m k n t0 = bfs f g m k n t0 := Zi2 f g m k n t0
theorem Zqo (C : Addr) {p1 n1 p2 n2 N : Nat} {cs1 cs2 : List (List Cel)} (T1 : TOk p1 n1 cs1) (T2 : TOk p2 n2 cs2) (r : Option (List Nat)) (h : bfs (mv cs1 p1) (mv cs2 p2) (max p1 p2) 1000 0 t0 = some r) (hN : N <= 441) (hr : ∀ row, r = some row -> Parts (mv cs1 p1) (mv cs2 p2) (max p1 p2) N row) (x0 a1 a2 a5 a6 a7 : D) : ∃ ds', Zce 1 (exs (lC C) (lE C) [x0, a1, a2, CL false false cs1, CL false false cs2, a5, a6, a7, .node .lst true [TbF C p1 cs1 (text p1 (wrs cs1)), TbF C p2 cs2 (text p2 (wrs cs2))], lenD r, resD r]) = .ok (.sc (.bl true), ds') := by
 have b1 := (ZZ p1 T1.hp).2
 have b2 := (ZZ p2 T2.hp).2
 have o1 := ZgO T1.hp (n14 T1.n1 T1.n4) T1.rows
 have o2 := ZgO T2.hp (n14 T2.n1 T2.n4) T2.rows
 have ct := fun δ => Zly C T1 T2 δ
 have cs := fun δ => Zlz C (p1 := p1) (cs1 := cs1) (p2 := p2) (cs2 := cs2) (text p1 (wrs cs1)) (text p2 (wrs cs2)) δ
 have ap1 := ZcX C (text p1 (wrs cs1)) (text p2 (wrs cs2)) T1 T2 r h
 have ap2 := ZcX C (text p2 (wrs cs2)) (text p1 (wrs cs1)) T2 T1 r (by rw [Zl0, Nat.max_comm]; exact h)
 have sm := Znr _ _ o1 o2
 clear o1 o2
 generalize text p1 (wrs cs1) = z1 at ct cs ap1 ap2 sm
 generalize text p2 (wrs cs2) = z2 at ct cs ap1 ap2 sm
 have k1 : (Zbm C).lend = true := rfl
 have k2 : ZY.lend = true := rfl
 obtain ⟨y1, l1⟩ := T1.head
 have l2 : ((cs1.map (CR false)).length : Int) = (n1 : Int) := by rw [List.length_map, T1.len]
 have l3 : ((cs2.map (CR false)).length : Int) = (n2 : Int) := by rw [List.length_map, T2.len]
 have m1 : binW .Mult (.sc (.int (p1 : Int))) (.sc (.int (n1 : Int))) = some (.sc (.int ((p1 : Int) * n1))) := ZdR _ _ (.inl (by omega))
 have m2 : binW .Mult (.sc (.int ((p1 : Int) * n1))) (.sc (.int (n2 : Int))) = some (.sc (.int ((p1 : Int) * n1 * n2))) := ZdR _ _ (.inr (by have := T2.n4; omega))
 have hi : ∀ ds : List D, itW .val [.nd .lst ds] = some ds := fun _ => rfl
 simp only [lE, Zah, List.drop_succ_cons, List.drop_zero]
 generalize E.call Z5 [.bf .len [.ix (.v 0) (.k (.int 0))], .v 0] = EN at ct ⊢
 generalize E.meth C "shown" (ZR C) (.v 0) [] = ES at cs ⊢
 cases r with
 | none =>
  have rn := Zhy (CL false false cs1) (CL false false cs2) ⟨_, rfl⟩ ⟨_, rfl⟩
  simp only [lenD, resD] at ap1 ap2 ⊢
  by_cases c : (p1 : Int) * n1 * n2 < 300
  . (simp_all [k1, k2, rn, Z7, ZaF, y1, l1, l2, l3, m1, m2, c, Zco, Zav, ix20, ix21, ap1, ap2, Zbp, hi, ct, cs, sm])
    exact ⟨_, rfl⟩
  . (simp_all [k1, k2, rn, Z7, ZaF, y1, l1, l2, l3, m1, m2, c, Zco, Zav, ix20, ix21, Zbp, hi, ct, cs, sm])
    exact ⟨_, rfl⟩
 | some row =>
  have hp := hr row rfl
  have hl := hp.len
  have rs := Zhz T1 T2 (by omega) row hp
  have ma := fun (δ : List D) (d : D) => Zba 10 δ d (dI (nI row)) (by rw [Zga, szl]; omega)
  simp only [lenD, resD] at ap1 ap2 ⊢
  by_cases c : (p1 : Int) * n1 * n2 < 300
  . (simp_all [k1, k2, rs, ZP, ZaF, ma, y1, l1, l2, l3, m1, m2, c, Zco, Zav, ix20, ix21, ap1, ap2, Zbp, hi, ct, cs, sm])
    exact ⟨_, rfl⟩
  . (simp_all [k1, k2, rs, ZP, ZaF, ma, y1, l1, l2, l3, m1, m2, c, Zco, Zav, ix20, ix21, Zbp, hi, ct, cs, sm])
    exact ⟨_, rfl⟩
theorem Zj7 (C : Addr) (ns : List Int) (h : ns.length <= 63) : ∃ ds', (ZeW C).run [scr ns] = .ok (.sc (.bl true), ds') := by
 show ∃ ds', Zs (CK C) 1 11 (Zah C) [scr ns] = .ok (.sc (.bl true), ds')
 rw [runA (show [scr ns].length = 1 from rfl)]
 obtain ⟨x0, x1, x2, x3, p, n1, cs1, p2, n2, cs2, T1, T2, ha⟩ := Zql C ns
 obtain ⟨p2, n2, cs2, ds4, a5, a6, a7, T2, hd, hb⟩ := Zqm C ns x0 x1 x2 x3 T1 T2
 have hL : (plc n1).length * (plc n2).length <= 441 := Nat.mul_le_mul (ZbB n1 (n14 T1.n1 T1.n4)) (ZbB n2 (n14 T2.n1 T2.n4))
 obtain ⟨r, hf, hr⟩ := Zi1 (Zbg T1) (Zbg T2) 1000 0 t0 (Zhw (max p p2) T1 T2) (Nat.zero_le _) (by omega)
 have hc := Zqn C T1 T2 r hf (scr ns) (Ls true [x0, x1, x2, x3]) (I p) a5 a6 a7 ds4 hd
 obtain ⟨ds', hd'⟩ := Zqo C T1 T2 r hf hL hr (scr ns) (Ls true [x0, x1, x2, x3]) (I p) a5 a6 a7
 refine ⟨ds', ?_⟩
 have e : Zah C = (Zah C).take 4 ++ (lB C ++ (lT C ++ lE C)) := rfl
 rw [e, Zdv]
 replace ha : exs { CK C with lock := fun i => decide (i < 1) } ((Zah C).take 4) ([scr ns] ++ List.replicate (11 - 1) .hole) = _ := ha
 rw [ha, Zdn, Zdv, hb, Zdn, Zdv, hc, Zdn]
 exact hd'
end My
open PySem PySem.W PyProof.Rows
set_option maxRecDepth 100000 in
set_option maxHeartbeats 0 in
theorem PySem.Challenge.cw_barlabel_k60_apart_holds : PySem.Challenge.rw_barlabel_k60_apart.Holds := by
 w_on; o_law; k_head; (case hw => w_witness2)
 k_fill
 refine T.Zjj (l := PySem.Challenge.rw_barlabel_k60_apart) (k := 5) (x := "_law_script") (R := fun K => (My.ZeW (My.ZdU K)).run) rfl rfl ⟨rfl, by decide, by decide⟩ (fun w h Y => PySem.W.kIn_of Y) ?F (fun K ns hl => My.Zj7 (My.ZdU K) ns hl)
 case F =>
  intro w mg fa h KX G hmg
  refine' My.Zni KX G hmg ?_ ?_ ?_ ?_ ?_ ?_ ?_ ?_ ?_ ?_ ?_ ?_ ?_ ?_ ?_ ?_ ?_ ?_ ?_ ?_ ?_ ?_ ?_ ?_ ?_ ?_ ?_ ?_ ?_ ?_ ?_ ?_ ?_ ?_ ?_ ?_ ?_ ?_ ?_ ?_ ?_ ?_ ?_ ?_ ?_
  any_goals first | (refine' T.ZpO ?a ?b ?c ?d; (case a => k_is); (case b => k_is); (case c => k_is); (case d => k_is)) | (refine' T.ZpP ?a ?b ?c ?d ?e; (case a => k_is); (case b => k_is); (case c => k_is); (case d => k_is); (case e => k_is)) | (refine' T.CI.mk ?a ?b ?c ?d ?e ?f ?g; (case a => k_is); (case b => k_is); (case c => k_is); (case d => k_is); (case e => k_is); (case f => k_is); (case g => k_is)) | (unfold T.NI; k_is) | k_is | rfl | exact Nat.le_of_ble_eq_true rfl
