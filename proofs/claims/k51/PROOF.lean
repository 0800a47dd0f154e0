import PyProof.Rows.All
import Wide.All
import OpenK.AllK
import Wide.FinOn
import Lean
import PyProof.EqAt
import PyProof.EqKinds
import PyProof.TupleCall
import PySem.Challenge.RW_barlabel_k51_whole_gathered
set_option Elab.async false
set_option compiler.extract_closed false
set_option linter.all false
set_option maxRecDepth 100000
set_option maxHeartbeats 4100000
abbrev Fg := PySem.W.Frag
namespace PySem.W.Fast
def tw4062444525152785315 := ()
def tw5482344978430145106 := ()
def tw10056499547551502775 := ()
def tw988250047339780823 := ()
def tw14655673453869690510 := ()
def tw5427647979379566833 := ()
def tw9943479581228292075 := ()
def tw3611182335361743790 := ()
def tw10578167259702764454 := ()
def tw14190143393477493349 := ()
def tw14781091415991562580 := ()
def tw2654505493690743840 := ()
def tw10724314345715200807 := ()
def tw440992989335287033 := ()
def tw7234514853158964227 := ()
def tw11880836324216297527 := ()
def tw4096630736112078818 := ()
def tw12113189797951492722 := ()
def tw10792966266320711779 := ()
def tw13687420196327169989 := ()
def tw3956400978513882354 := ()
def tw18181248897646720120 := ()
def tw10312414245658611107 := ()
def tw16401839275165594566 := ()
def tw4854974043763309490 := ()
def tw4765665341492602652 := ()
def tw11928873965614590085 := ()
def tw10277265958952961915 := ()
def tw16898110766938381375 := ()
def tw3938845785003758838 := ()
def tw4961523628908692973 := ()
def tw16771316889549978495 := ()
def tw8063585024301351469 := ()
def tw2315564195398363655 := ()
def tw14137701093584118906 := ()
def tw8794270218817009862 := ()
def tw5404681733719632611 := ()
def tw13737227780559702126 := ()
def tw1390753559857036253 := ()
def tw10726299000378414117 := ()
def tw14350598708519630809 := ()
def tw6759537870856735254 := ()
def tw16016418037636090359 := ()
def tw9290603692903664232 := ()
def tw1804256172475582830 := ()
def tw5831574266638054020 := ()
def tw6319167719449958617 := ()
def tw16299972077909418619 := ()
def tw5258800913557332678 := ()
def tw1308381999522064661 := ()
def tw1809402256735983064 := ()
def tw677159640721650504 := ()
def tw3629192800999744586 := ()
def tw16667643990478959688 := ()
def tw8171334034947431157 := ()
def tw17546828102353389963 := ()
def tw7216946834738452860 := ()
def tw1525803346078128120 := ()
def tw13468168149167466104 := ()
def tw2363573562577872354 := ()
def tw5270747176115862535 := ()
def tw18049209029737008647 := ()
def tw6421140348815432419 := ()
def tw4972640234910874910 := ()
def tw2353308979415402738 := ()
def tw1126439979990027885 := ()
def tw15297465211145324902 := ()
def tw6841180392307416551 := ()
def tw438523947871005973 := ()
def tw4467339492182168377 := ()
def tw4190668821390762017 := ()
def tw12575690901226037622 := ()
def tw7121242716349073851 := ()
def tw3882829964896144561 := ()
def tw4131778061079589918 := ()
def tw1448086554919184438 := ()
def tw10744222928976051226 := ()
def tw1817352668055412854 := ()
def tw12245754744304182718 := ()
def tw11618347156195748801 := ()
def tw13660587640648113782 := ()
def tw3696560560328834414 := ()
def tw9524377906479565910 := ()
def tw14469876164097789712 := ()
def tw15161820908616595970 := ()
def tw12968396291963012287 := ()
def tw8998586499246808010 := ()
def tw12558229029383418523 := ()
def tw823646140748579313 := ()
def tw5284058188317024722 := ()
def tw5087153829128075642 := ()
def tw15647797058610396098 := ()
def tw13292151153288780965 := ()
def tw13508643667895239701 := ()
def tw849813184631127853 := ()
def tw3565871919661245349 := ()
def tw7283574204777119131 := ()
def tw6735742811380491062 := ()
def tw13009735320098324769 := ()
def tw12971761077532741732 := ()
def tw13085490266096314558 := ()
def tw6192515980853325478 := ()
def tw4618182808231453565 := ()
def tw12685804653011424983 := ()
def tw7630721178807920569 := ()
def tw17643531818052269311 := ()
def tw1000795686644705574 := ()
def tw5635779529011373439 := ()
def tw14345646715862233456 := ()
def tw13237811557257735912 := ()
def tw12972139320227473585 := ()
def tw1932670916859577939 := ()
def tw6327049449321241287 := ()
def tw16310227184374182807 := ()
def tw12244532098766415018 := ()
def tw12139572075991274608 := ()
def tw16354322558125251440 := ()
def tw146467607728156494 := ()
def tw16770419757628535764 := ()
def tw8847344140619091342 := ()
def tw6063551654067982375 := ()
def tw8257555172840047927 := ()
def tw5473492978010143532 := ()
def tw16020711414713627488 := ()
def tw4539299008386393937 := ()
def tw6719535099882550727 := ()
def tw1331708637879711969 := ()
def tw8525558637185118113 := ()
def tw5942347898157310863 := ()
def tw8749253120753930520 := ()
def tw6347373810235332628 := ()
def tw8822260761789622125 := ()
def tw15294411285104003707 := ()
def tw6050912269088791344 := ()
def tw3677320697226821243 := ()
def tw15114132373648836542 := ()
def tw12323550400470877227 := ()
def tw3838252087996957499 := ()
def tw11124105452157208545 := ()
def tw13041777474020720494 := ()
def tw7971351879435721281 := ()
def tw12599500105334630037 := ()
def tw6119483682313414894 := ()
def tw15564695456265376258 := ()
def tw2069212857439900942 := ()
def tw4262864195659272684 := ()
def tw13905462416192910111 := ()
def tw4326501419165539605 := ()
def tw14464274352869238705 := ()
def tw15337008103579683835 := ()
def tw13229830938382453191 := ()
def tw5331685953176212241 := ()
def tw3809603629666285574 := ()
def tw15999828735933657501 := ()
def tw12991874453353534044 := ()
def tw6267272411387945947 := ()
def tw13455748623309495185 := ()
def tw16560968653165515204 := ()
def tw14825831672208319748 := ()
def tw7280508178793760356 := ()
def tw5466334338819698651 := ()
def tw6580424001443953070 := ()
def tw6013476078738810748 := ()
def tw4411667394514763141 := ()
def tw7998201488581925373 := ()
def tw7751558950337309061 := ()
def tw7248041407146831301 := ()
def tw5631327208808564159 := ()
def tw1007491674868479861 := ()
def tw3288970895829334720 := ()
def tw4495937334058953312 := ()
def tw14350704652133758923 := ()
def tw2584274247038031261 := ()
def tw14051461901647446605 := ()
def tw5177335711093099284 := ()
def tw8847382205440541340 := ()
def tw3208275927983696175 := ()
def tw18250419505957944070 := ()
def tw9726001848806976635 := ()
def tw6560630823046107325 := ()
def tw12605679383839868578 := ()
def tw8755013614603444528 := ()
def tw9779661662747654714 := ()
def tw2284137667822749691 := ()
def tw3875647479487509857 := ()
def tw6492192376504919792 := ()
def tw9291488925181237244 := ()
def tw4022628954768639168 := ()
def tw3356767463482111426 := ()
def tw2233088236242770017 := ()
def tw14497577292847947423 := ()
def tw12851374033431769908 := ()
def tw12623275245474409295 := ()
def tw4292557565554068289 := ()
def tw12663980903220902773 := ()
def tw6860292168396070704 := ()
def tw3477421842527769420 := ()
def tw17011358116030586507 := ()
def tw11278541228007012487 := ()
def tw8319369871766000518 := ()
def tw13899502027727940763 := ()
def tw16750169456427935363 := ()
def tw1542148069129143826 := ()
def tw9922188574757163941 := ()
def tw3944712437640695784 := ()
def tw2604200713822288134 := ()
def tw3157838478667985482 := ()
def tw3747860349924829266 := ()
def tw1124780378520613000 := ()
def tw9310608888156813806 := ()
def tw6275547718468905377 := ()
def tw5025483864288949027 := ()
def tw4938787071673071033 := ()
def tw3308815239713673356 := ()
def tw4213110729055135145 := ()
def tw3348404060325857908 := ()
def tw8599332585523538516 := ()
def tw7587492021650792318 := ()
def tw6596843575674079927 := ()
def tw17819390859070904788 := ()
def tw17083782410439078953 := ()
def tw13557500971626269477 := ()
def tw12394957900980642247 := ()
def tw10005865498213532482 := ()
def tw985931602692996050 := ()
def tw4567316844296603305 := ()
def tw324152374796525880 := ()
def tw251210967502243694 := ()
def tw17426731278438528962 := ()
def tw15426077788749493041 := ()
def tw12955096450226795847 := ()
def tw12054977685209067915 := ()
def tw998647072623825482 := ()
def tw2949397915798282140 := ()
def tw2182228035139348927 := ()
def tw17620436183794803169 := ()
def tw12116856016962424977 := ()
def tw11185631571544522426 := ()
def tw11003680851642264326 := ()
def tw8110505029457818782 := ()
def tw790924529775898258 := ()
def tw4679113613613263456 := ()
def tw3709691561147172924 := ()
def tw15582416845022366359 := ()
def tw15301985937606905194 := ()
def tw1333182709271448098 := ()
def tw10080018059483643717 := ()
def tw10448526243112172010 := ()
def tw9746214182700769290 := ()
def tw9706701610762845429 := ()
def tw9672449608556635887 := ()
def tw964152770794310981 := ()
def tw9589771973586815941 := ()
def tw9248680282079058761 := ()
def tw9156063837937783934 := ()
def tw9029586693573206936 := ()
def tw8946815365840065777 := ()
def tw8805396695072426811 := ()
def tw8796683470320825894 := ()
def tw8719044137749595502 := ()
def tw8619804303965651801 := ()
def tw8437708565773492959 := ()
def tw8130042461628837131 := ()
def tw7879636510313445726 := ()
def tw7802919727855668455 := ()
def tw7705931459746628877 := ()
def tw7615817084552539849 := ()
def tw7086597882283817184 := ()
def tw6730620268978434292 := ()
def tw615546645185671644 := ()
def tw5448436696544620942 := ()
def tw5130475802372885871 := ()
def tw4987599503637914646 := ()
def tw4696033088395675324 := ()
def tw4616005373143870650 := ()
def tw4215615777962666015 := ()
def tw3811143645994115164 := ()
def tw3383822431426657208 := ()
def tw3261181153309420788 := ()
def tw3232629675310144276 := ()
def tw2598521435394037895 := ()
def tw2082685868270941080 := ()
def tw20353390334286780 := ()
def tw1924447319445166628 := ()
def tw18250170126432544495 := ()
def tw18188977082738141950 := ()
def tw18175631211444659343 := ()
def tw17814288690665109719 := ()
def tw1752547686427172828 := ()
def tw17238616452187989730 := ()
end PySem.W.Fast
namespace L2
open PySem PySem.Spec PyProof.Rows
noncomputable abbrev Key := Sum Int Str
noncomputable def Zdl : Key -> Value -> Bool
 | .inl k, v => Value.isInt k v
 | .inr x, v => Value.isStrOf x v
noncomputable def keyH (w : World) : Key -> Int
 | .inl k => hashInt k
 | .inr x => hashStr w x
theorem ZS : ∀ {k : Key} {v : Value}, Zdl k v = true -> (∃ i t, k = Sum.inl i /\ v = Value.int i t) \/ (∃ x t, k = Sum.inr x /\ v = Value.str x t)
 | .inl i, v, h => by
  obtain ⟨t, e⟩ := Value.isInt_shape (k := i) (v := v) h
  exact .inl ⟨i, t, rfl, e⟩
 | .inr x, v, h => by
  obtain ⟨t, e⟩ := Value.isStrOf_shape (x := x) (v := v) h
  exact .inr ⟨x, t, rfl, e⟩
theorem ZhA (i : Int) (t : Tok) : Zdl (.inl i) (.int i t) = true := by simp [Zdl, Value.isInt]
theorem ZhB (x : Str) (t : Tok) : Zdl (.inr x) (.str x t) = true := by simp [Zdl, Value.isStrOf]
theorem ZlB (a b : Int) : decide ((Sum.inl a : Key) = Sum.inl b) = (a == b) := by
 by_cases e : a = b
 . subst e; simp
 . have h : ¬ (Sum.inl a : Key) = Sum.inl b := fun q => e (Sum.inl.inj q)
   rw [decide_eq_false h]
   exact (beq_eq_false_iff_ne.mpr e).symm
theorem ZlC (a b : Str) : decide ((Sum.inr a : Key) = Sum.inr b) = decide (a = b) := by
 by_cases e : a = b
 . subst e; simp
 . have h : ¬ (Sum.inr a : Key) = Sum.inr b := fun q => e (Sum.inr.inj q)
   rw [decide_eq_false h, decide_eq_false e]
theorem ZlD (a : Int) (b : Str) : decide ((Sum.inl a : Key) = Sum.inr b) = false := decide_eq_false (fun q => nomatch q)
theorem ZlE (a : Str) (b : Int) : decide ((Sum.inr a : Key) = Sum.inl b) = false := decide_eq_false (fun q => nomatch q)
noncomputable def ZC (prog : Program) (w : World) : PySem.KeyKind prog w Key where
 is := Zdl
 hash := keyH w
 inj := fun v a b ha hb => by
  rcases ZS ha with ⟨i, t, rfl, rfl⟩ | ⟨x, t, rfl, rfl⟩
  . rcases ZS hb with ⟨j, u, rfl, e⟩ | ⟨y, u, rfl, e⟩
    . injection e with e1 _; rw [e1]
    . exact nomatch e
  . rcases ZS hb with ⟨j, u, rfl, e⟩ | ⟨y, u, rfl, e⟩
    . exact nomatch e
    . injection e with e1 _; rw [e1]
 byValue := fun k v h => by
  rcases ZS h with ⟨i, t, rfl, rfl⟩ | ⟨x, t, rfl, rfl⟩ <;> rfl
 pyHash := fun hv h => by
  rcases ZS hv with ⟨i, t, rfl, rfl⟩ | ⟨x, t, rfl, rfl⟩
  . exact wpAny_pyHash_int h
  . exact wpAny_pyHash_str h
 eqBool := fun hu hv h => by
  rcases ZS hu with ⟨i, t, rfl, rfl⟩ | ⟨x, t, rfl, rfl⟩
  . rcases ZS hv with ⟨j, u, rfl, rfl⟩ | ⟨y, u, rfl, rfl⟩
    . rw [ZlB] at h; exact wpAny_eqBool_int h
    . rw [ZlD] at h; exact SeqAt.EqAt.int_str i t y u _ _ _ _ h
  . rcases ZS hv with ⟨j, u, rfl, rfl⟩ | ⟨y, u, rfl, rfl⟩
    . rw [ZlE] at h; exact SeqAt.EqAt.str_int x t j u _ _ _ _ h
    . rw [ZlC] at h; exact wpAny_eqBool_str h
 «strs» := fun k x t v h => by
  rcases ZS h with ⟨i, u, rfl, e⟩ | ⟨y, u, rfl, e⟩
  . exact nomatch e
  . injection e with e1 _
    subst e1
    cases v <;> rfl
theorem Zgd (prog : Program) (w : World) (i : Int) (t : Tok) : (ZC prog w).is (.inl i) (.int i t) = true := ZhA i t
theorem Zge (prog : Program) (w : World) (x : Str) (t : Tok) : (ZC prog w).is (.inr x) (.str x t) = true := ZhB x t
end L2
namespace L2
open PySem PySem.Spec PyProof.Rows
inductive V where
 | non | bl (b : Bool) | int (i : Int) | str (x : Str) | byt (b : Array UInt8) | flt (b : UInt64) | ref (a : Addr) | ty (n : String)
 deriving DecidableEq
def RelV : V -> Value -> Prop
 | .non, u => u = Value.none
 | .bl b, u => u = Value.bool b
 | .int i, u => ∃ t, u = Value.int i t
 | .str x, u => ∃ t, u = Value.str x t
 | .byt b, u => ∃ t, u = Value.bytes b t
 | .flt b, u => ∃ t, u = Value.float b t
 | .ref a, u => u = Value.ref a
 | .ty n, u => u = Value.type n
abbrev Vals : List V -> List Value -> Prop := Paired RelV
theorem Vals.length {xs : List V} {us : List Value} (r : Vals xs us) : xs.length = us.length := Paired.length r
theorem Vals.get : ∀ {xs : List V} {us : List Value} {i : Nat} {x : V}, Vals xs us -> xs[i]? = some x -> ∃ u, us[i]? = some u /\ RelV x u
 | _, _, _, _, .nil, e => by simp at e
 | _, _, 0, _, .cons r _, e => by simp at e; subst e; exact ⟨_, rfl, r⟩
 | _, _, i + 1, x, .cons _ t, e => by
  obtain ⟨u, h1, h2⟩ := Vals.get (i := i) (x := x) t (by simpa using e)
  exact ⟨u, by simpa using h1, h2⟩
theorem Vals.set {x : V} {u : Value} (r : RelV x u) : ∀ {xs : List V} {us : List Value} (i : Nat), Vals xs us -> Vals (xs.set i x) (us.set i u)
 | _, _, _, .nil => .nil
 | _, _, 0, .cons _ t => .cons r t
 | _, _, i + 1, .cons q t => .cons q (Vals.set r i t)
theorem Vals.append : ∀ {xs ys : List V} {us ws : List Value}, Vals xs us -> Vals ys ws -> Vals (xs ++ ys) (us ++ ws)
 | _, _, _, _, .nil, s => s
 | _, _, _, _, .cons r t, s => .cons r (Vals.append t s)
termination_by structural a => a
theorem Vals.take : ∀ {xs : List V} {us : List Value} (n : Nat), Vals xs us -> Vals (xs.take n) (us.take n)
 | _, _, 0, _ => .nil
 | _, _, _ + 1, .nil => .nil
 | _, _, n + 1, .cons r t => .cons r (Vals.take n t)
theorem Vals.drop : ∀ {xs : List V} {us : List Value} (n : Nat), Vals xs us -> Vals (xs.drop n) (us.drop n)
 | _, _, 0, r => r
 | _, _, _ + 1, .nil => .nil
 | _, _, n + 1, .cons _ t => Vals.drop n t
def RelO : Option V -> Option Value -> Prop
 | some v, some u => RelV v u
 | none, none => True
 | _, _ => False
def KV {κ : Type} : List (κ × V) -> List (κ × Value) -> Prop := Paired fun (p : κ × V) (q : κ × Value) => p.1 = q.1 /\ RelV p.2 q.2
noncomputable def kV : Key -> V
 | .inl i => .int i
 | .inr x => .str x
inductive HO where
 | lst (xs : List V)
 | tup (xs : List V)
 | dK (kvs : List (Key × V)) | dT (kvs : List (List Key × V))
 | set (S : Int -> Bool) (n : Nat)
 | ins (C dx : Addr) (fs : List (Str × V))
 | own (x : Addr)
 | xd (fs : List (Str × V))
 | met (f x : Addr)
 | rng (lo hi : Int)
 | frz (o : Obj) (u : HO)
 | tbl (ps : Array Value)
 | ext (φ : Heap -> Prop)
 | exc (C : Addr) (dx : Option Addr) (fr : Bool) (fs : List (Str × V))
noncomputable abbrev Hp := Addr -> Option HO
noncomputable def upd (H : Hp) (a : Addr) (o : HO) : Hp := fun b => if b = a then some o else H b
theorem Zk {H : Hp} {a : Addr} {o : HO} : upd H a o a = some o := by unfold upd; rw [if_pos rfl]
theorem Zn {H : Hp} {a b : Addr} {o : HO} (h : b ≠ a) : upd H a o b = H b := by unfold upd; rw [if_neg h]
theorem ZnH {H : Hp} {a b : Addr} {o u : HO} (h : H a = some o) (h' : H b = some u) (d : o ≠ u) : a ≠ b := by
 intro e; subst e; rw [h] at h'; exact d (Option.some.inj h')
theorem ZaJ {H : Hp} {a b : Addr} {o : HO} (h : H a = some o) (h' : H b = none) : a ≠ b := by
 intro e; subst e; rw [h] at h'; cases h'
section
variable (P : Program) (w : World)
def Z8 (H : Hp) (h : Heap) (a : Addr) : HO -> Prop
 | .lst xs => xs.length <= sizeLine /\ ∃ (its : List Value) (n : Nat), Vals xs its /\ h.get? a = some { cls := .type "list", data := .seq its.toArray n }
 | .tup xs => xs.length <= sizeLine /\ ∃ its : List Value, Vals xs its /\ IsTup h a its.toArray
 | .dK kvs => kvs.length <= sizeLine /\ (a == sysModules) = false /\ ∃ vs, KV kvs vs /\ h.DictOf (ZC P w) a vs
 | .dT kvs => kvs.length <= sizeLine /\ (a == sysModules) = false /\ ∃ xs : List (List Key × Addr × Value),
  Paired (fun (p : List Key × V) (q : List Key × Addr × Value) => p.1 = q.1 /\ H q.2.1 = some (.tup (p.1.map kV)) /\ RelV p.2 q.2.2) kvs xs /\
  ∃ o es ep, h.get? a = some o /\ o.ExactDict /\ o.data = .dict es ep /\ es.toList = xs.map (entryOfKey (tupleKind (ZC P w))) /\ (xs.map (·.1)).Nodup
 | .set S n => h.SetOf (intKind P w) a S n
 | .ins C dx fs => H dx = some (.own a) /\ fs.length <= 1000 /\ dx ≠ a /\ h.get? a = some (PySem.W.instObj C dx) /\
  ∃ mA, h.Ns1 dx mA /\ (∀ f, RelO (fs.lookup f) (mA f)) /\ PySem.Within mA (fs.map (·.1))
 | .own _ => ∃ o, h.get? a = some o
 | .xd fs => ∃ mA, h.Ns1 a mA /\ ∀ f, RelO (fs.lookup f) (mA f)
 | .rng lo hi => ∃ t u v, h.get? a = some { cls := .type "range", data := .fields #[.int lo t, .int hi u, .int 1 v] }
 | .frz o u => h.get? a = some o /\ Z8 H h a u
 | .tbl ps => h.get? a = some { cls := .none, data := .fields ps }
 | .met f x => h.get? a = some (PySem.W.methodObj (.ref f) (.ref x))
 | .exc C dx fr fs => fs.length <= 1000 /\ (∃ o vs, h.get? a = some o /\ o.cls = .ref C /\ o.dict = dx /\ o.data = .fields vs /\ vs.size = 6 /\ (fr = true -> vs[1]? = some .none)) /\
  match dx with
  | none => fs = []
  | some d => H d = some (.own a) /\ d ≠ a /\ ∃ mA, h.Ns1 d mA /\ (∀ f, RelO (fs.lookup f) (mA f)) /\ PySem.Within mA (fs.map (·.1))
 | .ext φ => φ h /\ (∃ o, h.get? a = some o) /\ ∀ h1 h2 : Heap, φ h1 -> (∀ o, h1.get? a = some o -> h2.get? a = some o) -> φ h2
def HOk (H : Hp) (h : Heap) : Prop := ∀ a o, H a = some o -> Z8 P w H h a o
end
section
variable {P : Program} {w : World} {H H' : Hp} {h h' : Heap} {a : Addr} {o : HO}
theorem Z8.lt (x : Z8 P w H h a o) : a < h.objs.size := by
 cases o with
 | lst xs => obtain ⟨_, _, _, _, e⟩ := x; exact Heap.lt_size e
 | tup xs => obtain ⟨_, _, _, p⟩ := x; exact p.lt
 | dK kvs => obtain ⟨_, _, _, _, o, _, _, e, _⟩ := x; exact Heap.lt_size e
 | dT kvs => obtain ⟨_, _, _, _, o, _, _, e, _⟩ := x; exact Heap.lt_size e
 | set S n => obtain ⟨o, _, _, _, e, _⟩ := x; exact Heap.lt_size e
 | ins C dx fs => obtain ⟨_, _, _, e, _⟩ := x; exact Heap.lt_size e
 | own y => obtain ⟨_, e⟩ := x; exact Heap.lt_size e
 | xd fs => obtain ⟨_, ⟨_, _, _, e, _⟩, _⟩ := x; exact Heap.lt_size e
 | rng lo hi => obtain ⟨_, _, _, e⟩ := x; exact Heap.lt_size e
 | frz ob u => obtain ⟨e, _⟩ := x; exact Heap.lt_size e
 | tbl ps => exact Heap.lt_size (show h.get? a = some _ from x)
 | met f y => exact Heap.lt_size (show h.get? a = some _ from x)
 | ext φ => obtain ⟨_, ⟨_, e⟩, _⟩ := x; exact Heap.lt_size e
 | exc C dx fr fs => obtain ⟨_, ⟨_, _, e, _⟩, _⟩ := x; exact Heap.lt_size e
theorem Paired.mapP {α β : Type} {F G : α -> β -> Prop} : ∀ {l₁ : List α} {l₂ : List β}, Paired F l₁ l₂ -> (∀ a b, F a b -> G a b) -> Paired G l₁ l₂
 | _, _, .nil, _ => .nil
 | _, _, .cons r t, f => .cons (f _ _ r) (Paired.mapP t f)
termination_by structural a => a
theorem Z8.stay (x : Z8 P w H h a o) (k : ∀ b u, (b = a \/ H b = some (.own a)) -> h.get? b = some u -> h'.get? b = some u)
 (ho : ∀ b, H b = some (.own a) -> H' b = some (.own a)) (ht : ∀ b xs, H b = some (.tup xs) -> H' b = some (.tup xs)) : Z8 P w H' h' a o := by
 induction o with
 | lst xs => obtain ⟨z, its, n, r, e⟩ := x; exact ⟨z, its, n, r, k _ _ (.inl rfl) e⟩
 | tup xs => obtain ⟨z, its, r, ob, e, c⟩ := x; exact ⟨z, its, r, ob, k _ _ (.inl rfl) e, c⟩
 | dK kvs => obtain ⟨z, y, vs, r, ob, es, ep, e, c⟩ := x; exact ⟨z, y, vs, r, ob, es, ep, k _ _ (.inl rfl) e, c⟩
 | dT kvs =>
  obtain ⟨z, y, xs, r, ob, es, ep, e, c⟩ := x
  exact ⟨z, y, xs, Paired.mapP r fun p q z => ⟨z.1, ht _ _ z.2.1, z.2.2⟩, ob, es, ep, k _ _ (.inl rfl) e, c⟩
 | set S n => obtain ⟨ob, es, ep, t, e, c⟩ := x; exact ⟨ob, es, ep, t, k _ _ (.inl rfl) e, c⟩
 | ins C dx fs =>
  obtain ⟨d, z, ne, e, mA, ⟨od, es, ep, e2, c⟩, r⟩ := x
  exact ⟨ho _ d, z, ne, k _ _ (.inl rfl) e, mA, ⟨od, es, ep, k _ _ (.inr d) e2, c⟩, r⟩
 | own y => obtain ⟨ob, e⟩ := x; exact ⟨ob, k _ _ (.inl rfl) e⟩
 | xd fs => obtain ⟨mA, ⟨od, es, ep, e, c⟩, r⟩ := x; exact ⟨mA, ⟨od, es, ep, k _ _ (.inl rfl) e, c⟩, r⟩
 | rng lo hi => obtain ⟨t, u, v, e⟩ := x; exact ⟨t, u, v, k _ _ (.inl rfl) e⟩
 | frz ob u ih => obtain ⟨e, q⟩ := x; exact ⟨k _ _ (.inl rfl) e, ih q⟩
 | tbl ps =>
  have e : h.get? a = some { cls := .none, data := .fields ps } := x
  show h'.get? a = some { cls := .none, data := .fields ps }
  exact k a _ (.inl rfl) e
 | met f y =>
  have e : h.get? a = some (PySem.W.methodObj (.ref f) (.ref y)) := x
  show h'.get? a = some (PySem.W.methodObj (.ref f) (.ref y))
  exact k a _ (.inl rfl) e
 | ext φ => obtain ⟨p, ⟨o, e⟩, st⟩ := x; exact ⟨st _ _ p fun o q => k _ _ (.inl rfl) q, ⟨o, k _ _ (.inl rfl) e⟩, st⟩
 | exc C dx fr fs =>
  obtain ⟨z, ⟨o, vs, e, q⟩, r⟩ := x
  refine ⟨z, ⟨o, vs, k _ _ (.inl rfl) e, q⟩, ?_⟩
  cases dx with
  | none => exact r
  | some d =>
   obtain ⟨r1, r2, mA, ⟨od, es, ep, e2, c⟩, r3⟩ := r
   exact ⟨ho _ r1, r2, mA, ⟨od, es, ep, k _ _ (.inr r1) e2, c⟩, r3⟩
theorem HOk.lt (x : HOk P w H h) (e : H a = some o) : a < h.objs.size := (x a o e).lt
theorem HOk.fresh (x : HOk P w H h) (e : h.objs.size <= a) : H a = none := by
 cases q : H a with
 | none => rfl
 | some u => exact absurd (Nat.lt_of_lt_of_le (x.lt q) e) (Nat.lt_irrefl _)
theorem HOk.kept (x : HOk P w H h) (k : ∀ b u, h.get? b = some u -> h'.get? b = some u) : HOk P w H h' := fun a o e =>
 (x a o e).stay (fun b u _ q => k b u q) (fun _ q => q) fun _ _ q => q
theorem HOk.laid (x : HOk P w H h) (k : ∀ b u, h.get? b = some u -> h'.get? b = some u) (hp : h.objs.size <= a) (new : Z8 P w (upd H a o) h' a o) : HOk P w (upd H a o) h' := fun b u e => by
 have hn := x.fresh hp
 by_cases hb : b = a
 . subst hb; rw [Zk] at e; cases e; exact new
 . rw [Zn hb] at e
   exact (x b u e).stay (fun c v _ q => k c v q) (fun c q => by rw [Zn (ZaJ q hn)]; exact q) fun c xs q => by rw [Zn (ZaJ q hn)]; exact q
end
def Rd (H : Hp) (a : Addr) (u : HO) : Prop := H a = some u \/ ∃ o, H a = some (.frz o u)
theorem Rd.ok {P : Program} {w : World} {H : Hp} {h : Heap} {a : Addr} {u : HO} (r : Rd H a u) (x : HOk P w H h) : Z8 P w H h a u := by
 rcases r with r | ⟨o, r⟩
 . exact x a u r
 . obtain ⟨_, q⟩ := x a _ r
   exact q
def Mut : Option HO -> Prop
 | some (.lst _) => True
 | some (.dK _) => True
 | some (.dT _) => True
 | some (.set _ _) => True
 | some (.ins _ _ _) => True
 | some (.ext _) => True
 | some (.exc _ _ _ _) => True
 | _ => False
section
variable {P : Program} {w : World} {H : Hp} {h h' : Heap} {x e : Addr} {o' : HO}
theorem HOk.write (ok : HOk P w H h) (mu : Mut (H x)) (he : e = x \/ H e = some (.own x)) (k : ∀ b u, b ≠ e -> h.get? b = some u -> h'.get? b = some u) (heo : ∃ u, h'.get? e = some u)
 (new : Z8 P w (upd H x o') h' x o') : HOk P w (upd H x o') h' := fun b u q => by
 have nown : ∀ c y, H c = some (.own y) -> c ≠ x := fun c y r z => by subst z; rw [r] at mu; exact mu
 have ntup : ∀ c xs, H c = some (.tup xs) -> c ≠ x := fun c xs r z => by subst z; rw [r] at mu; exact mu
 by_cases hb : b = x
 . subst hb; rw [Zk] at q; cases q; exact new
 . rw [Zn hb] at q
   by_cases hbe : b = e
   . have q' : H b = some (.own x) := by
      rcases he with z | z
      . exact absurd (hbe.trans z) hb
      . rw [hbe]; exact z
     rw [q] at q'; cases q'
     obtain ⟨v, hv⟩ := heo
     exact ⟨v, by rw [hbe]; exact hv⟩
   . refine (ok b u q).stay (fun c v hc r => k c v ?_ r) (fun c r => by rw [Zn (nown c b r)]; exact r) fun c xs r => by rw [Zn (ntup c xs r)]; exact r
     rcases hc with rfl | hc
     . exact hbe
     . rintro rfl
       rcases he with z | z
       . exact nown c b hc z
       . rw [hc] at z; cases z; exact hb rfl
end
structure Un (fs ex : List Addr) (H H' : Hp) (h h' : Heap) : Prop where
 keep : ∀ b o, h.get? b = some o -> H b = none -> b ∉ fs -> b ∉ ex -> h'.get? b = some o
 slot : ∀ b o, h.get? b = some o -> H b = none -> b ∈ fs -> b ∉ ex -> ∃ sl, h'.get? b = some { o with slots := sl }
 free : ∀ b o, h.get? b = some o -> H b = none -> b ∉ ex -> H' b = none
 there : ∀ b o, h.get? b = some o -> b ∉ ex -> ∃ o', h'.get? b = some o'
 tups : ∀ b xs, H b = some (.tup xs) -> H' b = some (.tup xs)
 frzs : ∀ b o u, H b = some (.frz o u) -> H' b = some (.frz o u)
 tbls : ∀ b ps, H b = some (.tbl ps) -> ∃ more, H' b = some (.tbl (ps ++ more))
section
variable {fs fs' ex ex' : List Addr} {H H1 H2 : Hp} {h h1 h2 h' : Heap} {a x e : Addr} {o : HO}
theorem Un.any (u : Un fs ex H H1 h h1) {b : Addr} {ob : Obj} (q : h.get? b = some ob) (n : H b = none) (hx : b ∉ ex) : ∃ sl, h1.get? b = some { ob with slots := sl } := by
 by_cases hb : b ∈ fs
 . exact u.slot b ob q n hb hx
 . exact ⟨ob.slots, u.keep b ob q n hb hx⟩
theorem Un.kept (k : ∀ b u, h.get? b = some u -> h'.get? b = some u) : Un fs ex H H h h' :=
 ⟨fun b ob q _ _ _ => k b ob q, fun b ob q _ _ _ => ⟨ob.slots, k b ob q⟩, fun _ _ _ n _ => n, fun b ob q _ => ⟨ob, k b ob q⟩, fun _ _ q => q, fun _ _ _ q => q, fun _ ps q => ⟨#[], by rw [q]; simp⟩⟩
theorem Un.refl : Un fs ex H H h h := Un.kept fun _ _ q => q
theorem Un.laid (k : ∀ b u, h.get? b = some u -> h'.get? b = some u) (hp : h.objs.size <= a) (hn : H a = none) : Un fs ex H (upd H a o) h h' where
 keep := fun b u q _ _ _ => k b u q
 slot := fun b u q _ _ _ => ⟨u.slots, k b u q⟩
 free := fun b u q n _ => by rw [Zn (Nat.ne_of_lt (Nat.lt_of_lt_of_le (Heap.lt_size q) hp))]; exact n
 there := fun b u q _ => ⟨u, k b u q⟩
 tups := fun b xs q => by rw [Zn (ZaJ q hn)]; exact q
 frzs := fun b u xs q => by rw [Zn (ZaJ q hn)]; exact q
 tbls := fun b ps q => ⟨#[], by rw [Zn (ZaJ q hn), q]; simp⟩
theorem Un.write (mu : Mut (H x)) (he : e = x \/ H e = some (.own x)) (k : ∀ b u, b ≠ e -> h.get? b = some u -> h'.get? b = some u) (heo : ∃ u, h'.get? e = some u) : Un fs ex H (upd H x o) h h' := by
 have hx : ∀ b, H b = none -> b ≠ x := fun b n z => by subst z; rw [n] at mu; exact mu
 have hb : ∀ b, H b = none -> b ≠ e := fun b n z => by
  subst z
  rcases he with r | r
  . exact hx b n r
  . rw [n] at r; cases r
 have hm : ∀ b u, H b = some u -> ¬ Mut (some u) -> b ≠ x := fun b u q nm z => by subst z; rw [q] at mu; exact nm mu
 refine ⟨fun b u q n _ _ => k b u (hb b n) q, fun b u q n _ _ => ⟨u.slots, k b u (hb b n) q⟩, fun b u q n _ => by rw [Zn (hx b n)]; exact n, fun b u q _ => ?_,
  fun b xs q => by rw [Zn (hm b _ q fun z => z)]; exact q, fun b u xs q => by rw [Zn (hm b _ q fun z => z)]; exact q, fun b ps q => ⟨#[], by rw [Zn (hm b _ q fun z => z), q]; simp⟩⟩
 by_cases hbe : b = e
 . subst hbe; exact heo
 . exact ⟨u, k b u hbe q⟩
end
noncomputable def trk (h : Heap) (H : Hp) : List Addr := (List.range h.objs.size).filter fun a => (H a).isSome
noncomputable def hidT (h : Heap) (H : Hp) : Heap := PySem.W.hideAll h (trk h H)
theorem ZhC (h : Heap) (H : Hp) : (hidT h H).objs.size = h.objs.size := PySem.W.hideAll_size _ _
theorem ZiS {h : Heap} {H : Hp} {b : Addr} {o : Obj} (e : h.get? b = some o) (n : H b = none) : (hidT h H).get? b = some o :=
 PySem.W.hideAll_get _ e fun hm => by
  have q : (H b).isSome = true := (List.mem_filter.mp hm).2
  rw [n] at q; simp at q
theorem Zks {h : Heap} {H : Hp} {b : Addr} {o : Obj} (e : (hidT h H).get? b = some o) : h.get? b = some o /\ H b = none := by
 have e' : h.get? b = some o := PySem.W.of_hideAll (trk h H) e
 refine ⟨e', ?_⟩
 cases q : H b with
 | none => rfl
 | some x =>
  have hm : b ∈ trk h H := List.mem_filter.mpr ⟨List.mem_range.mpr (Heap.lt_size e'), by simp [q]⟩
  have z : (hidT h H).get? b = none := PySem.W.hideAll_none (trk h H) hm
  rw [z] at e; cases e
noncomputable def Zkt (g h : Heap) (L : Addr) : List (Addr × Obj) := (List.range h.objs.size).filterMap fun a => if a = L \/ (g.get? a).isSome = true then none else (h.get? a).map fun o => (a, o)
noncomputable def rest (g h : Heap) (L d : Addr) : List (Addr × Obj) := (Zkt g h L).filter fun p => decide (p.1 ≠ d)
end L2
namespace L2
open PySem PySem.Spec PyProof.Rows
structure Mod (K : Fg) (mg : Str -> Option Value) (base : Heap) : Prop where
 kin : K.In base
 glob : base.Ns mainGlobals mg
 blt : ∃ mb, base.Ns builtinsNs mb /\ ∀ x : Str, x ≠ "__name__" -> mb x = bootBuiltins x
 nolimit : base.NoLimit
structure Cx where
 prog : Program
 w : World
 K : Fg
 mg : Str -> Option Value
 base : Heap
 A : Around
 N : List Str
 s₀ : Shared
 H₀ : Hp
 env : Env
 outer : List Env
 stack : List Env
 ex : List Addr
 fn : Str -> Bool
 calm : Bool
 pn : List (Addr × Obj)
 xe : Value -> Shared -> Prop
noncomputable def frs (l : List Env) : List Addr := l.filterMap (·.frame)
noncomputable abbrev Cx.fs (X : Cx) : List Addr := frs X.outer
def Vis (sc : Scope) (x : Str) : Prop := sc.names.lookup x = some .local \/ sc.names.lookup x = some .cell \/ sc.names.lookup x = some .free
def Loc (sc : Scope) (x : Str) : Prop := sc.names.lookup x = some .local \/ sc.names.lookup x = some .cell
def Look (env : Env) (h : Heap) (m : Str -> Option Value) (x : Str) (u : Value) : Prop :=
 (env.kindOf x = some .local /\ m x = some u) \/ ((env.kindOf x = some .cell \/ env.kindOf x = some .free) /\ ∃ c, env.cells.lookup x = some c /\ h.IsCell c (some u))
structure Cx.Ok (X : Cx) : Prop where
 mod : Mod X.K X.mg X.base
 kind : X.env.scope.kind = .function
 glob : X.env.globals = mainGlobals
 blt : X.env.builtins = builtinsNs
 above : X.s₀.heap.objs.size <= X.env.locals
 inj : ∀ x y c, X.env.cells.lookup x = some c -> X.env.cells.lookup y = some c -> x = y
 has : ∀ x, (X.env.kindOf x = some .cell \/ X.env.kindOf x = some .free) -> ∃ c, X.env.cells.lookup x = some c
 cab : ∀ x c, X.fn x = true -> X.env.cells.lookup x = some c -> X.s₀.heap.objs.size <= c
 hd : X.calm = true -> X.A.handled = none
 frames : X.A.frames = some X.stack
 stk : X.stack = X.outer \/ (X.stack = X.env :: X.outer /\ X.env.frame = some X.env.locals)
 exf : ∀ b ∈ X.ex, b ≠ X.env.locals /\ ∀ x c, X.env.cells.lookup x = some c -> c ≠ b
 bs : ∀ b o, X.base.get? b = some o -> X.s₀.heap.get? b = some o /\ X.H₀ b = none
 bsz : X.base.objs.size <= X.s₀.heap.objs.size
 noex : ∀ b o, X.base.get? b = some o -> b ∉ X.ex
 exfs : ∀ b ∈ X.ex, b ∉ X.fs
 funs : X.s₀.heap.FunFrames X.base X.outer
 frf : ∀ b ∈ X.fs, X.H₀ b = none
structure Inv (X : Cx) (pins : List (Addr × Obj)) (σ : List (Option V)) (H : Hp) (s : Shared) : Prop where
 ok : X.Ok
 os : s.os = X.s₀.os
 bare : AllBare s.gens
 base : Un X.fs X.ex X.H₀ H X.s₀.heap s.heap
 loc : ∃ m, s.heap.Ns X.env.locals m /\ ∀ (i : Nat) (x : Str) (v : V), X.N[i]? = some x -> σ[i]? = some (some v) -> Vis X.env.scope x -> ∃ u, RelV v u /\ Look X.env s.heap m x u
 cell : ∀ x c, X.env.cells.lookup x = some c -> ∃ v, s.heap.IsCell c v
 free : H X.env.locals = none
 freeC : ∀ x c, X.env.cells.lookup x = some c -> H c = none
 pin : ∀ p ∈ X.pn ++ pins, s.heap.get? p.1 = some p.2 /\ H p.1 = none /\ p.1 ≠ X.env.locals /\ p.1 ∉ X.fs /\ ∀ v, p.2.data ≠ .cell v
 hok : HOk X.prog X.w H s.heap
 len : σ.length = X.N.length
section
variable {X : Cx} {pins : List (Addr × Obj)} {σ : List (Option V)} {H H' : Hp} {s : Shared} {h' : Heap}
theorem Cx.Ok.nofr (ok : X.Ok) {b : Addr} {o : Obj} (e : X.base.get? b = some o) : b ∉ X.fs := fun hb => by
 have := (ok.funs.mem hb).1
 rw [e] at this; cases this
theorem Inv.bs (I : Inv X pins σ H s) : ∀ b o, X.base.get? b = some o -> s.heap.get? b = some o /\ H b = none := fun b o e =>
 ⟨I.base.keep b o (I.ok.bs b o e).1 (I.ok.bs b o e).2 (I.ok.nofr e) (I.ok.noex b o e), I.base.free b o (I.ok.bs b o e).1 (I.ok.bs b o e).2 (I.ok.noex b o e)⟩
theorem Inv.bk (I : Inv X pins σ H s) : ∀ b o, X.base.get? b = some o -> s.heap.get? b = some o := fun b o e => (I.bs b o e).1
theorem Inv.mod (I : Inv X pins σ H s) : Mod X.K X.mg X.base := I.ok.mod
theorem Inv.kIn (I : Inv X pins σ H s) : X.K.In s.heap := I.ok.mod.kin.keeps I.bk
theorem Inv.lt (I : Inv X pins σ H s) : X.env.locals < s.heap.objs.size := let ⟨_, hn, _⟩ := I.loc; hn.lt
theorem Inv.sz (I : Inv X pins σ H s) : X.s₀.heap.objs.size <= s.heap.objs.size := Nat.le_trans I.ok.above (Nat.le_of_lt I.lt)
theorem Inv.nofs (I : Inv X pins σ H s) {a : Addr} (h : s.heap.objs.size <= a) : a ∉ X.fs := fun hb => by
 obtain ⟨_, o, ho, _⟩ := I.ok.funs.mem hb
 exact absurd (Nat.lt_of_lt_of_le (Heap.lt_size ho) (Nat.le_trans I.sz h)) (Nat.lt_irrefl _)
theorem Inv.cne (I : Inv X pins σ H s) : ∀ x c, X.env.cells.lookup x = some c -> c ≠ X.env.locals := fun x c e z => by
 obtain ⟨v, o, ho, hd⟩ := I.cell x c e
 obtain ⟨m, ⟨o', es, ep, ho', hd', _⟩, _⟩ := I.loc
 rw [z, ho'] at ho; cases ho; rw [hd'] at hd; cases hd
theorem Inv.funs (I : Inv X pins σ H s) : s.heap.FunFrames X.base X.outer := by
 have all : ∀ (l : List Env), (∀ b ∈ frs l, b ∈ X.fs) -> X.s₀.heap.FunFrames X.base l -> s.heap.FunFrames X.base l := by
  intro l
  induction l with
  | nil => intro _ _; trivial
  | cons env r ih =>
   intro hs hl
   obtain ⟨hk, ⟨L, o, hf, hn, ho, hd⟩, hr⟩ := hl
   have hL : L ∈ X.fs := hs L (by unfold frs; rw [List.filterMap_cons, hf]; exact List.mem_cons_self)
   obtain ⟨sl, e⟩ := I.base.slot L o ho (I.ok.frf L hL) hL fun z => I.ok.exfs L z hL
   exact ⟨hk, ⟨L, _, hf, hn, e, hd⟩, ih (fun b hb => hs b (by unfold frs; rw [List.filterMap_cons, hf]; exact List.mem_cons_of_mem _ hb)) hr⟩
 exact all X.outer (fun _ hb => hb) I.ok.funs
theorem Inv.stack (I : Inv X pins σ H s) : s.heap.FunFrames X.base X.stack := by
 rcases I.ok.stk with e | ⟨e, hf⟩
 . rw [e]; exact I.funs
 . rw [e]
   obtain ⟨m, hn, _⟩ := I.loc
   refine .cons (by rw [I.ok.kind]; decide) hf hn ?_ I.funs
   exact Heap.get?_none_of_le (Nat.le_trans I.ok.bsz I.ok.above)
theorem Inv.stkSub (I : Inv X pins σ H s) : ∀ b ∈ frs X.stack, b ∈ X.env.locals :: X.fs := fun b hb => by
 rcases I.ok.stk with e | ⟨e, hf⟩
 . rw [e] at hb; exact List.mem_cons_of_mem _ hb
 . rw [e] at hb
   unfold frs at hb
   rw [List.filterMap_cons, hf] at hb
   exact hb
theorem Inv.stkFree (I : Inv X pins σ H s) : ∀ b ∈ frs X.stack, H b = none := fun b hb => by
 rcases List.mem_cons.mp (I.stkSub b hb) with e | hb
 . rw [e]; exact I.free
 . obtain ⟨_, o, ho, _⟩ := I.ok.funs.mem hb
   exact I.base.free b o ho (I.ok.frf b hb) fun z => I.ok.exfs b z hb
theorem Inv.step {g' : Array GenState} {t' : Nat} {d' : Drawn} {ch : List Addr} (I : Inv X pins σ H s)
 (hch : ∀ b ∈ ch, (b ∈ X.ex \/ X.s₀.heap.objs.size <= b) /\ b ≠ X.env.locals /\ (∀ x c, X.env.cells.lookup x = some c -> c ≠ b) /\ ∀ p ∈ X.pn ++ pins, p.1 ≠ b)
 (keep : ∀ b o, b ≠ X.env.locals -> b ∉ X.fs -> b ∉ ch -> s.heap.get? b = some o -> H b = none -> h'.get? b = some o)
 (slot : ∀ b o, b ≠ X.env.locals -> b ∈ X.fs -> b ∉ ch -> s.heap.get? b = some o -> H b = none -> ∃ sl, h'.get? b = some { o with slots := sl }) (free : ∀ b o, b ∉ ch -> s.heap.get? b = some o -> H b = none -> H' b = none)
 (there : ∀ b o, b ∉ ch -> s.heap.get? b = some o -> ∃ o', h'.get? b = some o')
 (tups : ∀ b xs, H b = some (.tup xs) -> H' b = some (.tup xs)) (frzs : ∀ b o u, H b = some (.frz o u) -> H' b = some (.frz o u)) (tbls : ∀ b ps, H b = some (.tbl ps) -> ∃ more, H' b = some (.tbl (ps ++ more)))
 (ns : ∀ m, s.heap.Ns X.env.locals m -> h'.Ns X.env.locals m) (hok : HOk X.prog X.w H' h') (hg : AllBare g') :
 Inv X pins σ H' { s with heap := h', gens := g', drawn := d', toks := t' } := by
 have neL : ∀ b o, X.s₀.heap.get? b = some o -> b ≠ X.env.locals := fun b o e => Nat.ne_of_lt (Nat.lt_of_lt_of_le (Heap.lt_size e) I.ok.above)
 have neC : ∀ b o, X.s₀.heap.get? b = some o -> b ∉ X.ex -> b ∉ ch := fun b o e hx hb => by
  rcases (hch b hb).1 with z | z
  . exact hx z
  . exact absurd (Nat.lt_of_lt_of_le (Heap.lt_size e) z) (Nat.lt_irrefl _)
 have cellK : ∀ x c, X.env.cells.lookup x = some c -> ∀ v, s.heap.IsCell c v -> h'.IsCell c v := fun x c e v z0 => by
  obtain ⟨o, ho, hd⟩ := z0
  have nch : c ∉ ch := fun z => (hch c z).2.2.1 x c e rfl
  by_cases hc : c ∈ X.fs
  . obtain ⟨sl, q⟩ := slot c o (I.cne x c e) hc nch ho (I.freeC x c e)
    exact ⟨_, q, hd⟩
  . exact ⟨o, keep c o (I.cne x c e) hc nch ho (I.freeC x c e), hd⟩
 refine ⟨I.ok, I.os, hg, ⟨fun b o e n hb hx => ?_, fun b o e n hb hx => ?_, fun b o e n hx => ?_, fun b o e hx => ?_, fun b xs e => tups b xs (I.base.tups b xs e), fun b o xs e => frzs b o xs (I.base.frzs b o xs e), fun b ps e => ?_⟩, ?_, fun x c e => ?_, ?_, fun x c e => ?_, fun p hp => ?_, hok, I.len⟩
 . exact keep b o (neL b o e) hb (neC b o e hx) (I.base.keep b o e n hb hx) (I.base.free b o e n hx)
 . obtain ⟨sl, e1⟩ := I.base.slot b o e n hb hx
   obtain ⟨sl', e2⟩ := slot b _ (neL b o e) hb (neC b o e hx) e1 (I.base.free b o e n hx)
   exact ⟨sl', e2⟩
 . obtain ⟨o', e1⟩ := I.base.there b o e hx
   exact free b o' (neC b o e hx) e1 (I.base.free b o e n hx)
 . obtain ⟨o', e1⟩ := I.base.there b o e hx
   exact there b o' (neC b o e hx) e1
 . obtain ⟨m1, e1⟩ := I.base.tbls b ps e
   obtain ⟨m2, e2⟩ := tbls b _ e1
   exact ⟨m1 ++ m2, by rw [e2, Array.append_assoc]⟩
 . obtain ⟨m, hn, hl⟩ := I.loc
   refine ⟨m, ns m hn, fun i x v e1 e2 e3 => ?_⟩
   obtain ⟨u, r, l⟩ := hl i x v e1 e2 e3
   refine ⟨u, r, ?_⟩
   rcases l with l | ⟨k, c, e, z⟩
   . exact .inl l
   . exact .inr ⟨k, c, e, cellK x c e _ z⟩
 . obtain ⟨v, z⟩ := I.cell x c e
   exact ⟨v, cellK x c e v z⟩
 . obtain ⟨m, ⟨o, _, _, ho, _⟩, _⟩ := I.loc
   exact free _ o (fun z => (hch _ z).2.1 rfl) ho I.free
 . obtain ⟨v, o, ho, hd⟩ := I.cell x c e
   exact free c o (fun z => (hch c z).2.2.1 x c e rfl) ho (I.freeC x c e)
 . obtain ⟨e, n, ne, nf, d⟩ := I.pin p hp
   have nch : p.1 ∉ ch := fun z => (hch p.1 z).2.2.2 p hp rfl
   exact ⟨keep p.1 p.2 ne nf nch e n, free p.1 p.2 nch e n, ne, nf, d⟩
theorem Inv.un {t' : Nat} (I : Inv X pins σ H s) (u : Un X.fs [] H H' s.heap h') (hok : HOk X.prog X.w H' h') : Inv X pins σ H' { s with heap := h', toks := t' } := by
 obtain ⟨m, ⟨o, es, ep, ho, r⟩, _⟩ := id I.loc
 obtain ⟨sl, hL⟩ := u.any ho I.free (by simp)
 exact I.step (g' := s.gens) (d' := s.drawn) (ch := []) (fun _ z => nomatch z) (fun b o _ hb _ e n => u.keep b o e n hb (by simp)) (fun b o _ hb _ e n => u.slot b o e n hb (by simp)) (fun b o _ e n => u.free b o e n (by simp)) (fun b o _ e => u.there b o e (by simp)) u.tups u.frzs u.tbls (fun m' hm => by
  obtain ⟨o', es', ep', ho', r'⟩ := hm
  rw [ho] at ho'; cases ho'
  exact ⟨_, es', ep', hL, r'⟩) hok I.bare
theorem Inv.call {g' : Array GenState} {t' : Nat} {d' : Drawn} {ch : List Addr} (I : Inv X pins σ H s) (u : Un (frs X.stack) ch H H' s.heap h') (hok : HOk X.prog X.w H' h') (hg : AllBare g')
 (hch : ∀ b ∈ ch, (b ∈ X.ex \/ X.s₀.heap.objs.size <= b) /\ b ≠ X.env.locals /\ (∀ x c, X.env.cells.lookup x = some c -> c ≠ b) /\ ∀ p ∈ X.pn ++ pins, p.1 ≠ b) :
 Inv X pins σ H' { s with heap := h', gens := g', drawn := d', toks := t' } := by
 obtain ⟨m, ⟨o, es, ep, ho, r⟩, _⟩ := id I.loc
 obtain ⟨sl, hL⟩ := u.any ho I.free fun z => (hch _ z).2.1 rfl
 exact I.step (ch := ch) hch (fun b o hL hb hc e n => u.keep b o e n (fun z => (List.mem_cons.mp (I.stkSub b z)).elim hL hb) hc) (fun b o _ _ hc e n => u.any e n hc) (fun b o hc e n => u.free b o e n hc) (fun b o hc e => u.there b o e hc) u.tups u.frzs u.tbls (fun m' hm => by
  obtain ⟨o', es', ep', ho', r'⟩ := hm
  rw [ho] at ho'; cases ho'
  exact ⟨_, es', ep', hL, r'⟩) hok hg
theorem Inv.turned {t' : Nat} {it : Addr} (I : Inv X pins σ H s) (k : ∀ b o, b ≠ it -> s.heap.get? b = some o -> h'.get? b = some o) (hn : H it = none) (hL : it ≠ X.env.locals)
 (h1 : it ∈ X.ex \/ X.s₀.heap.objs.size <= it) (h2 : ∀ x c, X.env.cells.lookup x = some c -> c ≠ it) (h3 : ∀ p ∈ X.pn ++ pins, p.1 ≠ it) : Inv X pins σ H { s with heap := h', toks := t' } := by
 have nit : ∀ b u, H b = some u -> b ≠ it := fun b u e z => by rw [z, hn] at e; cases e
 refine I.step (g' := s.gens) (d' := s.drawn) (ch := [it]) (fun b hb => ?_) (fun b o _ _ hc e _ => k b o (fun z => hc (by simp [z])) e) (fun b o _ _ hc e _ => ⟨o.slots, k b o (fun z => hc (by simp [z])) e⟩) (fun _ _ _ _ n => n)
  (fun b o hc e => ⟨o, k b o (fun z => hc (by simp [z])) e⟩) (fun _ _ e => e) (fun _ _ _ e => e) (fun b ps e => ⟨#[], by rw [e]; simp⟩) (fun m hm => ?_) (fun b u e => ?_) I.bare
 . have e : b = it := by simpa using hb
   subst e
   exact ⟨h1, hL, h2, h3⟩
 . obtain ⟨o, es, ep, ho, r⟩ := hm
   exact ⟨o, es, ep, k _ o (Ne.symm hL) ho, r⟩
 . refine (I.hok b u e).stay (fun c v hc q => k c v ?_ q) (fun _ q => q) fun _ _ q => q
   rcases hc with z | z
   . rw [z]; exact nit b u e
   . exact nit c _ z
theorem Inv.tok (I : Inv X pins σ H s) (t : Nat) : Inv X pins σ H { s with toks := t } := I.un (h' := s.heap) (t' := t) Un.refl I.hok
theorem Inv.kept {t' : Nat} (I : Inv X pins σ H s) (k : ∀ b u, s.heap.get? b = some u -> h'.get? b = some u) : Inv X pins σ H { s with heap := h', toks := t' } := I.un (Un.kept k) (I.hok.kept k)
theorem Inv.laid {a : Addr} {o : HO} {t' : Nat} (I : Inv X pins σ H s) (k : ∀ b u, s.heap.get? b = some u -> h'.get? b = some u) (hp : s.heap.objs.size <= a) (new : Z8 X.prog X.w (upd H a o) h' a o) :
 Inv X pins σ (upd H a o) { s with heap := h', toks := t' } := I.un (Un.laid k hp (I.hok.fresh hp)) (I.hok.laid k hp new)
theorem Inv.write {x e : Addr} {o : HO} {t' : Nat} (I : Inv X pins σ H s) (mu : Mut (H x)) (he : e = x \/ H e = some (.own x)) (k : ∀ b u, b ≠ e -> s.heap.get? b = some u -> h'.get? b = some u) (heo : ∃ u, h'.get? e = some u)
 (new : Z8 X.prog X.w (upd H x o) h' x o) : Inv X pins σ (upd H x o) { s with heap := h', toks := t' } := I.un (Un.write mu he k heo) (I.hok.write mu he k heo new)
theorem Inv.pins_of {pins' : List (Addr × Obj)} (I : Inv X pins σ H s) (h : ∀ p ∈ pins', s.heap.get? p.1 = some p.2 /\ H p.1 = none /\ p.1 ≠ X.env.locals /\ p.1 ∉ X.fs /\ ∀ v, p.2.data ≠ .cell v) : Inv X pins' σ H s :=
 ⟨I.ok, I.os, I.bare, I.base, I.loc, I.cell, I.free, I.freeC, fun p hp => (List.mem_append.mp hp).elim (fun z => I.pin p (List.mem_append_left _ z)) (h p), I.hok, I.len⟩
theorem Zfk {N : List Str} (hN : N.Nodup) {i j : Nat} {x : Str} (a : N[i]? = some x) (b : N[j]? = some x) : i = j := by
 obtain ⟨h1, e1⟩ := List.getElem?_eq_some_iff.mp a
 obtain ⟨h2, e2⟩ := List.getElem?_eq_some_iff.mp b
 exact (List.getElem_inj hN).mp (e1.trans e2.symm)
theorem ZhD {M : Model} {A : Around} {E : Value -> Shared -> Prop} {i : Nat} {x : Str} {v : V} {u : Value} {Q : Unit -> Shared -> Prop} (I : Inv X pins σ H s) (hN : X.N.Nodup) (hi : X.N[i]? = some x) (hx : Loc X.env.scope x) (r : RelV v u)
 (h : ∀ s', Inv X pins (σ.set i (some v)) H s' -> (∃ a, Heap.SameBut a s.heap s'.heap /\ (a = X.env.locals \/ X.env.cells.lookup x = some a)) -> Q () s') (hf : X.fn x = true \/ X.env.scope.names.lookup x = some .local := by first | exact .inl rfl | exact .inr rfl | assumption) : wpAny M A (storeName X.env x u) Q E s := by
 obtain ⟨m, hn, hl⟩ := id I.loc
 have hcls : (X.env.scope.kind == .class || (X.env.scope.kind == .module && X.env.locals != X.env.globals)) = false := by rw [I.ok.kind]; rfl
 have hiσ : i < σ.length := by rw [I.len]; exact (List.getElem?_eq_some_iff.mp hi).1
 have cne := I.cne
 have tracked : ∀ {a : Addr} {h' : Heap}, (∃ o, s.heap.get? a = some o /\ H a = none) -> Heap.SameBut a s.heap h' -> HOk X.prog X.w H h' := fun {a h'} ha hs b ob e => by
  obtain ⟨_, _, hfree⟩ := ha
  refine (I.hok b ob e).stay (fun c w' hc q => (hs.2 c ?_).trans q) (fun _ q => q) fun _ _ q => q
  rintro rfl
  rcases hc with rfl | hc
  . rw [hfree] at e; cases e
  . rw [hfree] at hc; cases hc
 rcases hx with hk | hk
 . refine wpAny_storeName_local hk hn (fun h' hn' hs => ?_) hcls
   obtain ⟨oL, _, _, hoL, _⟩ := id hn
   refine h _ ⟨I.ok, I.os, I.bare, ⟨fun b o e n hb hx => ?_, fun b o e n hb hx => ?_, I.base.free, fun b o e hx => ?_, I.base.tups, I.base.frzs, I.base.tbls⟩, ⟨_, hn', fun j y v' e1 e2 e3 => ?_⟩, fun y c e => ?_, I.free, I.freeC, fun p hp => ?_, tracked ⟨oL, hoL, I.free⟩ hs, by simpa using I.len⟩ ⟨_, hs, .inl rfl⟩
   . exact (hs.2 b (Nat.ne_of_lt (Nat.lt_of_lt_of_le (Heap.lt_size e) I.ok.above))).trans (I.base.keep b o e n hb hx)
   . obtain ⟨sl, e1⟩ := I.base.slot b o e n hb hx
     exact ⟨sl, (hs.2 b (Nat.ne_of_lt (Nat.lt_of_lt_of_le (Heap.lt_size e) I.ok.above))).trans e1⟩
   . obtain ⟨o', e1⟩ := I.base.there b o e hx
     exact ⟨o', (hs.2 b (Nat.ne_of_lt (Nat.lt_of_lt_of_le (Heap.lt_size e) I.ok.above))).trans e1⟩
   . by_cases hj : j = i
     . subst hj
       rw [hi] at e1; cases e1
       rw [List.getElem?_set_self hiσ] at e2
       cases e2
       exact ⟨u, r, .inl ⟨hk, by simp⟩⟩
     . rw [List.getElem?_set_ne (Ne.symm hj)] at e2
       obtain ⟨u', r', q⟩ := hl j y v' e1 e2 e3
       refine ⟨u', r', ?_⟩
       rcases q with ⟨k, e⟩ | ⟨k, c, e, z⟩
       . refine .inl ⟨k, ?_⟩
         have : y ≠ x := fun e => hj (Zfk hN e1 (e ▸ hi))
         simp [this, e]
       . exact .inr ⟨k, c, e, z.sameBut hs (cne y c e)⟩
   . obtain ⟨w', z⟩ := I.cell y c e
     exact ⟨w', z.sameBut hs (cne y c e)⟩
   . obtain ⟨e, n, ne, nf, d⟩ := I.pin p hp
     exact ⟨(hs.2 p.1 ne).trans e, n, ne, nf, d⟩
 . have hfn : X.fn x = true := by
    rcases hf with z | z
    . exact z
    . rw [z] at hk; cases hk
   obtain ⟨c, hc⟩ := I.ok.has x (.inl hk)
   obtain ⟨w', z⟩ := I.cell x c hc
   refine wpAny_storeName_cell I.ok.kind hk hc z (fun h' hc' hs => ?_)
   obtain ⟨oc, hoc, hocd⟩ := id z
   refine h { s with heap := h' } ⟨I.ok, I.os, I.bare, ⟨fun b o e n hb hx => ?_, fun b o e n hb hx => ?_, I.base.free, fun b o e hx => ?_, I.base.tups, I.base.frzs, I.base.tbls⟩, ⟨m, hn.sameBut hs (Ne.symm (cne x c hc)), fun j y v' e1 e2 e3 => ?_⟩, fun y c' e => ?_, I.free, I.freeC, fun p hp => ?_, tracked ⟨oc, hoc, I.freeC x c hc⟩ hs, by simpa using I.len⟩ ⟨c, hs, .inr hc⟩
   . exact (hs.2 b (Nat.ne_of_lt (Nat.lt_of_lt_of_le (Heap.lt_size e) (I.ok.cab x c hfn hc)))).trans (I.base.keep b o e n hb hx)
   . obtain ⟨sl, e1⟩ := I.base.slot b o e n hb hx
     exact ⟨sl, (hs.2 b (Nat.ne_of_lt (Nat.lt_of_lt_of_le (Heap.lt_size e) (I.ok.cab x c hfn hc)))).trans e1⟩
   . obtain ⟨o', e1⟩ := I.base.there b o e hx
     exact ⟨o', (hs.2 b (Nat.ne_of_lt (Nat.lt_of_lt_of_le (Heap.lt_size e) (I.ok.cab x c hfn hc)))).trans e1⟩
   . by_cases hj : j = i
     . subst hj
       rw [hi] at e1; cases e1
       rw [List.getElem?_set_self hiσ] at e2
       cases e2
       exact ⟨u, r, .inr ⟨.inl hk, c, hc, hc'⟩⟩
     . rw [List.getElem?_set_ne (Ne.symm hj)] at e2
       obtain ⟨u', r', q⟩ := hl j y v' e1 e2 e3
       refine ⟨u', r', ?_⟩
       rcases q with q | ⟨k, c', e, z'⟩
       . exact .inl q
       . refine .inr ⟨k, c', e, z'.sameBut hs ?_⟩
         rintro rfl
         exact hj (Zfk hN e1 (I.ok.inj _ _ _ e hc ▸ hi))
   . by_cases hcc : c' = c
     . subst hcc; exact ⟨_, hc'⟩
     . obtain ⟨w2, z2⟩ := I.cell y c' e
       exact ⟨w2, z2.sameBut hs hcc⟩
   . obtain ⟨e, n, ne, nf, d⟩ := I.pin p hp
     refine ⟨(hs.2 p.1 ?_).trans e, n, ne, nf, d⟩
     intro q
     rw [q, hoc] at e
     have q' : oc = p.2 := Option.some.inj e
     exact d w' (by rw [<- q']; exact hocd)
theorem ZdC {M : Model} {A : Around} {E : Value -> Shared -> Prop} {i : Nat} {x : Str} {v : V} {u : Value} {Q : Unit -> Shared -> Prop} (I : Inv X pins σ H s) (hN : X.N.Nodup) (hi : X.N[i]? = some x) (hx : Loc X.env.scope x) (r : RelV v u)
 (h : ∀ s', Inv X pins (σ.set i (some v)) H s' -> Q () s') (hf : X.fn x = true \/ X.env.scope.names.lookup x = some .local := by first | exact .inl rfl | exact .inr rfl | assumption) : wpAny M A (storeName X.env x u) Q E s :=
 ZhD I hN hi hx r (fun s' I' _ => h s' I') hf
theorem Inv.call' {s' : Shared} {ch : List Addr} (I : Inv X pins σ H s) (ho : s'.os = s.os) (u : Un (frs X.stack) ch H H' s.heap s'.heap) (hok : HOk X.prog X.w H' s'.heap) (hg : AllBare s'.gens)
 (hch : ∀ b ∈ ch, (b ∈ X.ex \/ X.s₀.heap.objs.size <= b) /\ b ≠ X.env.locals /\ (∀ x c, X.env.cells.lookup x = some c -> c ≠ b) /\ ∀ p ∈ X.pn ++ pins, p.1 ≠ b) : Inv X pins σ H' s' := by
 obtain ⟨h', g', d', t', o'⟩ := s'
 have e : o' = s.os := ho
 subst e
 exact I.call (g' := g') (t' := t') (d' := d') u hok hg hch
end
abbrev XK := Value -> Option Addr -> Hp -> Prop
noncomputable abbrev St := List (Option V)
abbrev VK := V -> Hp -> Prop
abbrev TE := St -> Hp -> VK -> Prop
abbrev TT := St -> Hp -> (Bool -> Hp -> Prop) -> Prop
abbrev TA := St -> Hp -> (List V -> Hp -> Prop) -> Prop
structure Ends where
 nx : St -> Hp -> Prop
 rt : VK
 bk : St -> Hp -> Prop := fun _ _ => False
 ct : St -> Hp -> Prop := fun _ _ => False
abbrev TS := Ends -> St -> Hp -> Prop
def EP (X : Cx) (pins : List (Addr × Obj)) (σ : St) (Q : VK) (u : Value) (s' : Shared) : Prop := ∃ v H', Inv X pins σ H' s' /\ RelV v u /\ Q v H'
def TP (X : Cx) (pins : List (Addr × Obj)) (σ : St) (Q : Bool -> Hp -> Prop) (b : Bool) (s' : Shared) : Prop := ∃ H', Inv X pins σ H' s' /\ Q b H'
def AP (X : Cx) (pins : List (Addr × Obj)) (σ : St) (Q : List V -> Hp -> Prop) (us : List Value) (s' : Shared) : Prop := ∃ vs H', Inv X pins σ H' s' /\ Vals vs us /\ Q vs H'
def SP (X : Cx) (pins : List (Addr × Obj)) (D : Ends) (f : Flow) (s' : Shared) : Prop :=
 match f with
 | .next => ∃ σ' H', Inv X pins σ' H' s' /\ D.nx σ' H'
 | .brk => ∃ σ' H', Inv X pins σ' H' s' /\ D.bk σ' H'
 | .cont => ∃ σ' H', Inv X pins σ' H' s' /\ D.ct σ' H'
 | .ret u => ∃ v σ' H', Inv X pins σ' H' s' /\ RelV v u /\ D.rt v H'
def PE (X : Cx) (e : Expr) (t : TE) : Prop :=
 ∀ (pins : List (Addr × Obj)) (s : Shared) (σ : St) (H : Hp) (Q : VK), Inv X pins σ H s -> t σ H Q -> wpAny (model X.prog X.w) X.A (eval e X.env) (EP X pins σ Q) X.xe s
def PT (X : Cx) (e : Expr) (t : TT) : Prop :=
 ∀ (pins : List (Addr × Obj)) (s : Shared) (σ : St) (H : Hp) (Q : Bool -> Hp -> Prop), Inv X pins σ H s -> t σ H Q -> wpAny (model X.prog X.w) X.A (isTrue e X.env (eval e X.env)) (TP X pins σ Q) X.xe s
def PW (X : Cx) (e : Expr) (t : TT) : Prop :=
 ∀ (whole : Sem Value) (pins : List (Addr × Obj)) (s : Shared) (σ : St) (H : Hp) (Q : Bool -> Hp -> Prop), Inv X pins σ H s -> t σ H Q -> wpAny (model X.prog X.w) X.A (isTrue e X.env whole) (TP X pins σ Q) X.xe s
theorem PW.pt {X : Cx} {e : Expr} {t : TT} (h : PW X e t) : PT X e t := h _
def PA (X : Cx) (es : List Expr) (t : TA) : Prop :=
 ∀ (pos : Pos) (pins : List (Addr × Obj)) (s : Shared) (σ : St) (H : Hp) (Q : List V -> Hp -> Prop), Inv X pins σ H s -> t σ H Q -> wpAny (model X.prog X.w) X.A (spliced (backTo pos (starEach es X.env))) (AP X pins σ Q) X.xe s
def PS (X : Cx) (st : Stmt) (t : TS) : Prop :=
 ∀ (pins : List (Addr × Obj)) (s : Shared) (σ : St) (H : Hp) (D : Ends), Inv X pins σ H s -> t D σ H -> wpAny (model X.prog X.w) X.A (exec st X.env) (SP X pins D) X.xe s
def PSs (X : Cx) (st : List Stmt) (t : TS) : Prop :=
 ∀ (pins : List (Addr × Obj)) (s : Shared) (σ : St) (H : Hp) (D : Ends), Inv X pins σ H s -> t D σ H -> wpAny (model X.prog X.w) X.A (execs st X.env) (SP X pins D) X.xe s
theorem thn {α : Type} {t : Sem α} {Q Q' : α -> Shared -> Prop} {M : Model} {A : Around} {E : Value -> Shared -> Prop} {s : Shared} (h : wpAny M A t Q E s) (hQ : ∀ a s, Q a s -> Q' a s) : wpAny M A t Q' E s := wpAny_mono h hQ fun _ _ x => x
end L2
namespace L2
open PySem PySem.Spec PyProof.Rows
section
variable {X : Cx}
theorem bin {a b : Expr} {ta tb : TE} (ha : PE X a ta) (hb : PE X b tb) {pins : List (Addr × Obj)} {s : Shared} {σ : St} {H : Hp} {R : V -> V -> Hp -> Prop} (I : Inv X pins σ H s) (h : ta σ H fun x H1 => tb σ H1 fun y H2 => R x y H2)
 {α : Type} {Q : α -> Shared -> Prop} {f : Value -> Value -> Sem α}
 (hf : ∀ v u s2 x y H2, Inv X pins σ H2 s2 -> RelV x v -> RelV y u -> R x y H2 -> wpAny (model X.prog X.w) X.A (f v u) Q X.xe s2) :
 wpAny (model X.prog X.w) X.A (eval a X.env) (fun v s₁ => wpAny (model X.prog X.w) X.A (eval b X.env) (fun u s₂ => wpAny (model X.prog X.w) X.A (f v u) Q X.xe s₂) X.xe s₁) X.xe s := by
 refine thn (ha pins s σ H _ I h) fun v s1 z0 => ?_
 obtain ⟨x, H1, I1, r1, q1⟩ := z0
 refine thn (hb pins s1 σ H1 _ I1 q1) fun u s2 z0 => ?_
 obtain ⟨y, H2, I2, r2, q2⟩ := z0
 exact hf v u s2 x y H2 I2 r1 r2 q2
def tVar (i : Nat) : TE := fun σ H Q => ∃ v, σ[i]? = some (some v) /\ Q v H
def tC (v : V) : TE := fun _ H Q => Q v H
theorem ZhE {i : Nat} {x : Str} {pos : Pos} (hN : X.N[i]? = some x) (hv : Vis X.env.scope x) (hd : (x == ("__debug__" : Str)) = false := by decide) (hcd : (x == ("__classdict__" : Str)) = false := by decide) : PE X (.Name x pos) (tVar i) := by
 intro pins s σ H Q I h
 obtain ⟨v, e, h⟩ := h
 obtain ⟨m, hn, hl⟩ := I.loc
 obtain ⟨u, r, l⟩ := hl i x v hN e hv
 have fin : EP X pins σ Q u s := ⟨v, H, I, r, h⟩
 rcases l with ⟨hk, hm⟩ | ⟨hk, c, hc, hcell⟩
 . exact wpAny_Name (wpAny_loadName_local I.ok.kind hk hn hm fin) hd
 . rcases hk with hk | hk
   . exact wpAny_Name (wpAny_loadName_cell I.ok.kind hk hc hcell fin) hd
   . exact wpAny_Name (wpAny_loadName_free I.ok.kind hk hc hcell fin hcd) hd
theorem Z4 {i j pos} : PE X (.Constant (.int i) j pos) (tC (.int i)) := fun _ _ _ H _ I h => wpAny_Constant_int ⟨.int i, H, I.tok _, ⟨_, rfl⟩, h⟩
theorem Zcj {b j pos} : PE X (.Constant (.bool b) j pos) (tC (.bl b)) := fun _ _ _ H _ I h => Constant_bool ⟨.bl b, H, I, rfl, h⟩
theorem ZlF {j pos} : PE X (.Constant .none j pos) (tC .non) := fun _ _ _ H _ I h => Constant_none ⟨.non, H, I, rfl, h⟩
theorem ZlG {x j pos} : PE X (.Constant (.str x) j pos) (tC (.str x)) := fun _ _ _ H _ I h => Calls.Constant_str ⟨.str x, H, I.tok _, ⟨_, rfl⟩, h⟩
def Gl (X : Cx) (x : Str) : Prop := X.env.kindOf x = some .globalImplicit
theorem Zet {E : Value -> Shared -> Prop} {pins : List (Addr × Obj)} {s : Shared} {σ : St} {H : Hp} {x : Str} {u : Value} {pos : Pos} {Q : Value -> Shared -> Prop} (I : Inv X pins σ H s) (hg : Gl X x) (hm : X.mg x = some u) (h : Q u s)
 (hd : (x == ("__debug__" : Str)) = false := by decide) : wpAny (model X.prog X.w) X.A (eval (.Name x pos) X.env) Q E s :=
 Calls.Name_function_global I.ok.kind hg (Calls.loadGlobal_global (by rw [I.ok.glob]; exact I.mod.glob.keeps I.bk) hm h) hd
theorem ZaQ {E : Value -> Shared -> Prop} {pins : List (Addr × Obj)} {s : Shared} {σ : St} {H : Hp} {x : Str} {u : Value} {pos : Pos} {Q : Value -> Shared -> Prop} (I : Inv X pins σ H s) (hg : Gl X x) (hm : X.mg x = none) (hv : bootBuiltins x = some u) (h : Q u s)
 (hn : x ≠ "__name__" := by decide) (hd : (x == ("__debug__" : Str)) = false := by decide) : wpAny (model X.prog X.w) X.A (eval (.Name x pos) X.env) Q E s := by
 obtain ⟨mb, h1, h2⟩ := I.mod.blt
 exact Calls.Name_function_global I.ok.kind hg (Calls.loadGlobal_builtin (by rw [I.ok.glob]; exact I.mod.glob.keeps I.bk) hm (by rw [I.ok.blt]; exact h1.keeps I.bk) ((h2 x hn).trans hv) h) hd
theorem Zgv {x : Str} {v : V} {u : Value} {pos : Pos} (hg : Gl X x) (hm : X.mg x = some u) (r : RelV v u) (hd : (x == ("__debug__" : Str)) = false := by decide) : PE X (.Name x pos) (tC v) :=
 fun _ _ _ H _ I h => Zet I hg hm ⟨v, H, I, r, h⟩ hd
theorem Zku {x : Str} {v : V} {u : Value} {pos : Pos} (hg : Gl X x) (hm : X.mg x = none) (hv : bootBuiltins x = some u) (r : RelV v u) (hn : x ≠ "__name__" := by decide) (hd : (x == ("__debug__" : Str)) = false := by decide) : PE X (.Name x pos) (tC v) :=
 fun _ _ _ H _ I h => ZaQ I hg hm hv ⟨v, H, I, r, h⟩ hn hd
variable {a b : Expr} {ta tb : TE} {pos : Pos}
variable {tA tB' : TT} {rest : List Expr}
def tOr (t u : TT) : TT := fun σ H Q => t σ H fun c H1 => if c = true then Q true H1 else u σ H1 Q
def tNot (t : TT) : TT := fun σ H Q => t σ H fun c H1 => Q (!c) H1
theorem ZlH (ha : PT X a tA) : PW X (.BoolOp .Or [a] pos) tA := by
 intro wh pins s σ H Q I h
 refine isTrue_or (thn (ha pins s σ H Q I h) fun c s1 e => ?_)
 cases c with
 | false => exact isTrue_or_nil e
 | true => exact e
theorem ZnI (ha : PT X a tA) (hb : PW X (.BoolOp .Or (b :: rest) pos) tB') : PW X (.BoolOp .Or (a :: b :: rest) pos) (tOr tA tB') := by
 intro wh pins s σ H Q I h
 refine isTrue_or (thn (ha pins s σ H _ I h) fun c s1 z0 => ?_)
 obtain ⟨H1, I1, q1⟩ := z0
 cases c with
 | true => exact ⟨H1, I1, q1⟩
 | false => exact hb wh pins s1 σ H1 Q I1 q1
theorem ZlI (ha : PT X a tA) : PT X (.UnaryOp .Not a pos) (tNot tA) := by
 intro pins s σ H Q I h
 exact isTrue_not (ha pins s σ H (fun c H1 => Q (!c) H1) I h)
def ZnJ (ta tb : TE) : TE := fun σ H Q => ta σ H fun x H1 => ∃ c, x = .bl c /\ if c = true then tb σ H1 Q else Q (.bl false) H1
def ZnK (ta : TE) : TE := fun σ H Q => ta σ H fun x H1 => ∃ c, x = .bl c /\ Q (.bl (!c)) H1
theorem ZlJ {op} {t : TE} (h : PE X a t) : PE X (.BoolOp op [a] pos) t := fun pins s σ H Q I hw => BoolOp_one (h pins s σ H Q I hw)
theorem ZlK (ha : PE X a ta) (hb : PE X (.BoolOp .And (b :: rest) pos) tb) : PE X (.BoolOp .And (a :: b :: rest) pos) (ZnJ ta tb) := by
 intro pins s σ H Q I h
 refine BoolOp_and (thn (ha pins s σ H _ I h) fun v s1 z0 => ?_)
 obtain ⟨x, H1, I1, r1, q1⟩ := z0
 obtain ⟨c, rfl, q1⟩ := q1
 cases r1
 refine wpAny_truthy_bool ?_
 cases c with
 | true => exact hb pins s1 σ H1 Q I1 q1
 | false => exact ⟨.bl false, H1, I1, rfl, q1⟩
theorem ZlL (ha : PE X a ta) : PE X (.UnaryOp .Not a pos) (ZnK ta) := by
 intro pins s σ H Q I h
 refine UnaryOp_ (thn (ha pins s σ H _ I h) fun v s1 z0 => ?_)
 obtain ⟨x, H1, I1, r1, q1⟩ := z0
 obtain ⟨c, rfl, q1⟩ := q1
 cases r1
 exact not_of (wpAny_truthy_bool ⟨.bl (!c), H1, I1, rfl, q1⟩)
end
end L2
namespace L2
open PySem PySem.Spec PyProof.Rows
def SqL (K : Fg) (H : Hp) (a : Addr) (xs : List V) : Prop :=
 Rd H a (.lst xs) \/
  ∃ (o : Obj) (its : Array Value) (n : Nat), K.lookup a = some o /\ o.cls = .type "list" /\ o.dict = none /\ o.data = .seq its n /\ its.size <= sizeLine /\ Vals xs its.toList
def SqT (K : Fg) (H : Hp) (a : Addr) (xs : List V) : Prop :=
 Rd H a (.tup xs) \/
  ∃ (o : Obj) (its : Array Value) (n : Nat), K.lookup a = some o /\ o.cls = .type "tuple" /\ o.data = .seq its n /\ its.size <= sizeLine /\ Vals xs its.toList
noncomputable def absV : Value -> Option V
 | .none => some .non
 | .bool b => some (.bl b)
 | .int i _ => some (.int i)
 | .str x _ => some (.str x)
 | .bytes b _ => some (.byt b)
 | .float b _ => some (.flt b)
 | .ref a => some (.ref a)
 | .type n => some (.ty n)
 | _ => none
theorem RelV.abs {x : V} {u : Value} (r : RelV x u) : absV u = some x := by
 cases x with
 | non => cases r; rfl
 | bl _ => cases r; rfl
 | int _ => obtain ⟨t, rfl⟩ := r; rfl
 | str _ => obtain ⟨t, rfl⟩ := r; rfl
 | byt _ => obtain ⟨t, rfl⟩ := r; rfl
 | flt _ => obtain ⟨t, rfl⟩ := r; rfl
 | ref _ => cases r; rfl
 | ty _ => cases r; rfl
theorem RelV.inj {x y : V} {u : Value} (r : RelV x u) (q : RelV y u) : x = y := Option.some.inj (r.abs.symm.trans q.abs)
theorem Vals.inj : ∀ {xs ys : List V} {us : List Value}, Vals xs us -> Vals ys us -> xs = ys
 | _, _, _, .nil, .nil => rfl
 | _, _, _, .cons r t, .cons r' t' => by rw [r.inj r', Vals.inj t t']
termination_by structural a => a
section
variable {X : Cx} {pins : List (Addr × Obj)} {σ : St} {H : Hp} {s : Shared} {a : Addr} {xs ys : List V}
theorem Inv.list (I : Inv X pins σ H s) (h : SqL X.K H a xs) : ∃ its : List Value, Vals xs its /\ PlainL s.heap a its.toArray /\ xs.length <= sizeLine := by
 rcases h with h | ⟨o, its, n, hk, hc, hd, hs, hz, r⟩
 . obtain ⟨z, its, n, r, e⟩ := h.ok I.hok
   exact ⟨its, r, ⟨_, n, e, rfl, rfl, rfl⟩, z⟩
 . refine ⟨its.toList, r, ⟨o, n, I.kIn a o hk, hc, hd, by simpa using hs⟩, ?_⟩
   have e := r.length
   simp only [Array.length_toList] at e
   omega
theorem Inv.tuple (I : Inv X pins σ H s) (h : SqT X.K H a xs) : ∃ its : List Value, Vals xs its /\ IsTup s.heap a its.toArray /\ xs.length <= sizeLine := by
 rcases h with h | ⟨o, its, n, hk, hc, hs, hz, r⟩
 . obtain ⟨z, its, r, p⟩ := h.ok I.hok
   exact ⟨its, r, p, z⟩
 . refine ⟨its.toList, r, ⟨o, I.kIn a o hk, hc, n, by simpa using hs⟩, ?_⟩
   have e := r.length
   simp only [Array.length_toList] at e
   omega
theorem Inv.list_inj (I : Inv X pins σ H s) (h : SqL X.K H a xs) (h' : SqL X.K H a ys) : xs = ys := by
 obtain ⟨its, r, ⟨o, n, e, _, _, d⟩, _⟩ := I.list h
 obtain ⟨its', r', ⟨o', n', e', _, _, d'⟩, _⟩ := I.list h'
 rw [e] at e'; cases e'
 rw [d] at d'
 injection d' with d1 _
 have : its = its' := by simpa using congrArg Array.toList d1
 subst this
 exact r.inj r'
theorem Inv.tuple_inj (I : Inv X pins σ H s) (h : SqT X.K H a xs) (h' : SqT X.K H a ys) : xs = ys := by
 obtain ⟨its, r, ⟨o, e, _, n, d⟩, _⟩ := I.tuple h
 obtain ⟨its', r', ⟨o', e', _, n', d'⟩, _⟩ := I.tuple h'
 rw [e] at e'; cases e'
 rw [d] at d'
 injection d' with d1 _
 have : its = its' := by simpa using congrArg Array.toList d1
 subst this
 exact r.inj r'
end
noncomputable abbrev Cx.wish (X : Cx) (E : Value -> Shared -> Prop) : Cx := { X with xe := E }
noncomputable abbrev Cx.nox (X : Cx) : Cx := X.wish fun _ _ => False
theorem Cx.Ok.wish {X : Cx} (ok : X.Ok) (E : Value -> Shared -> Prop) : (X.wish E).Ok :=
 ⟨ok.mod, ok.kind, ok.glob, ok.blt, ok.above, ok.inj, ok.has, ok.cab, ok.hd, ok.frames, ok.stk, ok.exf, ok.bs, ok.bsz, ok.noex, ok.exfs, ok.funs, ok.frf⟩
theorem Cx.Ok.unwish {X : Cx} {E : Value -> Shared -> Prop} (ok : (X.wish E).Ok) : X.Ok :=
 ⟨ok.mod, ok.kind, ok.glob, ok.blt, ok.above, ok.inj, ok.has, ok.cab, ok.hd, ok.frames, ok.stk, ok.exf, ok.bs, ok.bsz, ok.noex, ok.exfs, ok.funs, ok.frf⟩
section
variable {X : Cx} {pins : List (Addr × Obj)} {σ : St} {H : Hp} {s : Shared} {E : Value -> Shared -> Prop}
theorem Inv.wish (I : Inv X pins σ H s) (E : Value -> Shared -> Prop) : Inv (X.wish E) pins σ H s := ⟨I.ok.wish E, I.os, I.bare, I.base, I.loc, I.cell, I.free, I.freeC, I.pin, I.hok, I.len⟩
theorem Inv.unwish (I : Inv (X.wish E) pins σ H s) : Inv X pins σ H s := ⟨I.ok.unwish, I.os, I.bare, I.base, I.loc, I.cell, I.free, I.freeC, I.pin, I.hok, I.len⟩
theorem SP.unwish {D : Ends} {f : Flow} {s' : Shared} (h : SP (X.wish E) pins D f s') : SP X pins D f s' := by
 cases f with
 | next => obtain ⟨σ', H', I, q⟩ := h; exact ⟨σ', H', I.unwish, q⟩
 | brk => obtain ⟨σ', H', I, q⟩ := h; exact ⟨σ', H', I.unwish, q⟩
 | cont => obtain ⟨σ', H', I, q⟩ := h; exact ⟨σ', H', I.unwish, q⟩
 | ret u => obtain ⟨v, σ', H', I, r, q⟩ := h; exact ⟨v, σ', H', I.unwish, r, q⟩
theorem PSs.nox {st : List Stmt} {t : TS} (h : PSs X.nox st t) : PSs X st t := fun pins s σ H D I hw =>
 wpAny_mono (h pins s σ H D (I.wish _) hw) (fun _ _ q => q.unwish) fun _ _ z => False.elim z
end
section
variable {X : Cx} {st : Stmt} {rest : List Stmt} {t u : TS} {e : Expr} {te : TE} {pos : Pos}
def ZnL : TS := fun D σ H => D.nx σ H
def tSeq (t u : TS) : TS := fun D σ H => t { D with nx := u D } σ H
theorem Zkv : PSs X [] ZnL := fun _ _ σ H _ I h => wpAny_execs_nil ⟨σ, H, I, h⟩
theorem ZiT (h1 : PS X st t) (h2 : PSs X rest u) : PSs X (st :: rest) (tSeq t u) := by
 intro pins s σ H D I h
 refine wpAny_execs_cons (thn (h1 pins s σ H { D with nx := u D } I h) fun f s1 q => ?_)
 cases f with
 | next =>
  obtain ⟨σ', H', I', q⟩ := q
  exact h2 pins s1 σ' H' D I' q
 | ret v => exact q
 | brk => exact q
 | cont => exact q
theorem Inv.quiet {pins : List (Addr × Obj)} {σ : St} {H : Hp} {s : Shared} (I : Inv X pins σ H s) : interactive X.env = false := by simp [interactive, I.ok.kind]
def ZnM (te : TE) : TS := fun D σ H => te σ H fun _ H1 => D.nx σ H1
theorem Zkw (he : PE X e te) (hs : swapsWith e none pos.line X.env = pure false := by rfl) : PS X (.Expr e pos) (ZnM te) := by
 intro pins s σ H D I h
 exact wpAny_Expr_any (thn (he pins s σ H _ I h) fun v s1 ⟨x, H1, I1, r1, q1⟩ => ⟨σ, H1, I1, q1⟩) I.quiet hs
def tRet (te : TE) : TS := fun D σ H => te σ H D.rt
theorem ZlM (he : PE X e te) : PS X (.Return (some e) pos) (tRet te) := by
 intro pins s σ H D I h
 exact wpAny_Return_some (thn (he pins s σ H _ I h) fun v s1 ⟨x, H1, I1, r1, q1⟩ => ⟨x, σ, H1, I1, r1, q1⟩)
def tIfS (c : TT) (t u : TS) : TS := fun D σ H => c σ H fun b H1 => if b = true then t D σ H1 else u D σ H1
theorem ZnN {c : Expr} {a b : List Stmt} {tc : TT} (hc : PT X c tc) (ha : PSs X a t) (hb : PSs X b u) : PS X (.If c a b pos) (tIfS tc t u) := by
 intro pins s σ H D I h
 refine wpAny_If (thn (hc pins s σ H _ I h) fun d s1 z0 => ?_)
 obtain ⟨H1, I1, q1⟩ := z0
 cases d with
 | true => exact ha pins s1 σ H1 D I1 q1
 | false => exact hb pins s1 σ H1 D I1 q1
end
abbrev TG := V -> St -> Hp -> (St -> Hp -> Prop) -> Prop
abbrev TGs := List V -> St -> Hp -> (St -> Hp -> Prop) -> Prop
def PG (X : Cx) (target : Expr) (t : TG) : Prop :=
 ∀ (pins : List (Addr × Obj)) (s : Shared) (σ : St) (H : Hp) (v : V) (u : Value) (Q : St -> Hp -> Prop), Inv X pins σ H s -> RelV v u -> t v σ H Q ->
  wpAny (model X.prog X.w) X.A (assign target X.env u) (fun _ s' => ∃ σ' H', Inv X pins σ' H' s' /\ Q σ' H') X.xe s
def PGs (X : Cx) (ts : List Expr) (t : TGs) : Prop :=
 ∀ (pins : List (Addr × Obj)) (s : Shared) (σ : St) (H : Hp) (vs : List V) (us : List Value) (Q : St -> Hp -> Prop), Inv X pins σ H s -> Vals vs us -> t vs σ H Q ->
  wpAny (model X.prog X.w) X.A (assignInOrder ((assignEach ts X.env).map (·.2)) us) (fun _ s' => ∃ σ' H', Inv X pins σ' H' s' /\ Q σ' H') X.xe s
abbrev TSet := V -> V -> V -> Hp -> (Hp -> Prop) -> Prop
def PSet (X : Cx) (t : TSet) : Prop :=
 ∀ (pins : List (Addr × Obj)) (s : Shared) (σ : St) (H : Hp) (o i v : V) (ov iv u : Value) (Q : Hp -> Prop), Inv X pins σ H s -> RelV o ov -> RelV i iv -> RelV v u -> t o i v H Q ->
  wpAny (model X.prog X.w) X.A (setItem ov iv u) (fun _ s' => ∃ H', Inv X pins σ H' s' /\ Q H') X.xe s
section
variable {X : Cx} {pos : Pos}
noncomputable def Zck (i : Nat) : TG := fun v σ H Q => Q (σ.set i (some v)) H
theorem Zgw {i : Nat} {x : Str} (hN : X.N.Nodup) (hi : X.N[i]? = some x) (hx : Loc X.env.scope x) (hf : X.fn x = true \/ X.env.scope.names.lookup x = some .local := by first | exact .inl rfl | exact .inr rfl | assumption) : PG X (.Name x pos) (Zck i) := by
 intro pins s σ H v u Q I r h
 exact wpAny_assign_Name (ZdC I hN hi hx r (fun s' I' => ⟨_, H, I', h⟩) hf)
noncomputable def gNil : TGs := fun vs σ H Q => vs = [] /\ Q σ H
noncomputable def ZjU (t : TG) (u : TGs) : TGs := fun vs σ H Q => ∃ v r, vs = v :: r /\ t v σ H fun σ' H' => u r σ' H' Q
theorem Zkx : PGs X [] gNil := by
 intro pins s σ H vs us Q I r h
 obtain ⟨e, h⟩ := h
 subst e
 cases r
 exact assignInOrder_nil ⟨σ, H, I, h⟩
theorem ZiU {e : Expr} {es : List Expr} {t : TG} {u : TGs} (h1 : PG X e t) (h2 : PGs X es u)
 (hs : (assignEach (e :: es) X.env).map (·.2) = assign e X.env :: (assignEach es X.env).map (·.2) := by rfl) : PGs X (e :: es) (ZjU t u) := by
 intro pins s σ H vs us Q I r h
 obtain ⟨v, vr, e1, h⟩ := h
 subst e1
 cases r with
 | cons r rr =>
  rw [hs]
  refine assignInOrder_cons (thn (h1 pins s σ H _ _ _ I r h) fun _ s1 z0 => ?_)
  obtain ⟨σ1, H1, I1, q1⟩ := z0
  exact h2 pins s1 σ1 H1 _ _ Q I1 rr q1
noncomputable def gTup (K : Fg) (n : Nat) (t : TGs) : TG := fun v σ H Q => ∃ a xs, v = .ref a /\ SqT K H a xs /\ xs.length = n /\ t xs σ H Q
theorem ZlN {es : List Expr} {k : Nat} {t : TGs} {n : Nat} (hc : X.calm = true) (h : PGs X es t)
 (hn : (assignEach es X.env).length = n := by rfl) (hst : (assignEach es X.env).findIdx? (·.1) = none := by rfl) : PG X (.Tuple es k pos) (gTup X.K n t) := by
 intro pins s σ H v u Q I r hw
 obtain ⟨a, xs, e1, hq, hl, hw⟩ := hw
 subst e1
 cases r
 obtain ⟨its, rv, ht, hz⟩ := I.tuple hq
 refine assign_Tuple_tuple (I.ok.hd hc) ht (by simp [hn, <- hl, rv.length]) hst fun h' hx => ?_
 have I1 : Inv X pins σ H { s with heap := h' } := I.kept (t' := s.toks) fun b o e => hx b o (Nat.ne_of_lt (Heap.lt_size e)) e
 exact h pins _ σ H xs _ Q I1 (by simpa using rv) hw
noncomputable def gSub (to ti : TE) (t : TSet) : TG := fun v σ H Q => to σ H fun o H1 => ti σ H1 fun i H2 => t o i v H2 fun H3 => Q σ H3
theorem ZhF {o i : Expr} {to ti : TE} {t : TSet} (ho : PE X o to) (hi : PE X i ti) (hs : PSet X t)
 (ha : ∀ v, assign (.Subscript o i pos) X.env v = (do
  let ov <- holding [v] (eval o X.env)
  let iv <- holding [v, ov] (eval i X.env)
  standAt pos
  holding [v, ov, iv] (setItem ov iv v)
  release [v, ov, iv] []) := by intro _; rfl) : PG X (.Subscript o i pos) (gSub to ti t) := by
 intro pins s σ H v u Q I r h
 rw [ha]
 refine wpAny_bind (wpAny_holding (thn (ho pins s σ H _ I h) fun ov s1 z0 => ?_))
 obtain ⟨x, H1, I1, r1, q1⟩ := z0
 refine wpAny_bind (wpAny_holding (thn (hi pins s1 σ H1 _ I1 q1) fun iv s2 z0 => ?_))
 obtain ⟨y, H2, I2, r2, q2⟩ := z0
 refine wpAny_bind (wpAny_standAt (wpAny_bind (wpAny_holding (thn (hs pins s2 σ H2 x y v ov iv u _ I2 r1 r2 r q2) fun _ s3 z0 => ?_))))
 obtain ⟨H3, I3, q3⟩ := z0
 exact wpAny_release ⟨σ, H3, I3, q3⟩
def tAsg (te : TE) (g : TG) : TS := fun D σ H => te σ H fun x H1 => g x σ H1 D.nx
theorem Zfl {tg e : Expr} {te : TE} {g : TG} (he : PE X e te) (hg : PG X tg g) (hs : swapsWithSole [tg] e pos.line X.env = pure false := by rfl) (hw : swappedStores [tg] e X.env = pure none := by rfl)
 (h1 : (assignEach [tg] X.env).map (·.2) = [assign tg X.env] := by rfl) : PS X (.Assign [tg] e pos) (tAsg te g) := by
 intro pins s σ H D I h
 refine wpAny_Assign_stores (thn (he pins s σ H _ I h) fun v s1 z0 => ?_) hs hw
 obtain ⟨x, H1, I1, r1, q1⟩ := z0
 rw [h1]
 exact thn (hg pins s1 σ H1 x v _ I1 r1 q1) fun _ s2 q => q
theorem ZlO {i : Nat} {x : Str} {e : Expr} {te : TE} {pos' : Pos} (hN : X.N.Nodup) (hi : X.N[i]? = some x) (hx : Loc X.env.scope x) (he : PE X e te) (hs : swapsWith e (some (.Name x pos')) pos.line X.env = pure false := by rfl) (hf : X.fn x = true \/ X.env.scope.names.lookup x = some .local := by first | exact .inl rfl | exact .inr rfl | assumption) :
 PS X (.Assign [.Name x pos'] e pos) (tAsg te (Zck i)) := by
 intro pins s σ H D I h
 refine wpAny_Assign_Name (thn (he pins s σ H _ I h) fun v s1 z0 => ?_) hs
 obtain ⟨y, H1, I1, r1, q1⟩ := z0
 exact ZdC I1 hN hi hx r1 (fun s2 I2 => ⟨_, H1, I2, q1⟩) hf
end
section
variable {X : Cx} {pos : Pos}
def ZlP (c : TT) (tb : TS) : TS := fun D σ H => ∃ W : Nat -> St -> Hp -> Prop, (∃ m, W m σ H) /\ ∀ m σ H, W m σ H ->
 c σ H fun b H1 => if b = true then ∃ N : St -> Hp -> Prop, (∀ σ' H', N σ' H' -> ∃ m', m' < m /\ W m' σ' H') /\ tb { D with nx := N, ct := N, bk := D.nx } σ H1 else D.nx σ H1
theorem ZiV {c : Expr} {body : List Stmt} {tc : TT} {tb : TS} (hp : PassesOwn (model X.prog X.w) X.A X.env X.xe) (hc : PT X c tc) (hb : PSs X body tb) : PS X (.While c body [] pos) (ZlP tc tb) := by
 intro pins s σ H D I h
 obtain ⟨W, ⟨m0, w0⟩, turn⟩ := h
 refine wpAny_While (codeAny_whileLoop (fun n s' => ∃ σ' H', Inv X pins σ' H' s' /\ W n σ' H') ?_ m0 ⟨σ, H, I, w0⟩)
 rintro n s1 ⟨σ1, H1, I1, w1⟩
 refine wpAny_passesOwn hp (thn (hc pins s1 σ1 H1 _ I1 (turn n σ1 H1 w1)) fun b s2 z0 => ?_)
 obtain ⟨H2, I2, q2⟩ := z0
 cases b with
 | true =>
  obtain ⟨N, hN, q2⟩ := q2
  rw [if_pos rfl]
  refine wpAny_passesOwn hp (thn (hb pins s2 σ1 H2 _ I2 q2) fun f s3 q3 => ?_)
  cases f with
  | next =>
   obtain ⟨σ3, H3, I3, n3⟩ := q3
   obtain ⟨m', hm, w3⟩ := hN σ3 H3 n3
   exact ⟨m', hm, σ3, H3, I3, w3⟩
  | cont =>
   obtain ⟨σ3, H3, I3, n3⟩ := q3
   obtain ⟨m', hm, w3⟩ := hN σ3 H3 n3
   exact ⟨m', hm, σ3, H3, I3, w3⟩
  | brk => exact q3
  | ret v => exact q3
 | false =>
  rw [if_neg Bool.false_ne_true]
  exact wpAny_execs_nil ⟨σ1, H2, I2, q2⟩
end
structure It where
 go : Nat -> Hp -> Prop
 yld : Nat -> Hp -> V -> Hp -> Prop
 stop : Nat -> Hp -> Prop
def FpOk (X : Cx) (pins : List (Addr × Obj)) (H : Hp) (b : Addr) : Prop :=
 H b = none /\ b ≠ X.env.locals /\ b ∉ X.fs /\ (b ∈ X.ex \/ X.s₀.heap.objs.size <= b) /\ (∀ x c, X.env.cells.lookup x = some c -> c ≠ b) /\ ∀ p ∈ X.pn ++ pins, p.1 ≠ b
theorem Inv.fpOk {X : Cx} {pins : List (Addr × Obj)} {σ : St} {H H' : Hp} {s : Shared} {b : Addr} (I : Inv X pins σ H s) (hb : s.heap.objs.size <= b) (hn : H' b = none) : FpOk X pins H' b := by
 refine ⟨hn, Nat.ne_of_gt (Nat.lt_of_lt_of_le I.lt hb), I.nofs hb, .inr (Nat.le_trans I.sz hb), fun x c e z => ?_, fun p hp z => ?_⟩
 . obtain ⟨v, q⟩ := I.cell x c e
   exact absurd (Nat.lt_of_lt_of_le q.lt (by rw [z]; exact hb)) (Nat.lt_irrefl _)
 . exact absurd (Nat.lt_of_lt_of_le (Heap.lt_size (I.pin p hp).1) (by rw [z]; exact hb)) (Nat.lt_irrefl _)
structure Turn (P : Program) (w : World) (K : Fg) (tg : Expr) (J : It) (fp : List Addr) (it : Addr) (tn : Nat -> Heap -> Prop) : Prop where
 mem : it ∈ fp
 obj : ∀ i h, tn i h -> ∀ b ∈ fp, ∃ o, h.get? b = some o /\ ∀ v, o.data ≠ .cell v
 keep : ∀ i h h', tn i h -> (∀ b ∈ fp, ∀ o, h.get? b = some o -> h'.get? b = some o) -> tn i h'
 item : ∀ (X : Cx), X.prog = P -> X.w = w -> X.K = K -> X.calm = true -> ∀ (i : Nat) (pins : List (Addr × Obj)) (s : Shared) (σ : St) (H : Hp) (E : Value -> Shared -> Prop), Inv X pins σ H s -> (∀ b ∈ fp, FpOk X pins H b) -> tn i s.heap -> J.go i H ->
  wpAny (model P w) X.A (pyNext (.ref it)) (fun r s1 => ∃ u, r = some u /\
   wpAny (model P w) X.A (letOwnedTupleGo tg (.ref it) u) (fun _ s2 => ∃ x H', Inv X pins σ H' s2 /\ RelV x u /\ J.yld i H x H' /\ tn (i + 1) s2.heap /\ ∀ b ∈ fp, H' b = none) E s1) E s
 done : ∀ (X : Cx), X.prog = P -> X.w = w -> X.K = K -> X.calm = true -> ∀ (i : Nat) (pins : List (Addr × Obj)) (s : Shared) (σ : St) (H : Hp) (E : Value -> Shared -> Prop), Inv X pins σ H s -> (∀ b ∈ fp, FpOk X pins H b) -> tn i s.heap -> J.stop i H ->
  wpAny (model P w) X.A (pyNext (.ref it)) (fun r s1 => r = none /\ Inv X pins σ H s1) E s
 self : ∀ (A : Around) (i : Nat) (s : Shared) (Q : Value -> Shared -> Prop) (E : Value -> Shared -> Prop), tn i s.heap -> Q (.ref it) s -> wpAny (model P w) A (pyIter (.ref it)) Q E s
abbrev TI := St -> Hp -> (It -> Hp -> Prop) -> Prop
def PIE (X : Cx) (pins : List (Addr × Obj)) (σ : St) (tg : Expr) (R : It -> Hp -> Prop) (itv : Value) (s2 : Shared) : Prop :=
 ∃ (it : Addr) (fp : List Addr) (tn : Nat -> Heap -> Prop) (J : It) (H' : Hp), itv = .ref it /\ Inv X pins σ H' s2 /\ Turn X.prog X.w X.K tg J fp it tn /\ tn 0 s2.heap /\ (∀ b ∈ fp, FpOk X pins H' b) /\ R J H'
def PI (X : Cx) (tg iter : Expr) (wi : TI) : Prop :=
 ∀ (pins : List (Addr × Obj)) (s : Shared) (σ : St) (H : Hp) (R : It -> Hp -> Prop), Inv X pins σ H s -> wi σ H R ->
  wpAny (model X.prog X.w) X.A (eval iter X.env) (fun v s1 => wpAny (model X.prog X.w) X.A (pyIter v) (PIE X pins σ tg R) X.xe s1) X.xe s
theorem ZdQ {M : Model} {A : Around} {E : Value -> Shared -> Prop} {s : Shared} {tg : Expr} {it : Addr} {u : Value} {o : Obj} {n : String} {vs : Array Value} {Q : Unit -> Shared -> Prop} (ho : s.heap.get? it = some o) (hc : o.cls = .type n) (hd : o.data = .fields vs)
 (hn : ["enumerate", "zip", "dict_itemiterator", "dict_reverseitemiterator", "odict_iterator", "itertools.zip_longest", "itertools.pairwise"].contains n = false) (hQ : Q () s) : wpAny M A (letOwnedTupleGo tg (.ref it) u) Q E s := by
 unfold letOwnedTupleGo
 cases tg <;> first
  | exact wpAny_pure hQ
  | (cases u <;> first
   | exact wpAny_pure hQ
   | (refine wpAny_bind (wpAny_load ho ?_)
      rw [hc, hd]
      show wpAny M A (if (["enumerate", "zip", "dict_itemiterator", "dict_reverseitemiterator", "odict_iterator", "itertools.zip_longest", "itertools.pairwise"].contains n && vs[0]? == some (rawInt _)) = true then _ else _) Q E s
      rw [if_neg (by intro h; rw [hn, Bool.false_and] at h; cases h)]
      exact wpAny_pure hQ))
noncomputable def Itl (K : Fg) (a : Addr) : It :=
 ⟨fun i H => ∃ xs x, SqL K H a xs /\ xs[i]? = some x, fun i H x H' => H' = H /\ ∀ xs, SqL K H a xs -> xs[i]? = some x, fun i H => ∃ xs, SqL K H a xs /\ xs.length <= i⟩
noncomputable def Itt (K : Fg) (a : Addr) : It :=
 ⟨fun i H => ∃ xs x, SqT K H a xs /\ xs[i]? = some x, fun i H x H' => H' = H /\ ∀ xs, SqT K H a xs -> xs[i]? = some x, fun i H => ∃ xs, SqT K H a xs /\ xs.length <= i⟩
noncomputable def Itr (lo : Int) (n : Nat) : It := ⟨fun i _ => i < n, fun i H x H' => H' = H /\ x = .int (lo + i), fun i _ => n <= i⟩
theorem ZhG {P : Program} {w : World} {K : Fg} {tg : Expr} (a it : Addr) : Turn P w K tg (Itl K a) [it] it (fun i h => h.IsListIter it a i) where
 mem := by simp
 obj := fun i h st b hb => by
  have e : b = it := by simpa using hb
  subst e
  obtain ⟨o, e, c, d⟩ := st
  exact ⟨o, e, fun v z => by rw [d] at z; cases z⟩
 keep := fun i h h' st k => st.at fun o e => k it (by simp) o e
 item := by
  intro X hP hw hK hc i pins s σ H E I hf st hg
  subst hP hw hK
  obtain ⟨xs, x, hq, hx⟩ := hg
  obtain ⟨its, rv, p, hz⟩ := I.list hq
  obtain ⟨u, hu, ru⟩ := rv.get hx
  obtain ⟨f0, f1, f2, f3, f4, f5⟩ := hf it (by simp)
  refine wpAny_pyNext_list_item st p.isList (x := u) (by simpa using hu) fun h' st' sb => ?_
  have I1 : Inv X pins σ H { s with heap := h' } := I.turned (t' := s.toks) (fun b o hb e => (sb.2 b hb).trans e) f0 f1 f3 f4 f5
  obtain ⟨o, e, c, d⟩ := id st'
  exact ⟨u, rfl, ZdQ (s := { s with heap := h' }) e c d (by decide) ⟨x, H, I1, ru, ⟨rfl, fun ys hy => by rw [I.list_inj hy hq]; exact hx⟩, st', fun b hb => (hf b hb).1⟩⟩
 done := by
  intro X hP hw hK hc i pins s σ H E I hf st hg
  subst hP hw hK
  obtain ⟨xs, hq, hx⟩ := hg
  obtain ⟨its, rv, p, hz⟩ := I.list hq
  obtain ⟨f0, f1, f2, f3, f4, f5⟩ := hf it (by simp)
  have hl := rv.length
  exact wpAny_pyNext_list_end (I.ok.hd hc) st p.isList (by simp; omega) fun h' eb => ⟨rfl, I.turned (t' := s.toks) (fun b o hb e => eb b o hb e) f0 f1 f3 f4 f5⟩
 self := fun _ _ _ _ _ st h => wpAny_pyIter_listiter st h
theorem ZgX {P : Program} {w : World} {K : Fg} {tg : Expr} (a it : Addr) : Turn P w K tg (Itt K a) [it] it (fun i h => h.IsTupleIter it a i) where
 mem := by simp
 obj := fun i h st b hb => by
  have e : b = it := by simpa using hb
  subst e
  obtain ⟨o, e, c, d⟩ := st
  exact ⟨o, e, fun v z => by rw [d] at z; cases z⟩
 keep := fun i h h' st k => st.at fun o e => k it (by simp) o e
 item := by
  intro X hP hw hK hc i pins s σ H E I hf st hg
  subst hP hw hK
  obtain ⟨xs, x, hq, hx⟩ := hg
  obtain ⟨its, rv, p, hz⟩ := I.tuple hq
  obtain ⟨u, hu, ru⟩ := rv.get hx
  obtain ⟨f0, f1, f2, f3, f4, f5⟩ := hf it (by simp)
  refine wpAny_pyNext_tuple_item st (show s.heap.IsTuple a its.toArray from p) (x := u) (by simpa using hu) fun h' st' sb => ?_
  have I1 : Inv X pins σ H { s with heap := h' } := I.turned (t' := s.toks) (fun b o hb e => (sb.2 b hb).trans e) f0 f1 f3 f4 f5
  obtain ⟨o, e, c, d⟩ := id st'
  exact ⟨u, rfl, ZdQ (s := { s with heap := h' }) e c d (by decide) ⟨x, H, I1, ru, ⟨rfl, fun ys hy => by rw [I.tuple_inj hy hq]; exact hx⟩, st', fun b hb => (hf b hb).1⟩⟩
 done := by
  intro X hP hw hK hc i pins s σ H E I hf st hg
  subst hP hw hK
  obtain ⟨xs, hq, hx⟩ := hg
  obtain ⟨its, rv, p, hz⟩ := I.tuple hq
  obtain ⟨f0, f1, f2, f3, f4, f5⟩ := hf it (by simp)
  have hl := rv.length
  exact wpAny_pyNext_tuple_end (I.ok.hd hc) st (show s.heap.IsTuple a its.toArray from p) (by simp; omega) fun h' eb => ⟨rfl, I.turned (t' := s.toks) (fun b o hb e => eb b o hb e) f0 f1 f3 f4 f5⟩
 self := fun _ _ _ _ _ st h => wpAny_pyIter_tupleiter st h
theorem ZgY {P : Program} {w : World} {K : Fg} {tg : Expr} (it : Addr) (lo : Int) (n : Nat) : Turn P w K tg (Itr lo n) [it] it (fun i h => IsRangeIter h it (lo + (i : Nat) * 1) ((n : Int) - (i : Nat)) 1) where
 mem := by simp
 obj := fun i h st b hb => by
  have e : b = it := by simpa using hb
  subst e
  exact ⟨_, st, fun v z => by
   have z' : Data.fields _ = Data.cell v := z
   cases z'⟩
 keep := fun i h h' st k => k it (by simp) _ st
 item := by
  intro X hP hw hK hc i pins s σ H E I hf st hg
  subst hP hw hK
  obtain ⟨f0, f1, f2, f3, f4, f5⟩ := hf it (by simp)
  have W := Walks.range (prog := X.prog) (w := X.w) (I.ok.hd hc) it lo 1 n
  refine W.item i s _ _ hg st fun v h' tk hv st' kk => ?_
  obtain ⟨t, rfl⟩ := hv
  have I1 : Inv X pins σ H { s with heap := h', toks := tk } := I.turned (fun b o hb e => kk b o (by simpa using hb) e) f0 f1 f3 f4 f5
  refine ⟨_, rfl, ZdQ (s := { s with heap := h', toks := tk }) (n := "range_iterator") st' rfl rfl (by decide) ⟨.int (lo + i), H, I1, ⟨t, ?_⟩, ⟨rfl, rfl⟩, st', fun b hb => (hf b hb).1⟩⟩
  rw [Int.mul_one]
 done := by
  intro X hP hw hK hc i pins s σ H E I hf st hg
  subst hP hw hK
  obtain ⟨f0, f1, f2, f3, f4, f5⟩ := hf it (by simp)
  exact wpAny_pyNext_range_end (I.ok.hd hc) st (by have : n <= i := hg; omega) fun h' eb => ⟨rfl, I.turned (t' := s.toks) (fun b o hb e => eb b o hb e) f0 f1 f3 f4 f5⟩
 self := fun _ _ _ _ _ st h => wpAny_pyIter_rangeiter st h
end L2
namespace L2
open PySem PySem.Spec PyProof.Rows
section
variable {X : Cx} {tg : Expr}
noncomputable def ZnO (K : Fg) (tl : TE) : TI := fun σ H R => tl σ H fun x H1 => ∃ a, x = .ref a /\ (∃ xs, SqL K H1 a xs) /\ R (Itl K a) H1
noncomputable def iTup (K : Fg) (tl : TE) : TI := fun σ H R => tl σ H fun x H1 => ∃ a, x = .ref a /\ (∃ xs, SqT K H1 a xs) /\ R (Itt K a) H1
theorem Zgx {l : Expr} {tl : TE} (hl : PE X l tl) : PI X tg l (ZnO X.K tl) := by
 intro pins s σ H R I h
 refine thn (hl pins s σ H _ I h) fun v s1 z0 => ?_
 obtain ⟨x, H1, I1, r1, q1⟩ := z0
 obtain ⟨a, e, ⟨xs, hq⟩, q⟩ := q1
 subst e
 cases r1
 obtain ⟨its, rv, p, hz⟩ := I1.list hq
 refine wpAny_pyIter_list p.isList ?_
 refine ⟨s1.heap.objs.size, [s1.heap.objs.size], _, _, H1, rfl, I1.kept (t' := s1.toks) fun b o e => Heap.get?_push_of_some _ e, ZhG a _, ⟨_, Heap.get?_push_size _ rfl, rfl, rfl⟩, fun b hb => ?_, q⟩
 have e : b = s1.heap.objs.size := by simpa using hb
 subst e
 exact I1.fpOk (Nat.le_refl _) (I1.hok.fresh (Nat.le_refl _))
theorem ZhH {l : Expr} {tl : TE} (hl : PE X l tl) : PI X tg l (iTup X.K tl) := by
 intro pins s σ H R I h
 refine thn (hl pins s σ H _ I h) fun v s1 z0 => ?_
 obtain ⟨x, H1, I1, r1, q1⟩ := z0
 obtain ⟨a, e, ⟨xs, hq⟩, q⟩ := q1
 subst e
 cases r1
 obtain ⟨its, rv, p, hz⟩ := I1.tuple hq
 refine wpAny_pyIter_tuple (show s1.heap.IsTuple a its.toArray from p) ?_
 refine ⟨s1.heap.objs.size, [s1.heap.objs.size], _, _, H1, rfl, I1.kept (t' := s1.toks) fun b o e => Heap.get?_push_of_some _ e, ZgX a _, ⟨_, Heap.get?_push_size _ rfl, rfl, rfl⟩, fun b hb => ?_, q⟩
 have e : b = s1.heap.objs.size := by simpa using hb
 subst e
 exact I1.fpOk (Nat.le_refl _) (I1.hok.fresh (Nat.le_refl _))
theorem Zfm {pins : List (Addr × Obj)} {σ : St} {H : Hp} {s : Shared} {R : It -> Hp -> Prop} {E : Value -> Shared -> Prop} {lo hi : Int} {t u v : Tok} {tk : Nat} (I : Inv X pins σ H s) (h1 : -(2 ^ 62) <= lo) (h2 : lo < 2 ^ 62) (h3 : -(2 ^ 62) <= hi) (h4 : hi < 2 ^ 62)
 (q : R (Itr lo (hi - lo).toNat) H) : wpAny (model X.prog X.w) X.A (pyIter (.ref s.heap.objs.size)) (PIE X pins σ tg R) E { s with heap := s.heap.push { cls := .type "range", data := .fields #[.int lo t, .int hi u, .int 1 v] }, toks := tk } := by
 refine wpAny_pyIter_range (IsRange.new ..) (small_one h1 h2 h3 h4) ?_
 have I1 : Inv X pins σ H { s with heap := s.heap.push { cls := .type "range", data := .fields #[.int lo t, .int hi u, .int 1 v] }, toks := tk } := I.kept fun b o e => Heap.get?_push_of_some _ e
 refine ⟨(s.heap.push { cls := .type "range", data := .fields #[.int lo t, .int hi u, .int 1 v] }).objs.size, [(s.heap.push { cls := .type "range", data := .fields #[.int lo t, .int hi u, .int 1 v] }).objs.size], _, _, H, rfl,
  I1.kept (t' := tk) fun b o e => Heap.get?_push_of_some _ e, ZgY _ lo (hi - lo).toNat, ?_, fun b hb => ?_, q⟩
 . have e1 : lo + ((0 : Nat) : Int) * 1 = lo := by simp
   have e2 : (((hi - lo).toNat : Nat) : Int) - ((0 : Nat) : Int) = Builtin.Range.rangeSize lo hi 1 := by rw [rangeSize_one]; split <;> omega
   show IsRangeIter _ _ (lo + ((0 : Nat) : Int) * 1) ((((hi - lo).toNat : Nat) : Int) - ((0 : Nat) : Int)) 1
   rw [e1, e2]
   exact Heap.get?_push_size _ rfl
 . have e : b = (s.heap.push { cls := .type "range", data := .fields #[.int lo t, .int hi u, .int 1 v] }).objs.size := by simpa using hb
   subst e
   exact I1.fpOk (Nat.le_refl _) (I1.hok.fresh (Nat.le_refl _))
noncomputable def ZnP (ta : TA) : TI := fun σ H R => ta σ H fun vs H1 => ∃ j : Int, vs = [.int j] /\ -(2 ^ 62) <= j /\ j < 2 ^ 62 /\ R (Itr 0 j.toNat) H1
noncomputable def ZnQ (ta : TA) : TI := fun σ H R => ta σ H fun vs H1 => ∃ i j : Int, vs = [.int i, .int j] /\ (-(2 ^ 62) <= i /\ i < 2 ^ 62 /\ -(2 ^ 62) <= j /\ j < 2 ^ 62) /\ R (Itr i (j - i).toNat) H1
theorem ZhI {a : Expr} {ta : TA} {p pos : Pos} (hg : Gl X "range") (hm : X.mg "range" = none) (ha : PA X [a] ta) (hs : starEach [a] X.env = [(false, eval a X.env)] := by rfl) : PI X tg (.Call (.Name "range" p) [a] [] pos) (ZnP ta) := by
 intro pins s σ H R I h
 refine Call_ (ZaQ I hg hm boot_range (PyProof.Rows.callWith_type1 (thn (ha pos pins s σ H _ I h) fun us s1 z0 => ?_) hs rfl))
 obtain ⟨vs, H1, I1, r1, q1⟩ := z0
 obtain ⟨j, e, q1, q2, q⟩ := q1
 subst e
 cases r1 with
 | cons r rr =>
  cases rr
  obtain ⟨t, rfl⟩ := r
  exact call_range_1 (Zfm I1 (by omega) (by omega) q1 q2 (by simpa using q))
theorem ZhJ {a b : Expr} {ta : TA} {p pos : Pos} (hg : Gl X "range") (hm : X.mg "range" = none) (ha : PA X [a, b] ta) (hs : starEach [a, b] X.env = [(false, eval a X.env), (false, eval b X.env)] := by rfl) (hs2 : starEach [b] X.env = [(false, eval b X.env)] := by rfl) :
 PI X tg (.Call (.Name "range" p) [a, b] [] pos) (ZnQ ta) := by
 intro pins s σ H R I h
 refine Call_ (ZaQ I hg hm boot_range (PyProof.Rows.callWith_type1 (thn (ha pos pins s σ H _ I h) fun us s1 z0 => ?_) (by rw [hs, hs2]) (by rw [hs2]; rfl)))
 obtain ⟨vs, H1, I1, r1, q1⟩ := z0
 obtain ⟨i, j, e, ⟨q1, q2, q3, q4⟩, q⟩ := q1
 subst e
 cases r1 with
 | cons r rr =>
  cases rr with
  | cons r' rr =>
   cases rr
   obtain ⟨t, rfl⟩ := r
   obtain ⟨t', rfl⟩ := r'
   exact call_range_2 (Zfm I1 q1 q2 q3 q4 q)
def tFor (wi : TI) (g : TG) (tb : TS) : TS := fun D σ H => wi σ H fun J H1 => ∃ W : Nat -> Nat -> St -> Hp -> Prop, (∃ m, W 0 m σ H1) /\ ∀ i m σ H, W i m σ H ->
 (J.stop i H /\ D.nx σ H) \/ (J.go i H /\ ∃ N : St -> Hp -> Prop, (∀ σ' H', N σ' H' -> ∃ m', m' < m /\ W (i + 1) m' σ' H') /\ ∀ x H', J.yld i H x H' -> g x σ H' fun σ2 H2 => tb { D with nx := N, ct := N, bk := D.nx } σ2 H2)
noncomputable def ZcV (fp : List Addr) (h : Heap) : List (Addr × Obj) := fp.filterMap fun b => (h.get? b).map fun o => (b, o)
theorem ZbL {fp : List Addr} {h : Heap} {b : Addr} {o : Obj} (hb : b ∈ fp) (e : h.get? b = some o) : (b, o) ∈ ZcV fp h := List.mem_filterMap.mpr ⟨b, hb, by rw [e]; rfl⟩
theorem ZhK {fp : List Addr} {h : Heap} {p : Addr × Obj} (hp : p ∈ ZcV fp h) : p.1 ∈ fp /\ h.get? p.1 = some p.2 := by
 obtain ⟨b, hb, e⟩ := List.mem_filterMap.mp hp
 cases q : h.get? b with
 | none => rw [q] at e; cases e
 | some o =>
  rw [q] at e
  have e' : (b, o) = p := Option.some.inj e
  subst e'
  exact ⟨hb, q⟩
theorem Inv.pinned {pins : List (Addr × Obj)} {σ : St} {H : Hp} {s : Shared} {fp : List Addr} (I : Inv X pins σ H s) (hf : ∀ b ∈ fp, FpOk X pins H b) (ho : ∀ b ∈ fp, ∃ o, s.heap.get? b = some o /\ ∀ v, o.data ≠ .cell v) : Inv X (pins ++ ZcV fp s.heap) σ H s :=
 I.pins_of fun p hp => (List.mem_append.mp hp).elim (fun z => I.pin p (List.mem_append_right _ z)) fun z => by
  obtain ⟨hb, e⟩ := ZhK z
  obtain ⟨f0, f1, f2, _⟩ := hf p.1 hb
  obtain ⟨o, e', d⟩ := ho p.1 hb
  rw [e] at e'; cases e'
  exact ⟨e, f0, f1, f2, d⟩
theorem Inv.unpinned {pins pl : List (Addr × Obj)} {σ : St} {H : Hp} {s : Shared} (I : Inv X (pins ++ pl) σ H s) : Inv X pins σ H s := I.pins_of fun p hp => I.pin p (List.mem_append_right _ (List.mem_append_left _ hp))
theorem ZlQ {iter : Expr} {body : List Stmt} {wi : TI} {g : TG} {tb : TS} {pos : Pos} (hp : PassesOwn (model X.prog X.w) X.A X.env X.xe) (hc : X.calm = true) (hi : PI X tg iter wi) (hg : PG X tg g) (hb : PSs X body tb)
 (hs : ∀ x, foldedSetIterable iter X.env x = pure x := by intro _; rfl) : PS X (.For tg iter body [] pos) (tFor wi g tb) := by
 intro pins s σ H D I h
 refine wpAny_For (thn (hi pins s σ H _ I h) fun v s1 h1 => thn h1 fun itv s2 h2 => ?_) hs
 obtain ⟨it, fp, tn, J, H2, e, I2, T, st2, f2, W, ⟨m0, w0⟩, turn⟩ := h2
 subst e
 have stat : ∀ {H' : Hp}, (∀ b ∈ fp, H' b = none) -> ∀ b ∈ fp, FpOk X pins H' b := fun hn b hb => ⟨hn b hb, (f2 b hb).2⟩
 refine codeAny_forLoop_any (fun n s' => ∃ i σ' H', Inv X pins σ' H' s' /\ tn i s'.heap /\ (∀ b ∈ fp, H' b = none) /\ W i n σ' H') ?_ m0 ⟨0, σ, H2, I2, st2, fun b hb => (f2 b hb).1, w0⟩
 rintro n s3 ⟨i, σ3, H3, I3, st3, fr3, w3⟩
 rcases turn i n σ3 H3 w3 with ⟨stop, qn⟩ | ⟨go, N, hN, step⟩
 . refine wpAny_passesOwn hp (thn (T.done X rfl rfl rfl hc i pins s3 σ3 H3 X.xe I3 (stat fr3) st3 stop) fun r s4 z0 => ?_)
   obtain ⟨hr, I4⟩ := z0
   subst hr
   exact wpAny_execs_nil ⟨σ3, H3, I4, qn⟩
 . refine wpAny_passesOwn hp (thn (T.item X rfl rfl rfl hc i pins s3 σ3 H3 X.xe I3 (stat fr3) st3 go) fun r s4 z0 => ?_)
   obtain ⟨u, hr, h4⟩ := z0
   subst hr
   refine wpAny_passesOwn hp (thn h4 fun _ s5 z0 => ?_)
   obtain ⟨x, H5, I5, r5, y5, st5, fr5⟩ := z0
   have I5' := I5.pinned (stat fr5) (T.obj _ _ st5)
   refine wpAny_passesOwn hp (thn (hg _ s5 σ3 H5 x u _ I5' r5 (step x H5 y5)) fun _ s6 z0 => ?_)
   obtain ⟨σ6, H6, I6, q6⟩ := z0
   refine wpAny_passesOwn hp (thn (hb _ s6 σ6 H6 _ I6 q6) fun f s7 q7 => ?_)
   have again : ∀ {σ7 : St} {H7 : Hp}, Inv X (pins ++ ZcV fp s5.heap) σ7 H7 s7 -> N σ7 H7 -> ∃ m, m < n /\ ∃ i σ' H', Inv X pins σ' H' s7 /\ tn i s7.heap /\ (∀ b ∈ fp, H' b = none) /\ W i m σ' H' := fun {σ7 H7} I7 n7 => by
    obtain ⟨m', hm, w7⟩ := hN σ7 H7 n7
    refine ⟨m', hm, i + 1, σ7, H7, I7.unpinned, T.keep _ _ _ st5 fun b hb o e => (I7.pin (b, o) (List.mem_append_right _ (List.mem_append_right _ (ZbL hb e)))).1, fun b hb => ?_, w7⟩
    obtain ⟨o, e, d⟩ := T.obj _ _ st5 b hb
    exact (I7.pin (b, o) (List.mem_append_right _ (List.mem_append_right _ (ZbL hb e)))).2.1
   cases f with
   | next => obtain ⟨σ7, H7, I7, n7⟩ := q7; exact again I7 n7
   | cont => obtain ⟨σ7, H7, I7, n7⟩ := q7; exact again I7 n7
   | brk => obtain ⟨σ7, H7, I7, q7⟩ := q7; exact ⟨σ7, H7, I7.unpinned, q7⟩
   | ret v => obtain ⟨x7, σ7, H7, I7, r7, q7⟩ := q7; exact ⟨x7, σ7, H7, I7.unpinned, r7, q7⟩
end
end L2
namespace L2
open PySem PySem.Spec PyProof.Rows
abbrev R2 := V -> V -> Hp -> VK -> Prop
def OpR (X : Cx) (f : Value -> Value -> Sem Value) (r : R2) : Prop :=
 ∀ (pins : List (Addr × Obj)) (s : Shared) (σ : St) (H : Hp) (x y : V) (v u : Value) (Q : VK), Inv X pins σ H s -> RelV x v -> RelV y u -> r x y H Q ->
  wpAny (model X.prog X.w) X.A (f v u) (EP X pins σ Q) X.xe s
def UnR (X : Cx) (f : Value -> Sem Value) (r : V -> Hp -> VK -> Prop) : Prop :=
 ∀ (pins : List (Addr × Obj)) (s : Shared) (σ : St) (H : Hp) (x : V) (v : Value) (Q : VK), Inv X pins σ H s -> RelV x v -> r x H Q ->
  wpAny (model X.prog X.w) X.A (f v) (EP X pins σ Q) X.xe s
def ZD (X : Cx) (f : Value) (r : List V -> Hp -> VK -> Prop) : Prop :=
 ∀ (pins : List (Addr × Obj)) (s : Shared) (σ : St) (H : Hp) (xs : List V) (us : List Value) (Q : VK), Inv X pins σ H s -> Vals xs us -> r xs H Q ->
  wpAny (model X.prog X.w) X.A (call f us) (EP X pins σ Q) X.xe s
def TruR (X : Cx) (r : V -> Hp -> (Bool -> Hp -> Prop) -> Prop) : Prop :=
 ∀ (pins : List (Addr × Obj)) (s : Shared) (σ : St) (H : Hp) (x : V) (v : Value) (Q : Bool -> Hp -> Prop), Inv X pins σ H s -> RelV x v -> r x H Q ->
  wpAny (model X.prog X.w) X.A (truthy v) (TP X pins σ Q) X.xe s
def tOp (r : R2) (ta tb : TE) : TE := fun σ H Q => ta σ H fun x H1 => tb σ H1 fun y H2 => r x y H2 Q
def tUn (r : V -> Hp -> VK -> Prop) (ta : TE) : TE := fun σ H Q => ta σ H fun x H1 => r x H1 Q
def rI (C : Int -> Int -> Prop) (g : Int -> Int -> V) : R2 := fun x y H Q => ∃ i j, x = .int i /\ y = .int j /\ C i j /\ Q (g i j) H
def rI0 (g : Int -> Int -> V) : R2 := fun x y H Q => ∃ i j, x = .int i /\ y = .int j /\ Q (g i j) H
def rU (g : Int -> V) : V -> Hp -> VK -> Prop := fun x H Q => ∃ i, x = .int i /\ Q (g i) H
section
variable {X : Cx} {a b c : Expr} {ta tb tc : TE} {pos : Pos}
theorem binT (ha : PE X a ta) (hb : PE X b tb) {pins : List (Addr × Obj)} {s : Shared} {σ : St} {H : Hp} {R : V -> V -> Hp -> Prop} (I : Inv X pins σ H s)
 (h : ta σ H fun x H1 => tb σ H1 fun y H2 => R x y H2) {Q : Value -> Shared -> Prop} {f : Value -> Value -> Sem Value}
 (hf : ∀ v u s2 x y H2, Inv X pins σ H2 s2 -> RelV x v -> RelV y u -> R x y H2 -> wpAny (model X.prog X.w) X.A (f v u) Q X.xe s2) :
 wpAny (model X.prog X.w) X.A (eval a X.env) (fun v s₁ => wpAny (model X.prog X.w) X.A (eval b X.env) (fun u s₂ => wpAny (model X.prog X.w) X.A (f v u) Q X.xe s₂) X.xe s₁) X.xe s := by
 refine thn (ha pins s σ H _ I h) fun v s1 z0 => ?_
 obtain ⟨x, H1, I1, r1, q1⟩ := z0
 refine thn (hb pins s1 σ H1 _ I1 q1) fun u s2 z0 => ?_
 obtain ⟨y, H2, I2, r2, q2⟩ := z0
 exact hf v u s2 x y H2 I2 r1 r2 q2
theorem ZnR {op : Operator} {r : R2} (ho : OpR X (binaryOp op) r) (ha : PE X a ta) (hb : PE X b tb) : PE X (.BinOp a op b pos) (tOp r ta tb) := by
 intro pins s σ H Q I h
 exact wpAny_BinOp (binT ha hb I h fun v u s2 x y H2 I2 rx ry q => ho pins s2 σ H2 x y v u Q I2 rx ry q)
theorem ZnS {op : UnaryOp} {r : V -> Hp -> VK -> Prop} (ho : UnR X (unaryOp op) r) (ha : PE X a ta) : PE X (.UnaryOp op a pos) (tUn r ta) := by
 intro pins s σ H Q I h
 exact UnaryOp_ (thn (ha pins s σ H _ I h) fun v s1 ⟨x, H1, I1, r1, q1⟩ => ho pins s1 σ H1 x v Q I1 r1 q1)
theorem opI {f : Value -> Value -> Sem Value} {C : Int -> Int -> Prop} {g : Int -> Int -> Int}
 (rule : ∀ (i j : Int) (t u : Tok) (s : Shared) (Q : Value -> Shared -> Prop) (E : Value -> Shared -> Prop), C i j -> Q (.int (g i j) s.toks) { s with toks := s.toks + 1 } -> wpAny (model X.prog X.w) X.A (f (.int i t) (.int j u)) Q E s) :
 OpR X f (rI C fun i j => .int (g i j)) := by
 intro pins s σ H x y v u Q I rx ry h
 obtain ⟨i, j, rfl, rfl, hc, q⟩ := h
 obtain ⟨t, rfl⟩ := rx
 obtain ⟨t', rfl⟩ := ry
 exact rule i j t t' s _ _ hc ⟨.int (g i j), H, I.tok _, ⟨_, rfl⟩, q⟩
theorem opI0 {f : Value -> Value -> Sem Value} {g : Int -> Int -> Int}
 (rule : ∀ (i j : Int) (t u : Tok) (s : Shared) (Q : Value -> Shared -> Prop) (E : Value -> Shared -> Prop), Q (.int (g i j) s.toks) { s with toks := s.toks + 1 } -> wpAny (model X.prog X.w) X.A (f (.int i t) (.int j u)) Q E s) :
 OpR X f (rI0 fun i j => .int (g i j)) := by
 intro pins s σ H x y v u Q I rx ry h
 obtain ⟨i, j, rfl, rfl, q⟩ := h
 obtain ⟨t, rfl⟩ := rx
 obtain ⟨t', rfl⟩ := ry
 exact rule i j t t' s _ _ ⟨.int (g i j), H, I.tok _, ⟨_, rfl⟩, q⟩
theorem opB0 {f : Value -> Value -> Sem Value} {g : Int -> Int -> Bool}
 (rule : ∀ (i j : Int) (t u : Tok) (s : Shared) (Q : Value -> Shared -> Prop) (E : Value -> Shared -> Prop), Q (.bool (g i j)) s -> wpAny (model X.prog X.w) X.A (f (.int i t) (.int j u)) Q E s) :
 OpR X f (rI0 fun i j => .bl (g i j)) := by
 intro pins s σ H x y v u Q I rx ry h
 obtain ⟨i, j, rfl, rfl, q⟩ := h
 obtain ⟨t, rfl⟩ := rx
 obtain ⟨t', rfl⟩ := ry
 exact rule i j t t' s _ _ ⟨.bl (g i j), H, I, rfl, q⟩
def CPow (i j : Int) : Prop := 0 <= j /\ j <= 1000000 /\ i.natAbs < 2 ^ 64
def CMul (i j : Int) : Prop := (-(2 ^ 64) < i /\ i < 2 ^ 64) \/ (-(2 ^ 64) < j /\ j < 2 ^ 64)
theorem CMul.ok {i j : Int} (h : CMul i j) : IntMulOk i j := by
 rcases h with ⟨h1, h2⟩ | ⟨h1, h2⟩
 . exact .of_left (intBits_le_64 h1 h2)
 . exact .of_right (intBits_le_64 h1 h2)
theorem ZlR : OpR X (binaryOp .Add) (rI0 fun i j => .int (i + j)) := opI0 fun _ _ _ _ _ _ _ q => add_int q
theorem ZlS : OpR X (binaryOp .Sub) (rI0 fun i j => .int (i - j)) := opI0 fun _ _ _ _ _ _ _ q => sub_int q
theorem ZlT : OpR X (binaryOp .Mult) (rI CMul fun i j => .int (i * j)) := opI fun _ _ _ _ _ _ _ hc q => mul_int q hc.ok
theorem ZlU : OpR X (binaryOp .Mod) (rI (fun _ j => 0 < j) fun i j => .int (i % j)) := opI fun i j _ _ _ _ _ hc q => by
 have h1 : (0 : Int) < j := hc
 exact mod_int' (by omega) (by rw [Int.fmod_eq_emod_of_nonneg i (by omega)]; exact q)
theorem ZlV : OpR X (binaryOp .Pow) (rI CPow fun i j => .int (i ^ j.toNat)) := opI fun _ _ _ _ _ _ _ hc q => pow_int_small hc.1 hc.2.1 hc.2.2 q
theorem unI {f : Value -> Sem Value} {g : Int -> Int}
 (rule : ∀ (i : Int) (t : Tok) (s : Shared) (Q : Value -> Shared -> Prop) (E : Value -> Shared -> Prop), Q (.int (g i) s.toks) { s with toks := s.toks + 1 } -> wpAny (model X.prog X.w) X.A (f (.int i t)) Q E s) :
 UnR X f (rU fun i => .int (g i)) := by
 intro pins s σ H x v Q I rx h
 obtain ⟨i, rfl, q⟩ := h
 obtain ⟨t, rfl⟩ := rx
 exact rule i t s _ _ ⟨.int (g i), H, I.tok _, ⟨_, rfl⟩, q⟩
theorem ZlW : UnR X (unaryOp .USub) (rU fun i => .int (-i)) := unI fun _ _ _ _ _ q => neg_int q
end
noncomputable def scal : V -> V -> Bool
 | .non, .non => true | .non, .int _ => true | .int _, .non => true | .non, .bl _ => true | .bl _, .non => true | .non, .str _ => true | .str _, .non => true
 | .int _, .int _ => true | .bl _, .bl _ => true | .str _, .str _ => true | .byt _, .byt _ => true
 | .int _, .str _ => true | .str _, .int _ => true | .bl _, .str _ => true | .str _, .bl _ => true
 | _, _ => false
def rEq : R2 := fun x y H Q => scal x y = true /\ Q (.bl (decide (x = y))) H
def rNe : R2 := fun x y H Q => scal x y = true /\ Q (.bl (!decide (x = y))) H
theorem Zgy {i j : Int} : decide (V.int i = V.int j) = (i == j) := by
 rw [Bool.eq_iff_iff]
 simp
theorem ZhL {i j : Bool} : decide (V.bl i = V.bl j) = (i == j) := by
 rw [Bool.eq_iff_iff]
 simp
theorem Zgz {i j : Str} : decide (V.str i = V.str j) = (i == j) := by
 rw [Bool.eq_iff_iff]
 simp
theorem Zg0 {i j : Array UInt8} : decide (V.byt i = V.byt j) = (i.toList == j.toList) := by
 rw [Bool.eq_iff_iff]
 cases i
 cases j
 simp
section
variable {X : Cx} {a b c : Expr} {ta tb tc : TE} {pos : Pos}
theorem Zs {pins : List (Addr × Obj)} {σ : St} {H : Hp} {s : Shared} {Q : VK} {k k' : Bool} (I : Inv X pins σ H s) (q : Q (.bl k) H) (e : k = k') : EP X pins σ Q (.bool k') s := by
 subst e
 exact ⟨.bl k, H, I, rfl, q⟩
theorem ZnT : OpR X (compareOp .Eq) rEq := by
 intro pins s σ H x y v u Q I rx ry h
 obtain ⟨hs, q⟩ := h
 cases x with
 | non =>
  cases rx
  cases y with
  | non => cases ry; exact PySem.EqNone.eq_none_none (Zs I q (by simp))
  | bl j => cases ry; exact PySem.EqNone.eq_none_bool (Zs I q (by simp))
  | int j => obtain ⟨t', rfl⟩ := ry; exact PySem.EqNone.eq_none_int (Zs I q (by simp))
  | str j => obtain ⟨t', rfl⟩ := ry; exact PySem.EqNone.eq_none_str (Zs I q (by simp))
  | _ => exact absurd (show false = true from hs) Bool.false_ne_true
 | bl i =>
  cases rx
  cases y with
  | non => cases ry; exact PySem.EqNone.eq_bool_none (Zs I q (by simp))
  | bl j => cases ry; exact eq_bool (Zs I q ZhL)
  | str j => obtain ⟨t', rfl⟩ := ry; exact PySem.EqMixed.eq_bool_str (Zs I q (by simp))
  | _ => exact absurd (show false = true from hs) Bool.false_ne_true
 | int i =>
  obtain ⟨t, rfl⟩ := rx
  cases y with
  | non => cases ry; exact PySem.EqNone.eq_int_none (Zs I q (by simp))
  | int j => obtain ⟨t', rfl⟩ := ry; exact eq_int (Zs I q Zgy)
  | str j => obtain ⟨t', rfl⟩ := ry; exact PySem.EqMixed.eq_int_str (Zs I q (by simp))
  | _ => exact absurd (show false = true from hs) Bool.false_ne_true
 | str i =>
  obtain ⟨t, rfl⟩ := rx
  cases y with
  | non => cases ry; exact PySem.EqNone.eq_str_none (Zs I q (by simp))
  | bl j => cases ry; exact PySem.EqMixed.eq_str_bool (Zs I q (by simp))
  | int j => obtain ⟨t', rfl⟩ := ry; exact PySem.EqMixed.eq_str_int (Zs I q (by simp))
  | str j => obtain ⟨t', rfl⟩ := ry; exact eq_str (Zs I q Zgz)
  | _ => exact absurd (show false = true from hs) Bool.false_ne_true
 | byt i =>
  obtain ⟨t, rfl⟩ := rx
  cases y with
  | byt j => obtain ⟨t', rfl⟩ := ry; exact PySem.W.eq_bytes (Zs I q Zg0)
  | _ => exact absurd (show false = true from hs) Bool.false_ne_true
 | _ => cases y <;> exact absurd (show false = true from hs) Bool.false_ne_true
theorem ZnU : OpR X (compareOp .NotEq) rNe := by
 intro pins s σ H x y v u Q I rx ry h
 obtain ⟨hs, q⟩ := h
 cases x with
 | non =>
  cases rx
  cases y with
  | non => cases ry; exact PySem.EqNone.ne_none_none (Zs I q (by simp))
  | bl j => cases ry; exact PySem.EqNone.ne_none_bool (Zs I q (by simp))
  | int j => obtain ⟨t', rfl⟩ := ry; exact PySem.EqNone.ne_none_int (Zs I q (by simp))
  | str j => obtain ⟨t', rfl⟩ := ry; exact PySem.EqNone.ne_none_str (Zs I q (by simp))
  | _ => exact absurd (show false = true from hs) Bool.false_ne_true
 | bl i =>
  cases rx
  cases y with
  | non => cases ry; exact PySem.EqNone.ne_bool_none (Zs I q (by simp))
  | bl j => cases ry; exact ne_bool (Zs I q (congrArg not ZhL))
  | str j => obtain ⟨t', rfl⟩ := ry; exact PySem.EqMixed.ne_bool_str (Zs I q (by simp))
  | _ => exact absurd (show false = true from hs) Bool.false_ne_true
 | int i =>
  obtain ⟨t, rfl⟩ := rx
  cases y with
  | non => cases ry; exact PySem.EqNone.ne_int_none (Zs I q (by simp))
  | int j => obtain ⟨t', rfl⟩ := ry; exact ne_int (Zs I q (congrArg not Zgy))
  | str j => obtain ⟨t', rfl⟩ := ry; exact PySem.EqMixed.ne_int_str (Zs I q (by simp))
  | _ => exact absurd (show false = true from hs) Bool.false_ne_true
 | str i =>
  obtain ⟨t, rfl⟩ := rx
  cases y with
  | non => cases ry; exact PySem.EqNone.ne_str_none (Zs I q (by simp))
  | bl j => cases ry; exact PySem.EqMixed.ne_str_bool (Zs I q (by simp))
  | int j => obtain ⟨t', rfl⟩ := ry; exact PySem.EqMixed.ne_str_int (Zs I q (by simp))
  | str j => obtain ⟨t', rfl⟩ := ry; exact ne_str (Zs I q (congrArg not Zgz))
  | _ => exact absurd (show false = true from hs) Bool.false_ne_true
 | byt i =>
  obtain ⟨t, rfl⟩ := rx
  cases y with
  | byt j => obtain ⟨t', rfl⟩ := ry; exact PySem.W.ne_bytes (Zs I q (congrArg not Zg0))
  | _ => exact absurd (show false = true from hs) Bool.false_ne_true
 | _ => cases y <;> exact absurd (show false = true from hs) Bool.false_ne_true
theorem ZnV : OpR X (compareOp .Lt) (rI0 fun i j => .bl (decide (i < j))) := opB0 fun _ _ _ _ _ _ _ q => lt_int q
theorem ZnW : OpR X (compareOp .LtE) (rI0 fun i j => .bl (decide (i <= j))) := opB0 fun _ _ _ _ _ _ _ q => le_int q
theorem ZnX : OpR X (compareOp .Gt) (rI0 fun i j => .bl (decide (j < i))) := opB0 fun _ _ _ _ _ _ _ q => gt_int q
theorem ZnY : OpR X (compareOp .GtE) (rI0 fun i j => .bl (decide (j <= i))) := opB0 fun _ _ _ _ _ _ _ q => ge_int q
theorem nomark (b : Expr) {op : CmpOp} (h : op ≠ .In := by decide) (h2 : op ≠ .NotIn := by decide) : behindInMarks op b = false := by
 have e1 : (op == CmpOp.In) = false := by cases op <;> first | rfl | exact absurd rfl h
 have e2 : (op == CmpOp.NotIn) = false := by cases op <;> first | rfl | exact absurd rfl h2
 cases b <;> simp [behindInMarks, e1, e2]
theorem Zky {op : CmpOp} {r : R2} (ho : OpR X (compareOp op) r) (ha : PE X a ta) (hb : PE X b tb) (hm : behindInMarks op b = false) : PE X (.Compare a [op] [b] pos) (tOp r ta tb) := by
 intro pins s σ H Q I h
 exact wpAny_Compare1 (binT ha hb I h fun v u s2 x y H2 I2 rx ry q => ho pins s2 σ H2 x y v u Q I2 rx ry q) hm
def ZnZ (t : TE) : TT := fun σ H Q => t σ H fun x H' => ∃ k, x = .bl k /\ Q k H'
theorem Zkz {op : CmpOp} {r : R2} (ho : OpR X (compareOp op) r) (ha : PE X a ta) (hb : PE X b tb) (hm : behindInMarks op b = false) : PT X (.Compare a [op] [b] pos) (ZnZ (tOp r ta tb)) := by
 intro pins s σ H Q I h
 refine wpAny_isTrue_Compare1 (thn (ha pins s σ H _ I h) fun v s1 ⟨x, H1, I1, r1, q1⟩ => thn (hb pins s1 σ H1 _ I1 q1) fun u s2 ⟨y, H2, I2, r2, q2⟩ =>
  thn (ho pins s2 σ H2 x y v u _ I2 r1 r2 q2) fun c s3 ⟨z, H3, I3, r3, k, e, q3⟩ => ?_) hm
 subst e
 cases r3
 exact wpAny_truthy_bool ⟨H3, I3, q3⟩
def ZhM (r r' : R2) (ta tb tc : TE) : TE := fun σ H Q => ta σ H fun x H1 => tb σ H1 fun y H2 => r x y H2 fun z H3 => ∃ k, z = .bl k /\
 (if k = true then tc σ H3 fun w' H4 => r' y w' H4 Q else Q (.bl false) H3)
theorem ZiW {op op' : CmpOp} {r r' : R2} (ho : OpR X (compareOp op) r) (ho' : OpR X (compareOp op') r') (ha : PE X a ta) (hb : PE X b tb) (hc : PE X c tc)
 (hm : lastMarks [op, op'] [b, c] = false := by with_unfolding_all rfl) : PE X (.Compare a [op, op'] [b, c] pos) (ZhM r r' ta tb tc) := by
 intro pins s σ H Q I h
 refine Compare_chain (thn (ha pins s σ H _ I h) fun v s1 ⟨x, H1, I1, r1, q1⟩ => chain_link (thn (hb pins s1 σ H1 _ I1 q1) fun u s2 ⟨y, H2, I2, r2, q2⟩ =>
  thn (ho pins s2 σ H2 x y v u _ I2 r1 r2 q2) fun d s3 ⟨z, H3, I3, r3, k, e, q3⟩ => ?_)) hm
 subst e
 cases r3
 refine wpAny_truthy_bool ?_
 cases k with
 | false => exact ite_ff ⟨.bl false, H3, I3, rfl, q3⟩
 | true => exact ite_tt (chain_last (thn (hc pins s3 σ H3 _ I3 q3) fun w' s4 ⟨z', H4, I4, r4, q4⟩ => ho' pins s4 σ H4 y z' u w' Q I4 r2 r4 q4))
def TruV (K : Fg) (x : V) (H : Hp) (k : Bool) : Prop :=
 match x with
 | .non => k = false
 | .bl b => k = b
 | .int i => k = (i != 0)
 | .str y => y.length <= sizeLine /\ k = ((y.length : Int) != 0)
 | .byt y => y.size <= sizeLine /\ k = ((y.size : Int) != 0)
 | .ref p => (∃ xs, SqL K H p xs /\ k = !xs.isEmpty) \/ (∃ xs, SqT K H p xs /\ k = !xs.isEmpty) \/ ∃ kvs, H p = some (.dK kvs) /\ k = !kvs.isEmpty
 | _ => False
theorem ZgZ {κ : Type} {kvs : List (κ × V)} {vs : List (κ × Value)} (r : KV kvs vs) : (!vs.isEmpty) = !kvs.isEmpty := by
 cases r <;> rfl
theorem ZdR {xs : List V} {its : List Value} (r : Vals xs its) : (!its.toArray.isEmpty) = !xs.isEmpty := by
 cases r <;> simp
theorem ZbZ : (sizeLine : Nat) < 2 ^ 63 := by rw [sizeLine_eq]; decide
theorem ZlX : TruR X (fun x H Q => ∃ k, TruV X.K x H k /\ Q k H) := by
 intro pins s σ H x v Q I rx h
 obtain ⟨k, e, q⟩ := h
 have hl := ZbZ
 have hs : sizeLine = 16777216 := sizeLine_eq
 cases x with
 | non =>
  cases rx
  have e' : k = false := e
  subst e'
  exact truthy_none ⟨H, I, q⟩
 | bl b =>
  cases rx
  have e' : k = b := e
  subst e'
  exact wpAny_truthy_bool ⟨H, I, q⟩
 | int i =>
  obtain ⟨t, rfl⟩ := rx
  have e' : k = (i != 0) := e
  subst e'
  exact PySem.P.truthy_int ⟨H, I, q⟩
 | str y =>
  obtain ⟨t, rfl⟩ := rx
  obtain ⟨hy, e'⟩ : y.length <= sizeLine /\ k = ((y.length : Int) != 0) := e
  subst e'
  exact PySem.P.truthy_str (by omega) ⟨H, I.tok _, q⟩
 | byt y =>
  obtain ⟨t, rfl⟩ := rx
  obtain ⟨hy, e'⟩ : y.size <= sizeLine /\ k = ((y.size : Int) != 0) := e
  subst e'
  exact PySem.W.truthy_bytes (by omega) ⟨H, I.tok _, q⟩
 | ref p =>
  cases rx
  have e' : (∃ xs, SqL X.K H p xs /\ k = !xs.isEmpty) \/ (∃ xs, SqT X.K H p xs /\ k = !xs.isEmpty) \/ ∃ kvs, H p = some (.dK kvs) /\ k = !kvs.isEmpty := e
  rcases e' with ⟨xs, hx, e'⟩ | ⟨xs, hx, e'⟩ | ⟨kvs, hx, e'⟩
  . subst e'
    obtain ⟨its, r, pl, hz⟩ := I.list hx
    have hlen := r.length
    exact wpAny_truthy_list pl.isList (by simp only [List.size_toArray]; omega) ⟨H, I.tok _, by rw [ZdR r]; exact q⟩
  . subst e'
    obtain ⟨its, r, pl, hz⟩ := I.tuple hx
    have hlen := r.length
    exact truthy_tuple pl (by simp only [List.size_toArray]; omega) ⟨H, I.tok _, by rw [ZdR r]; exact q⟩
  . subst e'
    obtain ⟨hz, hS, vs, r, m⟩ : kvs.length <= sizeLine /\ (p == sysModules) = false /\ ∃ vs, KV kvs vs /\ s.heap.DictOf (ZC X.prog X.w) p vs := I.hok p _ hx
    have hlen : kvs.length = vs.length := Paired.length r
    exact wpAny_truthy_dict hS m (by omega) ⟨H, I.tok _, by rw [ZgZ r]; exact q⟩
 | _ => exact (show False from e).elim
theorem ZiX (ha : PE X a ta) (he : ∀ whole, isTrue a X.env whole = (do let v <- whole; standAt a.pos; holding [v] (truthy v))) :
 PT X a (fun σ H Q => ta σ H fun x H' => ∃ k, TruV X.K x H' k /\ Q k H') := by
 intro pins s σ H Q I h
 exact isTrue_plain (thn (ha pins s σ H _ I h) fun v s1 ⟨x, H1, I1, r1, q1⟩ => ZlX pins s1 σ H1 x v Q I1 r1 q1) (he _)
theorem Zha : OpR X (binaryOp .Add) (fun x y H Q => ∃ i j, x = .str i /\ y = .str j /\ i.length + j.length <= sizeLine /\ Q (.str (i ++ j)) H) := by
 intro pins s σ H x y v u Q I rx ry h
 obtain ⟨i, j, rfl, rfl, hz, q⟩ := h
 obtain ⟨t, rfl⟩ := rx
 obtain ⟨t', rfl⟩ := ry
 exact add_str (fun t' tk => ⟨.str (i ++ j), H, I.tok _, ⟨_, rfl⟩, q⟩) hz
theorem Zdm {x : V} {us : List Value} (r : Vals [x] us) : ∃ u, us = [u] /\ RelV x u := by
 cases r with
 | cons r1 r2 => cases r2; exact ⟨_, rfl, r1⟩
theorem Zoa {x y : V} {us : List Value} (r : Vals [x, y] us) : ∃ u w', us = [u, w'] /\ RelV x u /\ RelV y w' := by
 cases r with
 | cons r1 r2 =>
  cases r2 with
  | cons r3 r4 => cases r4; exact ⟨_, _, rfl, r1, r3⟩
theorem ZhN (hc : X.calm = true) : ZD X (.builtin "max") (fun xs H Q => ∃ i j, xs = [.int i, .int j] /\ Q (.int (if j > i then j else i)) H) := by
 intro pins s σ H xs us Q I r h
 obtain ⟨i, j, rfl, q⟩ := h
 obtain ⟨u, w', rfl, ⟨t, rfl⟩, ⟨t', rfl⟩⟩ := Zoa r
 refine max_two_ints (I.ok.hd hc) fun h' tk k => ⟨_, H, I.kept k, ?_, q⟩
 by_cases hj : j > i
 . rw [if_pos hj, if_pos hj]; exact ⟨_, rfl⟩
 . rw [if_neg hj, if_neg hj]; exact ⟨_, rfl⟩
theorem ZeA : ZD X (.type "int") (fun xs H Q => (∃ i, xs = [.int i] /\ Q (.int i) H) \/ ∃ k, xs = [.bl k] /\ Q (.int (if k then 1 else 0)) H) := by
 intro pins s σ H xs us Q I r h
 rcases h with ⟨i, rfl, q⟩ | ⟨k, rfl, q⟩
 . obtain ⟨u, rfl, t, rfl⟩ := Zdm r
   exact call_int_int ⟨.int i, H, I, ⟨_, rfl⟩, q⟩
 . obtain ⟨u, rfl, r1⟩ := Zdm r
   cases r1
   exact call_int_bool ⟨.int (if k then 1 else 0), H, I.tok _, ⟨_, rfl⟩, q⟩
end
end L2
namespace L2
open PySem PySem.Spec PyProof.Rows
structure ObjM (h : Heap) (x dx C : Addr) (mA : Str -> Option Value) : Prop where
 obj : h.get? x = some (PySem.W.instObj C dx)
 ns : h.Ns1 dx mA
 ne : dx ≠ x
theorem ZhO {h : Heap} {dx : Addr} {mA : Str -> Option Value} (n : h.Ns1 dx mA) : ∃ od, h.get? dx = some od /\ ∀ name, PySem.W.lookIn name od = some (mA name) := by
 obtain ⟨o, es, ep, ho, hd, hk, _, hm⟩ := n
 refine ⟨o, ho, fun name => ?_⟩
 have e := hm name
 unfold nsFind findBy at e
 rw [<- Array.find?_toList] at e
 unfold PySem.W.lookIn
 rw [hd]
 dsimp only
 split
 . rename_i y q
   rw [q] at e
   exact congrArg some e
 . rename_i q
   rw [q] at e
   have a : es.toList.any (·.refKey) = false := by
    rw [List.any_eq_false]
    intro y hy
    obtain ⟨z, t, hkey⟩ := hk y (Array.mem_toList_iff.mp hy)
    simp [DictEntry.refKey, hkey]
   have a' : ¬ es.toList.any (·.refKey) = true := by rw [a]; exact Bool.false_ne_true
   rw [if_neg a']
   exact congrArg some e
theorem ObjM.look {h : Heap} {x dx C : Addr} {mA : Str -> Option Value} (I : ObjM h x dx C mA) : ∃ od, PySem.W.InstAt h x (PySem.W.instObj C dx) C (some od) /\ ∀ name, PySem.W.lookIn name od = some (mA name) :=
 let ⟨od, ho, hl⟩ := ZhO I.ns
 ⟨od, ⟨I.obj, rfl, rfl, ho⟩, hl⟩
section
variable {prog : Program} {w : World} {A : Around} {E : Value -> Shared -> Prop} {s : Shared} {K : Fg} {x dx C f : Addr} {mA : Str -> Option Value} {name : Str} {v : Value}
theorem Zk0 {expr : Bool} {Q : Value -> Shared -> Prop} (X : K.In s.heap) (I : ObjM s.heap x dx C mA) (hg : PySem.W.plainGet K C name = true) (hh : PySem.W.hasDictIn K C = true)
 (ha : PySem.W.findIn K (.ref C) name = some none) (hv : mA name = some v) (hv' : PySem.W.handedIn v = true) (h : Q v { s with toks := s.toks + 1 }) :
 wpAny (model prog w) A (getAttr (.ref x) name expr) Q E s := by
 obtain ⟨od, J, hl⟩ := I.look
 exact PySem.W.get_value X J (PySem.W.plainGet_of hg).1 (PySem.W.findObj_own hh ha rfl (by rw [hl, hv])) hv' h
theorem ZiY {pl : Sem Bool} {Q : Value × List Value -> Shared -> Prop} (X : K.In s.heap) (I : ObjM s.heap x dx C mA) (hg : PySem.W.plainGet K C name = true)
 (hf : PySem.W.findIn K (.ref C) name = some (some (.ref f))) (ht : PySem.W.isFn K (.ref f) = true) (hv : mA name = none) (h : Q (.ref f, [.ref x]) s) :
 wpAny (model prog w) A (getMethod (.ref x) name pl) Q E s := by
 obtain ⟨od, J, hl⟩ := I.look
 exact PySem.W.method_fn X J (PySem.W.plainGet_of hg).1 (PySem.W.plainGet_of hg).2 hf (beq_iff_eq.mp ht) (by show (PySem.W.lookIn name od).map (·.isSome) = some false; rw [hl, hv]; rfl) h
theorem Zk1 {ns : List Str} {Q : Unit -> Shared -> Prop} (X : K.In s.heap) (I : ObjM s.heap x dx C mA)
 (hs : PySem.W.findIn K (.ref C) "__setattr__" = some (some (.builtin "object.__setattr__"))) (hp : PySem.W.plainOver K C = true) (ht : PySem.W.takerIn K C name = some none) (hh : PySem.W.hasDictIn K C = true)
 (hw : PySem.Within mA ns) (hsz : ns.length <= sizeLine)
 (h : ∀ h', ObjM h' x dx C (fun y => if y = name then some v else mA y) -> Heap.SameBut dx s.heap h' -> Q () { s with heap := h', toks := s.toks + 2 }) :
 wpAny (model prog w) A (setAttr (.ref x) name v) Q E s := by
 obtain ⟨od, J, hl⟩ := I.look
 refine PySem.W.set_plain X J hs (PySem.W.osa_open (s := { s with toks := s.toks + 1 }) (r := none) X J hp ht fun b => ?_)
 obtain ⟨cd, hc, hd'⟩ := PySem.W.any_some hh
 have hx : s.heap.get? x = some ⟨.ref C, some dx, .plain, #[]⟩ := I.obj
 refine wpAny_bind (wpAny_pure (wpAny_bind (wpAny_bind (wpAny_loadPart hx (wpAny_bind (PySem.W.Looks.here (s := { s with toks := s.toks + 1 }) (PySem.W.looks_clsIn X hc) ?_))))))
 rw [hd']
 refine wpAny_pure (a := some dx) (wpAny_bind (wpAny_pure (wpAny_bind ?_)))
 refine wpAny_nsSet1 (s := { s with toks := s.toks + 1 }) I.ns fun h' hn2 hs2 => ?_
 obtain ⟨oD, esD, epD, hoD, hdD, hcD⟩ := hn2.count (PySem.Within.cons name v hw)
 refine wpAny_bind (wpAny_lookBehind hoD (by rw [hdD]; exact pastItsLine_dict (Nat.le_trans hcD (by rw [List.length_cons]; omega))) ?_)
 exact wpAny_pure (h _ ⟨(hs2.2 _ (Ne.symm I.ne)).trans I.obj, hn2, I.ne⟩ hs2)
theorem ZiZ {R : Result -> Shared -> Prop} {vs : List Value} {kw : List (Str × Value)} (X : K.In s.heap) (hm : PySem.W.makesIn K C = true)
 (hi : PySem.W.findIn K (.ref C) "__init__" = some (some (.ref f))) (hf : PySem.W.typeIn K (.ref f) = some (.type "function"))
 (h : codeAny (model prog w) (A.under (.builtin "type.__call__" ⟨.ref C :: vs, kw⟩)) (.call (.ref f) ⟨.ref (s.heap.objs.size + 1) :: vs, kw⟩) (PySem.W.InitBack (s.heap.objs.size + 1) R)
  { s with heap := (s.heap.push PySem.W.emptyDict).push (PySem.W.instObj C s.heap.objs.size) }) :
 codeAny (model prog w) A (.call (.ref C) ⟨vs, kw⟩) R s := by
 obtain ⟨hh, g, d, t, os⟩ := s
 exact PySem.W.make_core (PySem.W.makes_of X hm) (PySem.W.looks_findIn X hi) (fun self => PySem.W.bind_fn X self hf) (.inl rfl) h
end
noncomputable def putF (f : Str) (v : V) : List (Str × V) -> List (Str × V)
 | [] => [(f, v)]
 | (g, x) :: r => if g = f then (g, v) :: r else (g, x) :: putF f v r
theorem Zd4 (f g : Str) (v : V) : ∀ fs : List (Str × V), (putF f v fs).lookup g = if g = f then some v else fs.lookup g
 | [] => by
  show List.lookup g [(f, v)] = _
  by_cases h : g = f
  . have hb : (g == f) = true := beq_iff_eq.mpr h
    simp only [List.lookup, hb, if_pos h]
  . have hb : (g == f) = false := beq_eq_false_iff_ne.mpr h
    simp only [List.lookup, hb, if_neg h]
 | (k, x) :: r => by
  have ih := Zd4 f g v r
  rw [show putF f v ((k, x) :: r) = (if k = f then (k, v) :: r else (k, x) :: putF f v r) from rfl]
  by_cases hk : k = f
  . rw [if_pos hk]
    by_cases h : g = k
    . have hb : (g == k) = true := beq_iff_eq.mpr h
      simp only [List.lookup, hb, if_pos (h.trans hk)]
    . have hb : (g == k) = false := beq_eq_false_iff_ne.mpr h
      simp only [List.lookup, hb, if_neg (fun e : g = f => h (e.trans hk.symm))]
  . rw [if_neg hk]
    by_cases h : g = k
    . have hb : (g == k) = true := beq_iff_eq.mpr h
      simp only [List.lookup, hb, if_neg (fun e : g = f => hk (h.symm.trans e))]
    . have hb : (g == k) = false := beq_eq_false_iff_ne.mpr h
      simp only [List.lookup, hb]
      exact ih
theorem ZcW (f : Str) (v : V) : ∀ fs : List (Str × V), f ∈ (putF f v fs).map (·.1) /\ ∀ g, g ∈ fs.map (·.1) -> g ∈ (putF f v fs).map (·.1)
 | [] => ⟨by simp [putF], fun g h => by simp at h⟩
 | (k, x) :: r => by
  obtain ⟨i1, i2⟩ := ZcW f v r
  rw [show putF f v ((k, x) :: r) = (if k = f then (k, v) :: r else (k, x) :: putF f v r) from rfl]
  by_cases hk : k = f
  . rw [if_pos hk]
    subst hk
    exact ⟨by simp, fun g h => by simpa using h⟩
  . rw [if_neg hk]
    refine ⟨?_, fun g h => ?_⟩
    . rw [List.map_cons]
      exact List.mem_cons_of_mem _ i1
    . rw [List.map_cons] at h ⊢
      rcases List.mem_cons.mp h with e | e
      . exact List.mem_cons.mpr (.inl e)
      . exact List.mem_cons_of_mem _ (i2 g e)
theorem Zd5 (f : Str) (v : V) : ∀ fs : List (Str × V), (putF f v fs).length <= fs.length + 1
 | [] => by simp [putF]
 | (k, x) :: r => by
  have ih := Zd5 f v r
  rw [show putF f v ((k, x) :: r) = (if k = f then (k, v) :: r else (k, x) :: putF f v r) from rfl]
  by_cases hk : k = f
  . rw [if_pos hk, List.length_cons, List.length_cons]; omega
  . rw [if_neg hk, List.length_cons, List.length_cons]; omega
theorem RelO.some_of {v : V} {o : Option Value} (r : RelO (some v) o) : ∃ u, o = some u /\ RelV v u := by
 cases o with
 | none => exact (show False from r).elim
 | some u => exact ⟨u, rfl, r⟩
theorem RelO.none_of {o : Option Value} (r : RelO none o) : o = none := by
 cases o with
 | none => rfl
 | some u => exact (show False from r).elim
theorem ZhP {v : V} {u : Value} (r : RelV v u) : PySem.W.handedIn u = true := by
 cases v with
 | non => cases (show u = Value.none from r); rfl
 | bl b => cases (show u = Value.bool b from r); rfl
 | int i => obtain ⟨t, e⟩ := (show ∃ t, u = Value.int i t from r); cases e; rfl
 | str x => obtain ⟨t, e⟩ := (show ∃ t, u = Value.str x t from r); cases e; rfl
 | byt b => obtain ⟨t, e⟩ := (show ∃ t, u = Value.bytes b t from r); cases e; rfl
 | flt b => obtain ⟨t, e⟩ := (show ∃ t, u = Value.float b t from r); cases e; rfl
 | ref a => cases (show u = Value.ref a from r); rfl
 | ty n => cases (show u = Value.type n from r); rfl
section
variable {P : Program} {w : World} {H H' : Hp} {h h' : Heap} {a C dx : Addr} {fs fs' : List (Str × V)}
theorem Zdn (hok : HOk P w H h) (e : H a = some (.ins C dx fs)) : ∃ mA, ObjM h a dx C mA /\ (∀ f, RelO (fs.lookup f) (mA f)) /\ PySem.Within mA (fs.map (·.1)) /\ fs.length <= 1000 /\ H dx = some (.own a) := by
 obtain ⟨d, z, ne, ob, mA, n, r, q⟩ := (show Z8 P w H h a (.ins C dx fs) from hok a _ e)
 exact ⟨mA, ⟨ob, n, ne⟩, r, q, z, d⟩
end
structure Cls (K : Fg) (C : Addr) : Prop where
 pg : PySem.W.plainGet K C Str.empty = true
 hd : PySem.W.hasDictIn K C = true
 po : PySem.W.plainOver K C = true
 sa : PySem.W.findIn K (.ref C) "__setattr__" = some (some (.builtin "object.__setattr__"))
theorem Cls.get {K : Fg} {C : Addr} (c : Cls K C) (f : Str) : PySem.W.plainGet K C f = true := c.pg
def Zay (K : Fg) (C : Addr) (f : Str) : Prop := PySem.W.findIn K (.ref C) f = some none
theorem Zay.taker {K : Fg} {C : Addr} {f : Str} (n : Zay K C f) : PySem.W.takerIn K C f = some none := by
 unfold PySem.W.takerIn
 rw [show PySem.W.findIn K (.ref C) f = some none from n]
 rfl
structure Meth (K : Fg) (C : Addr) (m : Str) (f : Addr) : Prop where
 at_ : PySem.W.findIn K (.ref C) m = some (some (.ref f))
 fn : PySem.W.isFn K (.ref f) = true
 kp : PySem.W.keepIn K (.ref f) = true
section
variable {X : Cx} {pins : List (Addr × Obj)} {σ : St} {H : Hp} {s : Shared} {a C dx : Addr} {fs : List (Str × V)} {f : Str} {v : V} {A : Around} {E : Value -> Shared -> Prop}
theorem Zhb {b : Bool} {Q : Value -> Shared -> Prop} (I : Inv X pins σ H s) (e : H a = some (.ins C dx fs)) (c : Cls X.K C) (n : Zay X.K C f) (l : fs.lookup f = some v)
 (h : ∀ u s', Inv X pins σ H s' -> RelV v u -> Q u s') : wpAny (model X.prog X.w) A (getAttr (.ref a) f b) Q E s := by
 obtain ⟨mA, O, r, _, _, _⟩ := Zdn I.hok e
 obtain ⟨u, hu, ru⟩ := RelO.some_of (v := v) (o := mA f) (by rw [<- l]; exact r f)
 exact Zk0 I.kIn O (c.get f) c.hd n hu (ZhP ru) (h u _ (I.tok _) ru)
theorem Zhc {m : Str} {g : Addr} {pl : Sem Bool} {Q : Value × List Value -> Shared -> Prop} (I : Inv X pins σ H s) (e : H a = some (.ins C dx fs)) (c : Cls X.K C) (k : Meth X.K C m g) (l : fs.lookup m = none)
 (h : Q (.ref g, [.ref a]) s) : wpAny (model X.prog X.w) A (getMethod (.ref a) m pl) Q E s := by
 obtain ⟨mA, O, r, _, _, _⟩ := Zdn I.hok e
 have hn : mA m = none := RelO.none_of (by rw [<- l]; exact r m)
 exact ZiY I.kIn O (c.get m) k.at_ k.fn hn h
theorem Zhd {y : V} {u : Value} {Q : Unit -> Shared -> Prop} (I : Inv X pins σ H s) (e : H a = some (.ins C dx fs)) (c : Cls X.K C) (n : Zay X.K C f) (hl : fs.length < 1000) (ry : RelV y u)
 (h : ∀ s', Inv X pins σ (upd H a (.ins C dx (putF f y fs))) s' -> Q () s') : wpAny (model X.prog X.w) A (setAttr (.ref a) f u) Q E s := by
 obtain ⟨mA, O, r, wi, _, ho⟩ := Zdn I.hok e
 have hz : (fs.map (·.1)).length <= sizeLine := by rw [List.length_map, sizeLine_eq]; omega
 refine Zk1 I.kIn O c.sa c.po n.taker c.hd wi hz fun h' O' sb => h _ ?_
 have hd : ∃ o, h'.get? dx = some o := let ⟨o, _, _, e', _⟩ := O'.ns; ⟨o, e'⟩
 refine I.write (x := a) (e := dx) (by rw [e]; exact True.intro) (.inr ho) (fun b q hb z => (sb.2 b hb).trans z) hd ?_
 refine ⟨by rw [Zn O.ne]; exact ho, ?_, O.ne, O'.obj, _, O'.ns, fun g => ?_, fun g hg => ?_⟩
 . have := Zd5 f y fs; omega
 . show RelO ((putF f y fs).lookup g) (if g = f then some u else mA g)
   rw [Zd4]
   by_cases q : g = f
   . rw [if_pos q, if_pos q]; exact ry
   . rw [if_neg q, if_neg q]; exact r g
 . by_cases q : g = f
   . rw [q]; exact (ZcW f y fs).1
   . refine (ZcW f y fs).2 g (wi g fun z => hg ?_)
     show (if g = f then some u else mA g) = none
     rw [if_neg q]; exact z
theorem Inv.made (I : Inv X pins σ H s) : Inv X pins σ (upd (upd H s.heap.objs.size (.own (s.heap.objs.size + 1))) (s.heap.objs.size + 1) (.ins C s.heap.objs.size []))
 { s with heap := (s.heap.push PySem.W.emptyDict).push (PySem.W.instObj C s.heap.objs.size) } := by
 have e1 : (s.heap.push PySem.W.emptyDict).get? s.heap.objs.size = some PySem.W.emptyDict := Heap.get?_push_size s.heap rfl
 have e2 : ((s.heap.push PySem.W.emptyDict).push (PySem.W.instObj C s.heap.objs.size)).get? (s.heap.objs.size + 1) = some (PySem.W.instObj C s.heap.objs.size) := by
  have := Heap.get?_push_size (s.heap.push PySem.W.emptyDict) (o := PySem.W.instObj C s.heap.objs.size) rfl
  rwa [Heap.size_push] at this
 have e3 : (s.heap.push PySem.W.emptyDict).Ns s.heap.objs.size (fun _ => none) := ⟨PySem.W.emptyDict, #[], _, e1, rfl, (fun e he => absurd he (by simp)), fun _ => rfl⟩
 have I1 := I.laid (a := s.heap.objs.size) (o := .own (s.heap.objs.size + 1)) (h' := s.heap.push PySem.W.emptyDict) (t' := s.toks) (fun b u q => Heap.get?_push_of_some _ q) (Nat.le_refl _) ⟨_, e1⟩
 refine I1.laid (a := s.heap.objs.size + 1) (o := .ins C s.heap.objs.size []) (t' := s.toks) (fun b u q => Heap.get?_push_of_some _ q) (Nat.le_of_eq (Heap.size_push _ _)) ?_
 have ne : s.heap.objs.size ≠ s.heap.objs.size + 1 := Nat.ne_of_lt (Nat.lt_succ_self _)
 refine ⟨by rw [Zn ne, Zk], Nat.zero_le _, ne, e2, fun _ => none, (Heap.Ns1.of_empty e3).at fun o q => Heap.get?_push_of_some _ q, fun _ => True.intro, fun y hy => absurd rfl hy⟩
theorem Zk2 {prog : Program} {w : World} {env : Env} {e : Expr} {f : Str} {pos : Pos} {s : Shared} {Q : Value -> Shared -> Prop} (hb : attributeBase e f env (eval e env) = eval e env)
 (h : wpAny (model prog w) A (eval e env) (fun o s₁ => wpAny (model prog w) A (getAttr o f true) Q E s₁) E s) : wpAny (model prog w) A (eval (.Attribute e f pos) env) Q E s :=
 Attribute_any_ h (by rw [arm_eval_Attribute, hb])
end
def tFld (K : Fg) (ta : TE) (f : Str) : TE := fun σ H Q => ta σ H fun x H1 => ∃ a C dx fs v, x = .ref a /\ H1 a = some (.ins C dx fs) /\ Cls K C /\ Zay K C f /\ fs.lookup f = some v /\ Q v H1
def sFld (K : Fg) (ta tv : TE) (f : Str) : TS := fun D σ H => tv σ H fun y H1 => ta σ H1 fun x H2 => ∃ a C dx fs, x = .ref a /\ H2 a = some (.ins C dx fs) /\ Cls K C /\ Zay K C f /\ fs.length < 1000 /\
 D.nx σ (upd H2 a (.ins C dx (putF f y fs)))
section
variable {X : Cx} {o e value : Expr} {f : Str} {pos pos' tpos : Pos} {ta tv : TE}
theorem ZlY (he : PE X e ta) (hb : attributeBase e f X.env (eval e X.env) = eval e X.env) : PE X (.Attribute e f pos) (tFld X.K ta f) := by
 intro pins s σ H Q I h
 refine Zk2 hb (thn (he pins s σ H _ I h) fun u s1 z0 => ?_)
 obtain ⟨x, H1, I1, rx, a, C, dx, fs, v, ex, ea, c, n, l, q⟩ := z0
 subst ex
 obtain rfl : u = Value.ref a := rx
 exact Zhb I1 ea c n l fun u' s2 I2 ru => ⟨v, H1, I2, ru, q⟩
theorem ZlZ (ha : PE X o ta) (hv : PE X value tv) (hs : swapsWith value (some (.Attribute o f pos')) pos.line X.env = pure false) : PS X (.Assign [.Attribute o f pos'] value pos) (sFld X.K ta tv f) := by
 intro pins s σ H D I h
 refine plainObj_wpAny_Assign_Attribute (thn (hv pins s σ H _ I h) fun u s1 ⟨y, H1, I1, ry, q⟩ => thn (ha pins s1 σ H1 _ I1 q) fun ov s2 ⟨x, H2, I2, rx, a, C, dx, fs, ex, ea, c, n, l, q2⟩ => ?_) hs
 subst ex
 obtain rfl : ov = Value.ref a := rx
 exact Zhd I2 ea c n l ry fun s3 I3 => ⟨σ, _, I3, q2⟩
end
section
variable {X : Cx} {pins : List (Addr × Obj)} {σ : St} {H : Hp} {s : Shared} {A : Around} {E : Value -> Shared -> Prop} {Q : Value -> Shared -> Prop} {c : Value} {b : Bool}
inductive TyOf (K : Fg) (H : Hp) : V -> Value -> Prop where
 | non : TyOf K H .non (.type "NoneType")
 | bl (x : Bool) : TyOf K H (.bl x) (.type "bool")
 | int (i : Int) : TyOf K H (.int i) (.type "int")
 | str (x : Str) : TyOf K H (.str x) (.type "str")
 | flt (x : UInt64) : TyOf K H (.flt x) (.type "float")
 | lst {a : Addr} {xs : List V} (e : H a = some (.lst xs)) : TyOf K H (.ref a) (.type "list")
 | frz {a : Addr} {o : Obj} {xs : List V} (e : H a = some (.frz o (.lst xs))) : TyOf K H (.ref a) (.type "list")
 | tup {a : Addr} {xs : List V} (e : H a = some (.tup xs)) : TyOf K H (.ref a) (.type "tuple")
 | dK {a : Addr} {kvs : List (Key × V)} (e : H a = some (.dK kvs)) : TyOf K H (.ref a) (.type "dict")
 | dT {a : Addr} {kvs : List (List Key × V)} (e : H a = some (.dT kvs)) : TyOf K H (.ref a) (.type "dict")
 | ins {a C dx : Addr} {fs : List (Str × V)} (e : H a = some (.ins C dx fs)) (cl : Cls K C) (ha : PySem.W.findIn K (.ref C) "__class__" = some (some (.builtin "object.__class__")))
  (hn : PySem.W.specialIn K (.builtin "object.__class__") "__get__" = some (some (.builtin "getset_descriptor.__get__"))) (htk : PySem.W.takesIn K (.builtin "object.__class__") = some true)
  (hm : PySem.W.mroIn K C (.type "object") = some true) : TyOf K H (.ref a) (.ref C)
theorem ZhQ {x : V} {u t : Value} (I : Inv X pins σ H s) (rx : RelV x u) (ty : TyOf X.K H x t) (e : PySem.W.kitOne X.K t c = some b) (h : ∀ tk, Q (.bool b) { s with toks := tk }) :
 wpAny (model X.prog X.w) A (call (.builtin "isinstance") [u, c]) Q E s := by
 cases ty with
 | non => cases (show u = Value.none from rx); exact PySem.W.kia_one PySem.W.kitx_none I.kIn True.intro e (fun z => nomatch z) h
 | bl y => cases (show u = Value.bool y from rx); exact PySem.W.kia_one PySem.W.kitx_bool I.kIn True.intro e (fun z => nomatch z) h
 | int i => obtain ⟨t, q⟩ := (show ∃ t, u = Value.int i t from rx); cases q; exact PySem.W.kia_one PySem.W.kitx_int I.kIn True.intro e (fun z => nomatch z) h
 | str y => obtain ⟨t, q⟩ := (show ∃ t, u = Value.str y t from rx); cases q; exact PySem.W.kia_one PySem.W.kitx_str I.kIn True.intro e (fun z => nomatch z) h
 | flt y => obtain ⟨t, q⟩ := (show ∃ t, u = Value.float y t from rx); cases q; exact PySem.W.kia_one PySem.W.kitx_float I.kIn True.intro e (fun z => nomatch z) h
 | @lst a xs ea =>
  cases (show u = Value.ref a from rx)
  obtain ⟨_, _, n, _, h1⟩ := (show Z8 X.prog X.w H s.heap a (.lst xs) from I.hok a _ ea)
  exact PySem.W.kia_one PySem.W.kitx_list I.kIn ⟨_, h1, rfl⟩ e (fun z => nomatch z) h
 | @frz a ob xs ea =>
  cases (show u = Value.ref a from rx)
  obtain ⟨_, _, _, n, _, h1⟩ := (show Z8 X.prog X.w H s.heap a (.frz ob (.lst xs)) from I.hok a _ ea)
  exact PySem.W.kia_one PySem.W.kitx_list I.kIn ⟨_, h1, rfl⟩ e (fun z => nomatch z) h
 | @tup a xs ea =>
  cases (show u = Value.ref a from rx)
  obtain ⟨_, _, _, p⟩ := (show Z8 X.prog X.w H s.heap a (.tup xs) from I.hok a _ ea)
  obtain ⟨o, h1, h2, _⟩ := p
  exact PySem.W.kia_one PySem.W.kitx_tuple I.kIn ⟨o, h1, h2⟩ e (fun z => nomatch z) h
 | @dK a kvs ea =>
  cases (show u = Value.ref a from rx)
  obtain ⟨_, _, vs, _, p⟩ := (show Z8 X.prog X.w H s.heap a (.dK kvs) from I.hok a _ ea)
  obtain ⟨o, es, ep, h1, h2, _⟩ := p
  exact PySem.W.kia_one PySem.W.kitx_dict I.kIn ⟨o, h1, h2.1⟩ e (fun z => nomatch z) h
 | @dT a kvs ea =>
  cases (show u = Value.ref a from rx)
  obtain ⟨_, _, xs, _, o, es, ep, h1, h2, _⟩ := (show Z8 X.prog X.w H s.heap a (.dT kvs) from I.hok a _ ea)
  exact PySem.W.kia_one PySem.W.kitx_dict I.kIn ⟨o, h1, h2.1⟩ e (fun z => nomatch z) h
 | @ins a C dx fs ea cl ha hn htk hm =>
  cases (show u = Value.ref a from rx)
  obtain ⟨mA, O, _⟩ := Zdn I.hok ea
  obtain ⟨od, J, _⟩ := O.look
  exact PySem.W.kia_one (PySem.W.kitx_own (cl.get _) cl.hd ha hn htk hm) I.kIn J e (fun z => nomatch z) h
end
end L2
namespace L2
open PySem PySem.Spec PyProof.Rows
structure Room (k : Nat) (A : Around) : Prop where
 hd : A.handled = none
 dp : A.depth + 3 * k + 5 < recursionLimit
 un : A.units + 16 * k + 200 < cLine
theorem Room.mono {j k : Nat} {A : Around} (r : Room k A) (h : j <= k) : Room j A := ⟨r.hd, by have := r.dp; omega, by have := r.un; omega⟩
theorem Room.deeper {k : Nat} {A : Around} (r : Room (k + 1) A) (env : Env) : Room k (A.deeper env) :=
 ⟨r.hd, by have := r.dp; show A.depth + 1 + 3 * k + 5 < _; omega, by have := r.un; show A.units + 3 + 16 * k + 200 < _; omega⟩
theorem Zhe {A : Around} {C : Addr} {us : List Value} {kw : List (Str × Value)} : (A.under (.builtin "type.__call__" ⟨.ref C :: us, kw⟩)).depth = A.depth + 1 := by
 first | rfl | simp [Around.under, Code.weight, Code.isCreation, Code.isGuard, Code.isCaller, Code.frames, Code.isFrame, guardIds]
theorem Zhf {A : Around} {C : Addr} {us : List Value} {kw : List (Str × Value)} : (A.under (.builtin "type.__call__" ⟨.ref C :: us, kw⟩)).units = A.units + 1 := by
 first | rfl | simp [Around.under, Code.cUnits, Code.frames, Code.isFrame]
theorem Room.make {k : Nat} {A : Around} (r : Room (k + 1) A) (C : Addr) (us : List Value) (kw : List (Str × Value)) : Room k (A.under (.builtin "type.__call__" ⟨.ref C :: us, kw⟩)) :=
 ⟨r.hd, by have := r.dp; rw [Zhe]; omega, by have := r.un; rw [Zhf]; omega⟩
theorem Room.depth {k : Nat} {A : Around} (r : Room k A) : A.depth < recursionLimit := by have := r.dp; omega
theorem Room.units {k : Nat} {A : Around} (r : Room k A) : A.units + 64 < cLine := by have := r.un; omega
def tNil : TA := fun _ H Q => Q [] H
def ZdS (ta : TE) (tr : TA) : TA := fun σ H Q => ta σ H fun x H1 => tr σ H1 fun xs H2 => Q (x :: xs) H2
section
variable {X : Cx} {e : Expr} {es : List Expr} {te : TE} {t : TA} {pos : Pos}
theorem Zbd : PA X [] tNil := fun _ _ _ _ H Q I h => Calls.spliced_nil ⟨[], H, I, .nil, h⟩
theorem Zam (ha : PE X e te) (hr : PA X es t) (hs : starEach (e :: es) X.env = (false, eval e X.env) :: starEach es X.env := by rfl) : PA X (e :: es) (ZdS te t) := by
 intro pos pins s σ H Q I h
 rw [hs]
 show wpAny _ _ (spliced ((false, eval e X.env) :: backTo pos (starEach es X.env))) _ _ s
 refine Calls.spliced_cons (thn (ha pins s σ H _ I h) fun u s1 z0 => ?_)
 obtain ⟨x, H1, I1, r1, q1⟩ := z0
 exact thn (hr pos pins s1 σ H1 _ I1 q1) fun us s2 ⟨xs, H2, I2, r2, q2⟩ => ⟨x :: xs, H2, I2, .cons r1 r2, q2⟩
def tTup (t : TA) : TE := fun σ H Q => t σ H fun xs H1 => xs.length <= sizeLine /\ ∀ p, H1 p = none -> Q (.ref p) (upd H1 p (.tup xs))
def tLst (t : TA) : TE := fun σ H Q => t σ H fun xs H1 => xs.length <= sizeLine /\ ∀ p, H1 p = none -> Q (.ref p) (upd H1 p (.lst xs))
theorem Zma {x1} (h : PA X es t) : PE X (.Tuple es x1 pos) (tTup t) := by
 intro pins s σ H Q I hq
 refine wpAny_Tuple_spliced (thn (h pos pins s σ H _ I hq) fun us s1 ⟨xs, H1, I1, r, z, q⟩ => ⟨by rw [<- r.length]; exact z, ?_⟩)
 have hf : H1 s1.heap.objs.size = none := I1.hok.fresh (Nat.le_refl _)
 refine ⟨.ref s1.heap.objs.size, upd H1 s1.heap.objs.size (.tup xs), I1.laid (t' := s1.toks) (fun b u e => Heap.get?_push_of_some _ e) (Nat.le_refl _) ?_, rfl, q _ hf⟩
 exact ⟨z, us, r, ⟨_, Heap.get?_push_size _ rfl, rfl, _, rfl⟩⟩
theorem ZhR (h : PA X es t) : PE X (.List es pos) (tLst t) := by
 intro pins s σ H Q I hq
 refine wpAny_List_spliced (thn (h pos pins s σ H _ I hq) fun us s1 ⟨xs, H1, I1, r, z, q⟩ => ⟨by rw [<- r.length]; exact z, ?_⟩)
 have hf : H1 s1.heap.objs.size = none := I1.hok.fresh (Nat.le_refl _)
 refine ⟨.ref s1.heap.objs.size, upd H1 s1.heap.objs.size (.lst xs), I1.laid (t' := s1.toks) (fun b u e => Heap.get?_push_of_some _ e) (Nat.le_refl _) ?_, rfl, q _ hf⟩
 exact ⟨z, us, 0, r, Heap.get?_push_size _ rfl⟩
end
abbrev Sp := List V -> Hp -> VK -> XK -> Prop
abbrev CXT := List Env -> Hp -> Shared -> XK -> Value -> Shared -> Prop
structure Env0 (P : Program) (w : World) (K : Fg) (mg : Str -> Option Value) (base : Heap) (A : Around) (outer : List Env) (s : Shared) (H : Hp) : Prop where
 frames : A.frames = some outer
 mod : Mod K mg base
 bs : ∀ b o, base.get? b = some o -> s.heap.get? b = some o /\ H b = none
 bsz : base.objs.size <= s.heap.objs.size
 funs : s.heap.FunFrames base outer
 frf : ∀ b ∈ frs outer, H b = none
 hok : HOk P w H s.heap
 bare : AllBare s.gens
def CE (outer : List Env) (P : Program) (w : World) (H : Hp) (s : Shared) (Q : VK) (u : Value) (s' : Shared) : Prop :=
 ∃ v H', s'.os = s.os /\ AllBare s'.gens /\ Un (frs outer) [] H H' s.heap s'.heap /\ HOk P w H' s'.heap /\ RelV v u /\ Q v H'
def CR (CX : CXT) (outer : List Env) (P : Program) (w : World) (H : Hp) (s : Shared) (Q : VK) (E : XK) (r : Result) (s' : Shared) : Prop :=
 match r with
 | .ok (.ret u) => CE outer P w H s Q u s'
 | .ok _ => False
 | .error e => CX outer H s E e s'
structure FnOk (P : Program) (w : World) (K : Fg) (mg : Str -> Option Value) (base : Heap) (CX : CXT) (k : Nat) (f : Addr) (fd : FuncData) (ps : List Str) (sp : Sp) : Prop where
 len : ∀ vs H Q E, sp vs H Q E -> vs.length = ps.length
 run : ∀ (A : Around) (outer : List Env) (s : Shared) (H : Hp) (args : Args) (us : List Value) (vs : List V) (Q : VK) (E : XK), Room k A -> Env0 P w K mg base A outer s H -> BindsTo s fd args (ps.zip us) -> Vals vs us -> sp vs H Q E ->
  codeAny (model P w) A (.call (.ref f) args) (CR CX outer P w H s Q E) s
theorem Env0.make {P : Program} {w : World} {K : Fg} {mg : Str -> Option Value} {base : Heap} {A : Around} {outer : List Env} {s : Shared} {H : Hp} (e : Env0 P w K mg base A outer s H) (C : Addr) (us : List Value) (kw : List (Str × Value)) :
 Env0 P w K mg base (A.under (.builtin "type.__call__" ⟨.ref C :: us, kw⟩)) outer s H := ⟨by first | exact e.frames | (simpa [Around.under, Code.envs, Code.isFrame, pushEnvs] using e.frames), e.mod, e.bs, e.bsz, e.funs, e.frf, e.hok, e.bare⟩
section
variable {X : Cx} {pins : List (Addr × Obj)} {σ : St} {H : Hp} {s s' : Shared}
theorem Inv.env0 (I : Inv X pins σ H s) : Env0 X.prog X.w X.K X.mg X.base X.A X.stack s H :=
 ⟨I.ok.frames, I.ok.mod, I.bs, Nat.le_trans I.ok.bsz I.sz, I.stack, I.stkFree, I.hok, I.bare⟩
theorem Inv.after {Q : VK} {u : Value} (I : Inv X pins σ H s) (h : CE X.stack X.prog X.w H s Q u s') : EP X pins σ Q u s' := by
 obtain ⟨v, H', os, bare, un, hok, r, q⟩ := h
 obtain ⟨hh, g, d, t, os'⟩ := s'
 obtain rfl : os' = s.os := os
 exact ⟨v, H', I.call (h' := hh) (g' := g) (d' := d) (t' := t) (ch := []) un hok bare (fun b z => absurd z (by simp)), r, q⟩
end
def ZjV (sp : Sp) (dvs : List V) (E : XK) (t : TA) : TE := fun σ H Q => t σ H fun vs H1 => sp (vs ++ dvs) H1 Q E
def ZjW (C : Addr) (m : Str) (sp : Sp) (dvs : List V) (E : XK) (ta : TE) (t : TA) : TE := fun σ H Q => ta σ H fun x H1 => ∃ a dx fs, x = .ref a /\ H1 a = some (.ins C dx fs) /\ fs.lookup m = none /\
 t σ H1 fun vs H2 => sp (x :: (vs ++ dvs)) H2 Q E
def ZjX (C : Addr) (sp : Sp) (dvs : List V) (E : XK) (t : TA) : TE := fun σ H Q => t σ H fun vs H1 => ∀ x dx, H1 x = none -> H1 dx = none -> dx ≠ x ->
 sp (.ref x :: (vs ++ dvs)) (upd (upd H1 dx (.own x)) x (.ins C dx [])) (fun v H2 => v = .non /\ Q (.ref x) H2) E
def Binds (K : Fg) (fd : FuncData) (ps : List Str) (ds : List Value) : Prop :=
 ∀ (s : Shared) (us : List Value), K.In s.heap -> (us ++ ds).length = ps.length -> BindsTo s fd ⟨us, []⟩ (ps.zip (us ++ ds))
theorem Binds.all {K : Fg} {fd : FuncData} {ps : List Str} (h : ∀ us : List Value, us.length = ps.length -> bindArgs fd ⟨us, []⟩ = pure (ps.zip us)) : Binds K fd ps [] := fun s us _ hl => by
 rw [List.append_nil] at hl ⊢
 exact .of_eq (h us hl)
def Passes (CX : CXT) (X : Cx) (E : XK) : Prop := ∀ (pins : List (Addr × Obj)) (σ : St) (H : Hp) (s : Shared) (e : Value) (s' : Shared), Inv X pins σ H s -> CX X.stack H s E e s' -> X.xe e s'
section
variable {X : Cx} {CX : CXT} {k : Nat} {f C : Addr} {fd : FuncData} {ps : List Str} {sp : Sp} {dvs : List V} {ds : List Value} {E : XK} {x m : Str} {p pos apos : Pos} {e o : Expr} {es : List Expr} {ta : TE} {t : TA}
theorem ZhS {pins : List (Addr × Obj)} {σ : St} {H : Hp} {s : Shared} {Q : VK} {us : List Value} {vs : List V} (F : FnOk X.prog X.w X.K X.mg X.base CX k f fd ps sp) (hr : Room k X.A) (hb : Binds X.K fd ps ds) (hd : Vals dvs ds) (hx : Passes CX X E)
 (I : Inv X pins σ H s) (r : Vals vs us) (h : sp (vs ++ dvs) H Q E) : wpAny (model X.prog X.w) X.A (call (.ref f) us) (EP X pins σ Q) X.xe s := by
 have r2 : Vals (vs ++ dvs) (us ++ ds) := r.append hd
 have hl : (us ++ ds).length = ps.length := by rw [<- r2.length]; exact F.len _ _ _ _ h
 refine wpAny_call (codeAny_mono (F.run X.A X.stack s H ⟨us, []⟩ (us ++ ds) (vs ++ dvs) Q E hr I.env0 (hb s us I.kIn hl) r2 h) fun r s' hq => ?_)
 cases r with
 | error e => exact hx pins σ H s e s' I hq
 | ok fl =>
  cases fl with
  | ret u => exact I.after hq
  | next => exact False.elim hq
  | brk => exact False.elim hq
  | cont => exact False.elim hq
theorem Zk3 (F : FnOk X.prog X.w X.K X.mg X.base CX k f fd ps sp) (hr : Room k X.A) (hg : Gl X x) (hm : X.mg x = some (.ref f)) (hk : PySem.W.keepIn X.K (.ref f) = true) (hb : Binds X.K fd ps ds) (hd : Vals dvs ds) (hx : Passes CX X E)
 (ha : PA X (e :: es) t) (hdb : (x == ("__debug__" : Str)) = false := by decide) (he : starEach (e :: es) X.env = (false, eval e X.env) :: starEach es X.env := by rfl) (hpl : (backTo pos (starEach es X.env)).any (·.1) = false := by rfl) :
 PE X (.Call (.Name x p) (e :: es) [] pos) (ZjV sp dvs E t) := by
 intro pins s σ H Q I h
 refine wpAny_Call_Name_kw (Zet I hg hm ?_ hdb)
 refine PySem.W.callWith_K (h₀ := X.base) I.ok.mod.kin hk (thn (ha pos pins s σ H _ I h) fun us s1 ⟨vs, H1, I1, r, q⟩ => ⟨I1.kIn, ?_⟩) he hpl
 exact ZhS F hr hb hd hx I1 r q
theorem Zk4 {pl : Sem Bool} (he : PE X o ta) (c : Cls X.K C) (hm : Meth X.K C m f) (F : FnOk X.prog X.w X.K X.mg X.base CX k f fd ps sp) (hr : Room k X.A) (hb : Binds X.K fd ps ds) (hd : Vals dvs ds) (hx : Passes CX X E) (ha : PA X (e :: es) t)
 (hst : starEach (e :: es) X.env = (false, eval e X.env) :: starEach es X.env := by rfl) (hpl : (backTo pos (starEach es X.env)).any (·.1) = false := by rfl)
 (ht : eval (.Call (.Attribute o m apos) (e :: es) [] pos) X.env = (do
  let ov <- eval o X.env
  standAt apos.atName
  let (f, first) <- holding [ov] (getMethod ov m pl)
  callWith pos f first (backTo pos (starEach (e :: es) X.env)) (backToKw pos (keywordEach [] X.env))) := by rfl) :
 PE X (.Call (.Attribute o m apos) (e :: es) [] pos) (ZjW C m sp dvs E ta t) := by
 intro pins s σ H Q I h
 refine PySem.W.methodCall_KW (pl := pl) (thn (he pins s σ H _ I h) fun u s1 z0 => ?_) ht
 obtain ⟨x, H1, I1, rx, a, dx, fs, ex, ea, l, q⟩ := z0
 subst ex
 obtain rfl : u = Value.ref a := rx
 refine Zhc I1 ea c hm l ?_
 refine PySem.W.callWith_K (first := [.ref a]) (h₀ := X.base) I.ok.mod.kin hm.kp (thn (ha pos pins s1 σ H1 _ I1 q) fun us s2 ⟨vs, H2, I2, r, q2⟩ => ⟨I2.kIn, ?_⟩) hst hpl
 exact ZhS (us := .ref a :: us) (vs := .ref a :: vs) F hr hb hd hx I2 (.cons rfl r) q2
structure Mk (K : Fg) (C f : Addr) : Prop where
 makes : PySem.W.makesIn K C = true
 init : PySem.W.findIn K (.ref C) "__init__" = some (some (.ref f))
 fn : PySem.W.isFn K (.ref f) = true
 kp : PySem.W.keepIn K (.ref C) = true
theorem Zja {pins : List (Addr × Obj)} {σ : St} {H : Hp} {s : Shared} {Q : VK} {us : List Value} {vs : List V} (M : Mk X.K C f) (F : FnOk X.prog X.w X.K X.mg X.base CX k f fd ps sp) (hr : Room (k + 1) X.A) (hb : Binds X.K fd ps ds) (hd : Vals dvs ds)
 (hx : Passes CX X E) (I : Inv X pins σ H s) (r : Vals vs us)
 (h : ∀ x dx, H x = none -> H dx = none -> dx ≠ x -> sp (.ref x :: (vs ++ dvs)) (upd (upd H dx (.own x)) x (.ins C dx [])) (fun v H2 => v = .non /\ Q (.ref x) H2) E) :
 wpAny (model X.prog X.w) X.A (call (.ref C) us) (EP X pins σ Q) X.xe s := by
 have hq := h (s.heap.objs.size + 1) s.heap.objs.size (I.hok.fresh (Nat.le_succ _)) (I.hok.fresh (Nat.le_refl _)) (Nat.ne_of_lt (Nat.lt_succ_self _))
 have I2 := Inv.made (C := C) I
 have r2 : Vals (V.ref (s.heap.objs.size + 1) :: (vs ++ dvs)) (Value.ref (s.heap.objs.size + 1) :: (us ++ ds)) := .cons rfl (r.append hd)
 have hl : (Value.ref (s.heap.objs.size + 1) :: us ++ ds).length = ps.length := by
  have e := r2.length
  rw [F.len _ _ _ _ hq] at e
  exact e.symm
 refine wpAny_call (ZiZ (f := f) I.kIn M.makes M.init (beq_iff_eq.mp M.fn) (codeAny_mono (F.run _ X.stack _ _ ⟨Value.ref (s.heap.objs.size + 1) :: us, []⟩ (Value.ref (s.heap.objs.size + 1) :: (us ++ ds)) _ _ E (hr.make C us [])
  (I2.env0.make C us []) (hb _ (Value.ref (s.heap.objs.size + 1) :: us) I2.kIn hl) r2 hq) fun r s' hq' => ?_))
 cases r with
 | error e => exact hx pins σ _ _ e s' I2 hq'
 | ok fl =>
  cases fl with
  | ret u =>
   obtain ⟨v, H', I3, rv, ev, q3⟩ := I2.after hq'
   subst ev
   exact ⟨rv, ⟨V.ref (s.heap.objs.size + 1), H', I3, rfl, q3⟩⟩
  | next => exact False.elim hq'
  | brk => exact False.elim hq'
  | cont => exact False.elim hq'
theorem Zk5 (M : Mk X.K C f) (F : FnOk X.prog X.w X.K X.mg X.base CX k f fd ps sp) (hr : Room (k + 1) X.A) (hg : Gl X x) (hm : X.mg x = some (.ref C)) (hb : Binds X.K fd ps ds) (hd : Vals dvs ds) (hx : Passes CX X E)
 (ha : PA X (e :: es) t) (hdb : (x == ("__debug__" : Str)) = false := by decide) (he : starEach (e :: es) X.env = (false, eval e X.env) :: starEach es X.env := by rfl) (hpl : (backTo pos (starEach es X.env)).any (·.1) = false := by rfl) :
 PE X (.Call (.Name x p) (e :: es) [] pos) (ZjX C sp dvs E t) := by
 intro pins s σ H Q I h
 refine wpAny_Call_Name_kw (Zet I hg hm ?_ hdb)
 refine PySem.W.callWith_K (h₀ := X.base) I.ok.mod.kin M.kp (thn (ha pos pins s σ H _ I h) fun us s1 ⟨vs, H1, I1, r, q⟩ => ⟨I1.kIn, ?_⟩) he hpl
 exact Zja M F hr hb hd hx I1 r q
end
def PK (X : Cx) (kws : List Keyword) (t : TA) : Prop :=
 ∀ (pos : Pos) (pins : List (Addr × Obj)) (s : Shared) (σ : St) (H : Hp) (Q : List V -> Hp -> Prop), Inv X pins σ H s -> t σ H Q -> wpAny (model X.prog X.w) X.A (evalAll ((backToKw pos (keywordEach kws X.env)).map (·.2))) (AP X pins σ Q) X.xe s
section
variable {X : Cx} {CX : CXT} {k : Nat} {f C : Addr} {fd : FuncData} {ps ks : List Str} {sp : Sp} {E : XK} {x m : Str} {p pos apos kpos : Pos} {e o : Expr} {es : List Expr} {kws : List Keyword} {te ta : TE} {t tk : TA} {nm : Option Str}
theorem Zmb : PK X [] tNil := fun _ _ _ _ H Q I h => wpAny_evalAll_nil ⟨[], H, I, .nil, h⟩
theorem Zk6 (ha : PE X e te) (hr : PK X kws t) : PK X (⟨nm, e, kpos⟩ :: kws) (ZdS te t) := by
 intro pos pins s σ H Q I h
 show wpAny _ _ (evalAll ((do let v <- eval e X.env; standAt pos; pure v) :: (backToKw pos (keywordEach kws X.env)).map (·.2))) _ _ s
 refine wpAny_evalAll_cons (wpAny_bind (thn (ha pins s σ H _ I h) fun u s1 ⟨x, H1, I1, r1, q1⟩ => wpAny_bind (wpAny_standAt (wpAny_pure ?_))))
 exact thn (hr pos pins s1 σ H1 _ I1 q1) fun us s2 ⟨xs, H2, I2, r2, q2⟩ => ⟨x :: xs, H2, I2, .cons r1 r2, q2⟩
variable {g : List Value -> List Value -> List Value} {gV : List V -> List V -> List V}
end
structure FnScope (N P : List Str) (sc : Scope) : Prop where
 kind : sc.kind = .function
 co : sc.isCoroutine = false
 gen : sc.isGenerator = false
 nd : N.Nodup
 pre : N.take P.length = P
 par : ∀ x ∈ P, sc.names.lookup x = some .local \/ sc.names.lookup x = some .cell
 nofree : ∀ y ∈ sc.names, y.2 ≠ .free
theorem ZeB {kindOf : Str -> Option NameKind} {x : Str} : ∀ {binds : List (Str × Value)} {m : Str -> Option Value}, (∀ v, (x, v) ∉ binds) -> bindL kindOf binds m x = m x
 | [], _, _ => rfl
 | (n, v) :: r, m, h => by
  unfold bindL
  rw [ZeB fun w hw => h w (List.mem_cons_of_mem _ hw)]
  split
  . have : x ≠ n := by rintro rfl; exact h v List.mem_cons_self
    simp [this]
  . rfl
theorem ZeC {kindOf : Str -> Option NameKind} {x : Str} : ∀ {binds : List (Str × Value)} {m : Str -> Option Value}, (∀ v, (x, v) ∉ binds) -> bindC kindOf binds m x = m x
 | [], _, _ => rfl
 | (n, v) :: r, m, h => by
  unfold bindC
  rw [ZeC fun w hw => h w (List.mem_cons_of_mem _ hw)]
  split
  . rfl
  . have : x ≠ n := by rintro rfl; exact h v List.mem_cons_self
    simp [this]
theorem ZeD {kindOf : Str -> Option NameKind} {x : Str} {v : Value} : ∀ {P : List Str} {vs : List Value} {i : Nat} {m : Str -> Option Value}, P.Nodup -> P[i]? = some x -> vs[i]? = some v -> kindOf x = some .local ->
 bindL kindOf (P.zip vs) m x = some v
 | [], _, _, _, _, h, _, _ => by simp at h
 | _ :: _, [], _, _, _, _, h, _ => by simp at h
 | p :: P, w :: vs, 0, m, nd, h1, h2, hk => by
  simp at h1 h2; subst h1; subst h2
  show bindL kindOf ((p, w) :: P.zip vs) m p = _
  unfold bindL
  rw [ZeB fun v hv => (List.nodup_cons.mp nd).1 (List.of_mem_zip hv).1, if_pos hk]
  simp
 | p :: P, w :: vs, i + 1, m, nd, h1, h2, hk => by
  show bindL kindOf ((p, w) :: P.zip vs) m x = _
  unfold bindL
  exact ZeD (i := i) (List.nodup_cons.mp nd).2 (by simpa using h1) (by simpa using h2) hk
theorem ZeE {kindOf : Str -> Option NameKind} {x : Str} {v : Value} : ∀ {P : List Str} {vs : List Value} {i : Nat} {m : Str -> Option Value}, P.Nodup -> P[i]? = some x -> vs[i]? = some v -> kindOf x ≠ some .local ->
 bindC kindOf (P.zip vs) m x = some v
 | [], _, _, _, _, h, _, _ => by simp at h
 | _ :: _, [], _, _, _, _, h, _ => by simp at h
 | p :: P, w :: vs, 0, m, nd, h1, h2, hk => by
  simp at h1 h2; subst h1; subst h2
  show bindC kindOf ((p, w) :: P.zip vs) m p = _
  unfold bindC
  rw [ZeC fun v hv => (List.nodup_cons.mp nd).1 (List.of_mem_zip hv).1, if_neg hk]
  simp
 | p :: P, w :: vs, i + 1, m, nd, h1, h2, hk => by
  show bindC kindOf ((p, w) :: P.zip vs) m x = _
  unfold bindC
  exact ZeE (i := i) (List.nodup_cons.mp nd).2 (by simpa using h1) (by simpa using h2) hk
noncomputable def start (N : List Str) (vs : List V) : St := vs.map some ++ List.replicate (N.length - vs.length) none
noncomputable def cxOf (CX : CXT) (P : Program) (w : World) (K : Fg) (mg : Str -> Option Value) (base : Heap) (N : List Str) (qual : Str) (scope : Scope) (f : Addr) (cd : Value) (A : Around) (outer : List Env) (s : Shared) (H : Hp) (E : XK) : Cx where
 prog := P
 w := w
 K := K
 mg := mg
 base := base
 A := A.deeper (envOfC qual scope s.heap.objs.size f cd)
 N := N
 s₀ := s
 H₀ := H
 env := envOfC qual scope s.heap.objs.size f cd
 outer := outer
 stack := envOfC qual scope s.heap.objs.size f cd :: outer
 ex := []
 calm := true
 fn := fun _ => true
 pn := []
 xe := fun e s' => wpAny (model P w) (A.deeper (envOfC qual scope s.heap.objs.size f cd)) (leaving (envOfC qual scope s.heap.objs.size f cd) e) (fun _ s'' => CX outer H s E e s'') (fun e' s'' => CX outer H s E e' s'') s'
theorem Zc9 {sc : Scope} {n : Nat} {x : Str} (h : sc.names.lookup x = some .cell) : ∃ c, (cellsFrom n sc.names []).lookup x = some c := by
 have q := PySem.W.cellsFrom_some sc.names n [] (.inl h)
 exact Option.isSome_iff_exists.mp q
theorem ZhT {CX : CXT} {P : Program} {w : World} {K : Fg} {mg : Str -> Option Value} {base : Heap} {N ps : List Str} {qual : Str} {scope : Scope} {f : Addr} {cd : Value} {A : Around} {outer : List Env} {s s1 : Shared} {H : Hp} {E : XK} {us : List Value} {vs : List V}
 (S : FnScope N ps scope) (hd : A.handled = none) (e0 : Env0 P w K mg base A outer s H) (hl : vs.length = ps.length) (r : Vals vs us)
 (x : InCallC s s.heap.objs.size (bindL (envOfC qual scope s.heap.objs.size f cd).kindOf (ps.zip us) fun _ => none) (cellsFrom (s.heap.objs.size + 1) scope.names []) (bindC (envOfC qual scope s.heap.objs.size f cd).kindOf (ps.zip us) fun _ => none) s1) :
 Inv (cxOf CX P w K mg base N qual scope f cd A outer s H E) [] (start N vs) H s1 := by
 have hpl : ps.length <= N.length := by have := congrArg List.length S.pre; rw [List.length_take] at this; omega
 obtain ⟨h1, tk, rfl, hk⟩ := x.done
 have noA : ∀ b : Addr, b ∉ (cxOf CX P w K mg base N qual scope f cd A outer s H E).ex := fun b z => absurd (show b ∈ ([] : List Addr) from z) (by simp)
 refine ⟨⟨e0.mod, S.kind, rfl, rfl, Nat.le_refl _, fun y z c h1 h2 => ?_, fun y hy => ?_, fun y c _ h => ?_, fun _ => hd, Around.frames_deeper e0.frames, .inr ⟨rfl, rfl⟩, fun b z => absurd z (noA b), e0.bs, e0.bsz, fun b _ _ => noA b, fun b z => absurd z (noA b), e0.funs, e0.frf⟩,
  rfl, e0.bare, Un.kept hk, ⟨_, x.toInCall.ns, fun i y v h1 h2 h3 => ?_⟩, fun y c h => ⟨_, x.cell y c h⟩, e0.hok.fresh (Nat.le_refl _), fun y c h => ?_, fun p hp => absurd (show p ∈ ([] : List (Addr × Obj)) from hp) (by simp), e0.hok.kept hk, ?_⟩
 . exact name_of_addr x.apart (PySem.mem_of_lookup h1) (PySem.mem_of_lookup h2)
 . have hy : scope.names.lookup y = some .cell \/ scope.names.lookup y = some .free := hy
   rcases hy with hy | hy
   . exact Zc9 hy
   . exact absurd rfl (S.nofree _ (PySem.mem_of_lookup hy))
 . exact Nat.le_of_lt (x.above y c (PySem.mem_of_lookup h))
 . have hi : i < vs.length := by
    unfold start at h2
    by_cases hi : i < vs.length
    . exact hi
    . rw [List.getElem?_append_right (by simpa using hi)] at h2
      rw [List.getElem?_replicate] at h2
      split at h2 <;> cases h2
   have ha : vs[i]? = some v := by
    unfold start at h2
    rw [List.getElem?_append_left (by simpa using hi), List.getElem?_map] at h2
    cases e : vs[i]? with
    | none => rw [e] at h2; cases h2
    | some a => rw [e] at h2; cases h2; rfl
   obtain ⟨u, hu, rv⟩ := r.get ha
   have hp : ps[i]? = some y := by
    rw [<- S.pre, List.getElem?_take_of_lt (by omega)]; exact h1
   have ndP : ps.Nodup := by rw [<- S.pre]; exact S.nd.sublist (List.take_sublist _ _)
   refine ⟨u, rv, ?_⟩
   rcases S.par y (List.mem_of_getElem? hp) with k | k
   . exact .inl ⟨k, ZeD ndP hp hu k⟩
   . obtain ⟨c, e⟩ := Zc9 (n := s.heap.objs.size + 1) k
     refine .inr ⟨.inl k, c, e, ?_⟩
     have q := x.cell y c e
     rw [ZeE ndP hp hu (by show scope.names.lookup y ≠ _; rw [k]; decide)] at q
     exact q
 . exact e0.hok.fresh (Nat.le_of_lt (x.above y c (PySem.mem_of_lookup h)))
 . unfold start
   show _ = N.length
   rw [List.length_append, List.length_map, List.length_replicate]
   omega
theorem Zob {CX : CXT} {P : Program} {w : World} {K : Fg} {mg : Str -> Option Value} {base : Heap} {k : Nat} {f : Addr} {name qual : Str} {params : Arguments} {body : List Stmt} {scope : Scope} {dV kV doc pm cdv ct oc : Value} {an od : Option Addr}
 {osl : Array (Option Value)} {N ps : List Str} {sp : Sp} (lk : K.lookup f = some ⟨oc, od, .func (PySem.W.fnOf name qual params body scope dV kV doc pm an cdv ct), osl⟩) (hcd : PySem.W.codeIn K cdv qual = true) (S : FnScope N ps scope)
 (len : ∀ vs H Q E, sp vs H Q E -> vs.length = ps.length)
 (hbody : ∀ (A : Around) (outer : List Env) (s : Shared) (H : Hp) (vs : List V) (Q : VK) (E : XK), Room k (A.deeper (envOfC qual scope s.heap.objs.size f cdv)) -> sp vs H Q E ->
  ∃ t, PSs (cxOf CX P w K mg base N qual scope f cdv A outer s H E) body t /\ t { nx := fun _ H' => Q .non H', rt := Q } (start N vs) H) :
 FnOk P w K mg base CX (k + 1) f (PySem.W.fnOf name qual params body scope dV kV doc pm an cdv ct) ps sp := by
 refine ⟨len, fun A outer s H args us vs Q E hr e0 hb r hsp => ?_⟩
 have hl := len _ _ _ _ hsp
 have KX : K.In s.heap := e0.mod.kin.keeps fun b o e => (e0.bs b o e).1
 have lim : s.heap.NoLimit := e0.mod.nolimit.keeps fun b o e => (e0.bs b o e).1
 have hkind : ∀ y ∈ ps.zip us, scope.names.lookup y.1 = some .local \/ (scope.names.lookup y.1 = some .cell /\ ((cellsFrom (s.heap.objs.size + 1) scope.names []).lookup y.1).isSome = true) := fun ⟨n, v⟩ hy => by
  rcases S.par n (List.of_mem_zip hy).1 with q | q
  . exact .inl q
  . exact .inr ⟨q, PySem.W.cellsFrom_some _ _ _ (.inl q)⟩
 refine codeAny_call_function hr.depth (KX _ _ lk) rfl S.co S.gen rfl (PySem.W.codeRec_of KX hcd) (hb _ _ _ _ ?_)
 refine wpAny_newFunctionEnv_cells S.kind hkind fun env he s1 x => ?_
 subst he
 refine ⟨lim.keeps x.toInCall.keep, codeAny_func ?_⟩
 obtain ⟨t, ht, hq⟩ := hbody A outer s H vs Q E (hr.deeper _) hsp
 have I : Inv (cxOf CX P w K mg base N qual scope f cdv A outer s H E) [] (start N vs) H s1 := ZhT S hr.hd e0 hl r x
 refine wpAny_mono (ht [] s1 (start N vs) H _ I hq) (fun fl s' hs => ?_) fun e s' hs => hs
 have fin : ∀ {σ' : St} {H' : Hp} {v : V} {u : Value}, Inv (cxOf CX P w K mg base N qual scope f cdv A outer s H E) [] σ' H' s' -> RelV v u -> Q v H' -> CE outer P w H s Q u s' :=
  fun {σ' H' v u} J rv q => ⟨v, H', J.os, J.bare, J.base, J.hok, rv, q⟩
 cases fl with
 | ret u =>
  obtain ⟨v, σ', H', J, rv, q⟩ := hs
  exact fin J rv q
 | next =>
  obtain ⟨σ', H', J, q⟩ := hs
  exact fin (v := V.non) (u := Value.none) J rfl q
 | brk =>
  obtain ⟨_, _, _, q⟩ := hs
  exact False.elim q
 | cont =>
  obtain ⟨_, _, _, q⟩ := hs
  exact False.elim q
end L2
namespace L2
open PySem PySem.Spec PyProof.Rows
section
variable {X : Cx} {x : Str} {p pos : Pos} {e : Expr} {es : List Expr} {t : TA} {id T : String} {r : List V -> Hp -> VK -> Prop}
def tCB (r : List V -> Hp -> VK -> Prop) (t : TA) : TE := fun σ H Q => t σ H fun vs H1 => r vs H1 Q
theorem Zfn (hc : ZD X (.builtin id) r) (hg : Gl X x) (hm : X.mg x = none) (hv : bootBuiltins x = some (.builtin id)) (ha : PA X (e :: es) t) (hn : x ≠ "__name__" := by decide) (hdb : (x == ("__debug__" : Str)) = false := by decide)
 (he : starEach (e :: es) X.env = (false, eval e X.env) :: starEach es X.env := by rfl) (hpl : (backTo pos (starEach es X.env)).any (·.1) = false := by rfl) : PE X (.Call (.Name x p) (e :: es) [] pos) (tCB r t) := by
 intro pins s σ H Q I h
 refine wpAny_Call_Name_kw (ZaQ I hg hm hv ?_ hn hdb)
 exact PyProof.Rows.callWith_builtin1 (thn (ha pos pins s σ H _ I h) fun us s1 ⟨vs, H1, I1, r1, q1⟩ => hc pins s1 σ H1 vs us Q I1 r1 q1) he hpl
theorem ZhU (hc : ZD X (.type T) r) (hg : Gl X x) (hm : X.mg x = none) (hv : bootBuiltins x = some (.type T)) (ha : PA X (e :: es) t) (hn : x ≠ "__name__" := by decide) (hdb : (x == ("__debug__" : Str)) = false := by decide)
 (he : starEach (e :: es) X.env = (false, eval e X.env) :: starEach es X.env := by rfl) (hpl : (backTo pos (starEach es X.env)).any (·.1) = false := by rfl) : PE X (.Call (.Name x p) (e :: es) [] pos) (tCB r t) := by
 intro pins s σ H Q I h
 refine wpAny_Call_Name_kw (ZaQ I hg hm hv ?_ hn hdb)
 exact PyProof.Rows.callWith_type1 (thn (ha pos pins s σ H _ I h) fun us s1 ⟨vs, H1, I1, r1, q1⟩ => hc pins s1 σ H1 vs us Q I1 r1 q1) he hpl
end
end L2
namespace HT
open PySem PyProof.Rows
section
variable {prog : Program} {w : World} {A : Around} {E : Value -> Shared -> Prop} {s : Shared}
noncomputable def sIx (n d : Nat) : Option Int -> Nat
 | none => d
 | some v => if v < 0 then (v + (n : Int)).toNat else min v.toNat n
theorem Zdo (n d k : Nat) : sIx n d (some (k : Int)) = min k n := by
 show (if (k : Int) < 0 then ((k : Int) + (n : Int)).toNat else min (k : Int).toNat n) = min k n
 rw [if_neg (by omega), Int.toNat_natCast]
end
end HT
namespace L2
open PySem PySem.Spec PyProof.Rows
abbrev TO := St -> Hp -> (Option Int -> Hp -> Prop) -> Prop
def PO (X : Cx) (e : Option Expr) (t : TO) : Prop :=
 ∀ (pins : List (Addr × Obj)) (s : Shared) (σ : St) (H : Hp) (Q : Option Int -> Hp -> Prop), Inv X pins σ H s -> t σ H Q ->
  wpAny (model X.prog X.w) X.A (evalPart e X.env) (fun u s' => ∃ o H', Inv X pins σ H' s' /\ IsPart u o /\ Q o H') X.xe s
noncomputable def Zk7 : TO := fun _ H Q => Q none H
noncomputable def Zoc (t : TE) : TO := fun σ H Q => t σ H fun x H1 => ∃ i, x = .int i /\ Q (some i) H1
section
variable {X : Cx} {e : Expr} {te : TE} {lo hi : Option Expr} {tl th : TO} {pos p2 : Pos}
theorem Zk8 : PO X none Zk7 := by
 intro pins s σ H Q I h
 rw [evalPart_none]
 exact wpAny_pure ⟨none, H, I, .none, h⟩
theorem Zk9 (h : PE X e te) : PO X (some e) (Zoc te) := by
 intro pins s σ H Q I hw
 rw [evalPart_some]
 refine thn (h pins s σ H _ I hw) fun u s1 z0 => ?_
 obtain ⟨x, H1, I1, r1, q1⟩ := z0
 obtain ⟨i, rfl, q⟩ := q1
 obtain ⟨t, rfl⟩ := r1
 exact ⟨some i, H1, I1, .int i t, q⟩
def SlR (X : Cx) (r : V -> Option Int -> Option Int -> Hp -> VK -> Prop) : Prop :=
 ∀ (pins : List (Addr × Obj)) (s : Shared) (σ : St) (H : Hp) (x : V) (v vl vu : Value) (lo hi : Option Int) (sl : Addr) (Q : VK), Inv X pins σ H s -> RelV x v -> s.heap.IsSliceOf sl vl vu .none -> IsPart vl lo -> IsPart vu hi -> r x lo hi H Q ->
  ∃ T id, typeLookup (.type T) "__getitem__" = pure (some (.builtin id)) /\ s.TypeIs v T /\ wpAny (model X.prog X.w) X.A (getItem v (.ref sl)) (EP X pins σ Q) X.xe s
def tSl (r : V -> Option Int -> Option Int -> Hp -> VK -> Prop) (te : TE) (tl th : TO) : TE := fun σ H Q => te σ H fun x H1 => tl σ H1 fun l H2 => th σ H2 fun u H3 => r x l u H3 Q
theorem Zjb {r : V -> Option Int -> Option Int -> Hp -> VK -> Prop} (hr : SlR X r) (he : PE X e te) (hl : PO X lo tl) (hu : PO X hi th) : PE X (.Subscript e (.Slice lo hi none p2) pos) (tSl r te tl th) := by
 intro pins s σ H Q I h
 refine Subscript_ (thn (he pins s σ H _ I h) fun v s1 z0 => ?_)
 obtain ⟨x, H1, I1, r1, q1⟩ := z0
 refine wpAny_Slice (thn (hl pins s1 σ H1 _ I1 q1) fun vl s2 ⟨l, H2, I2, pl, q2⟩ => thn (hu pins s2 σ H2 _ I2 q2) fun vu s3 ⟨u, H3, I3, pu, q3⟩ => ?_)
 rw [evalPart_none]
 refine wpAny_pure ?_
 have I4 : Inv X pins σ H3 { s3 with heap := s3.heap.push { cls := .type "slice", data := .fields #[vl, vu, .none] } } := I3.kept (t' := s3.toks) fun b ob q => Heap.get?_push_of_some _ q
 obtain ⟨T, id, hT, ht, hg⟩ := hr pins { s3 with heap := s3.heap.push { cls := .type "slice", data := .fields #[vl, vu, .none] } } σ H3 x v vl vu l u s3.heap.objs.size Q I4 r1 (Heap.IsSliceOf.new ..) pl pu q3
 show wpAny (model X.prog X.w) X.A (subscriptTail e (.Slice lo hi none p2) v (.ref s3.heap.objs.size)) (EP X pins σ Q) X.xe { s3 with heap := s3.heap.push { cls := .type "slice", data := .fields #[vl, vu, .none] } }
 exact tail_any (ops := [.ref s3.heap.objs.size, v]) ht hT hg (by with_unfolding_all rfl)
noncomputable def cutV (xs : List V) (lo hi : Option Int) : List V := (xs.drop (HT.sIx xs.length 0 lo)).take (HT.sIx xs.length xs.length hi - HT.sIx xs.length 0 lo)
theorem Zgf (xs : List V) (lo hi : Option Int) : (cutV xs lo hi).length <= xs.length := by
 unfold cutV
 rw [List.length_take, List.length_drop]
 omega
end
end L2
namespace L2
open PySem PySem.Spec PyProof.Rows
noncomputable def ixN (n : Nat) (i : Int) : Option Nat := if 0 <= i then (if i < n then some i.toNat else none) else if -(n : Int) <= i then some (i + n).toNat else none
noncomputable def atI {α : Type} (xs : List α) (i : Int) : Option α := (ixN xs.length i).bind fun j => xs[j]?
theorem Zg1 {n : Nat} {i : Int} {j : Nat} (h : ixN n i = some j) : seqIndex? i n = some j /\ j < n /\ -(n : Int) <= i /\ i < n := by
 unfold ixN at h
 by_cases h0 : 0 <= i
 . rw [if_pos h0] at h
   by_cases h1 : i < n
   . rw [if_pos h1] at h
     have e : i.toNat = j := Option.some.inj h
     exact ⟨by rw [seqIndex_of h0 h1, e], by omega, by omega, h1⟩
   . rw [if_neg h1] at h; cases h
 . rw [if_neg h0] at h
   by_cases h1 : -(n : Int) <= i
   . rw [if_pos h1] at h
     have e : (i + n).toNat = j := Option.some.inj h
     exact ⟨by rw [seqIndex_neg (by omega) h1, e], by omega, h1, by omega⟩
   . rw [if_neg h1] at h; cases h
theorem Zeu {α : Type} {xs : List α} {i : Int} {v : α} (h : atI xs i = some v) : ∃ j, seqIndex? i xs.length = some j /\ xs[j]? = some v /\ j < xs.length /\ -(xs.length : Int) <= i /\ i < xs.length := by
 unfold atI at h
 cases e : ixN xs.length i with
 | none => rw [e] at h; cases h
 | some j =>
  rw [e] at h
  obtain ⟨h1, h2, h3, h4⟩ := Zg1 e
  exact ⟨j, h1, h, h2, h3, h4⟩
def Zev (b : Expr) : Prop := ∀ o i, subscripted b false o i = operate [o, i] (getItem o i)
def IxR (X : Cx) (r : R2) : Prop :=
 ∀ (value slice : Expr) (pins : List (Addr × Obj)) (s : Shared) (σ : St) (H : Hp) (x y : V) (v u : Value) (Q : VK), Inv X pins σ H s -> RelV x v -> RelV y u -> r x y H Q ->
  subscripted slice false v u = operate [v, u] (getItem v u) -> wpAny (model X.prog X.w) X.A (subscriptTail value slice v u) (EP X pins σ Q) X.xe s
def MtR (X : Cx) (id : String) (r : V -> List V -> Hp -> VK -> Prop) : Prop :=
 ∀ (pins : List (Addr × Obj)) (s : Shared) (σ : St) (H : Hp) (x : V) (xs : List V) (v : Value) (us : List Value) (Q : VK), Inv X pins σ H s -> RelV x v -> Vals xs us -> r x xs H Q ->
  wpAny (model X.prog X.w) X.A (call (.builtin id) (v :: us)) (EP X pins σ Q) X.xe s
section
variable {X : Cx} {a b : Expr} {ta tb : TE} {pos : Pos}
theorem ZjY {r : R2} (hr : IxR X r) (ha : PE X a ta) (hb : PE X b tb) (hs : Zev b) : PE X (.Subscript a b pos) (tOp r ta tb) := by
 intro pins s σ H Q I h
 exact Subscript_ (binT ha hb I h fun v u s2 x y H2 I2 rx ry q => hr a b pins s2 σ H2 x y v u Q I2 rx ry q (hs _ _))
def rIxL (K : Fg) : R2 := fun x y H Q => ∃ p xs i v, x = .ref p /\ y = .int i /\ SqL K H p xs /\ atI xs i = some v /\ Q v H
def rIxT (K : Fg) : R2 := fun x y H Q => ∃ p xs i v, x = .ref p /\ y = .int i /\ SqT K H p xs /\ atI xs i = some v /\ Q v H
def rIxS : R2 := fun x y H Q => ∃ z i c, x = .str z /\ y = .int i /\ z.length <= sizeLine /\ atI z.cps.toList i = some c /\ Q (.str ⟨#[c]⟩) H
theorem Zew : IxR X (rIxL X.K) := by
 intro value slice pins s σ H x y v u Q I rx ry h hs
 obtain ⟨p, xs, i, z, rfl, rfl, hq, he, q⟩ := h
 cases rx
 obtain ⟨t, rfl⟩ := ry
 obtain ⟨its, r, pl, hz⟩ := I.list hq
 obtain ⟨j, h1, h2, h3, h4, h5⟩ := Zeu he
 obtain ⟨w, ew, rw'⟩ := r.get h2
 have hl := r.length
 have hn := ZbZ
 have fin : EP X pins σ Q w s := ⟨z, H, I, rw', q⟩
 by_cases h0 : 0 <= i
 . have hj : i.toNat = j := by
    rw [seqIndex_of h0 h5] at h1
    exact Option.some.inj h1
   exact item_listR pl.isList h0 (by omega) (by rw [hj]; simpa using ew) fin hs
 . have hj : (i + (its.toArray.size : Int)).toNat = j := by
    rw [seqIndex_neg (by omega) h4] at h1
    rw [List.size_toArray, <- hl]
    exact Option.some.inj h1
   exact subscriptTail_builtinR (x := w) pl.isList.typeIs slot_list_getitem.lookup
    (wpAny_getItem_list_neg (Q := fun r s' => r = w /\ EP X pins σ Q r s') pl.isList (by omega) (by rw [List.size_toArray] <;> omega) (by omega) (by rw [hj]; simpa using ew) ⟨rfl, fin⟩) hs
theorem ZhV : IxR X (rIxT X.K) := by
 intro value slice pins s σ H x y v u Q I rx ry h hs
 obtain ⟨p, xs, i, z, rfl, rfl, hq, he, q⟩ := h
 cases rx
 obtain ⟨t, rfl⟩ := ry
 obtain ⟨its, r, pl, hz⟩ := I.tuple hq
 obtain ⟨j, h1, h2, h3, h4, h5⟩ := Zeu he
 obtain ⟨w, ew, rw'⟩ := r.get h2
 have hl := r.length
 have hn := ZbZ
 have fin : EP X pins σ Q w s := ⟨z, H, I, rw', q⟩
 exact subscriptTail_builtinR (x := w) pl.typeIs slot_tuple_getitem.lookup
  (getItem_tuple (j := j) (Q := fun r s' => r = w /\ EP X pins σ Q r s') pl (by omega) (by omega) (by rw [List.size_toArray, <- hl]; exact h1) (by simpa using ew) ⟨rfl, fin⟩) hs
theorem Zmc : IxR X rIxS := by
 intro value slice pins s σ H x y v u Q I rx ry h hs
 obtain ⟨z, i, c, rfl, rfl, hz, he, q⟩ := h
 obtain ⟨t, rfl⟩ := rx
 obtain ⟨t', rfl⟩ := ry
 obtain ⟨j, h1, h2, h3, h4, h5⟩ := Zeu he
 have hl : z.cps.toList.length = z.length := by simp [Str.length]
 rw [hl] at h1 h4 h5
 have hn := ZbZ
 exact tail_any (typeIs_str s z t) slot_str_getitem.lookup (getItem_str (c := c) (by
  have e1 : decide (i < -(2 ^ 63 : Int)) = false := decide_eq_false (by omega)
  have e2 : decide (i ≥ 2 ^ 63) = false := decide_eq_false (by omega)
  rw [e1, e2, Bool.or_false]) (by rw [h1]; simpa using h2) ⟨.str ⟨#[c]⟩, H, I.tok _, ⟨_, rfl⟩, q⟩) hs
theorem Zhg (its : List Value) (n j : Nat) (u : Value) : Obj.mapSeq (·.setIfInBounds j u) { cls := .type "list", data := .seq its.toArray n } = { cls := .type "list", data := .seq (its.set j u).toArray n } := by
 simp [Obj.mapSeq]
theorem Inv.lst {pins : List (Addr × Obj)} {σ : St} {H : Hp} {s : Shared} {p : Addr} {xs : List V} (I : Inv X pins σ H s) (h : H p = some (.lst xs)) :
 ∃ (its : List Value) (n : Nat), Vals xs its /\ s.heap.get? p = some { cls := .type "list", data := .seq its.toArray n } /\ xs.length <= sizeLine := by
 obtain ⟨z, its, n, r, e⟩ := I.hok p _ h
 exact ⟨its, n, r, e, z⟩
theorem Inv.lstUpd {pins : List (Addr × Obj)} {σ : St} {H : Hp} {s : Shared} {p : Addr} {xs ys : List V} {its its' : List Value} {n n' : Nat} {f : Obj -> Obj} (I : Inv X pins σ H s) (h : H p = some (.lst xs))
 (ho : s.heap.get? p = some { cls := .type "list", data := .seq its.toArray n }) (hf : f { cls := .type "list", data := .seq its.toArray n } = { cls := .type "list", data := .seq its'.toArray n' }) (r : Vals ys its') (hz : ys.length <= sizeLine) (t : Nat) :
 Inv X pins σ (upd H p (.lst ys)) { s with heap := s.heap.update p f, toks := t } := by
 have e : (s.heap.update p f).get? p = some { cls := .type "list", data := .seq its'.toArray n' } := by
  rw [Heap.get?_update_self f ho (by rw [hf] <;> rfl), hf]
 refine I.write (x := p) (e := p) (by rw [h]; trivial) (.inl rfl) (fun b u hb q => (Heap.get?_update_other _ _ (Ne.symm hb)).trans q) ⟨_, e⟩ ?_
 exact ⟨hz, its', n', r, e⟩
def ZjZ : V -> V -> V -> Hp -> (Hp -> Prop) -> Prop := fun o i v H Q => ∃ p xs k j, o = .ref p /\ i = .int k /\ H p = some (.lst xs) /\ ixN xs.length k = some j /\ Q (upd H p (.lst (xs.set j v)))
theorem Zfo : PSet X ZjZ := by
 intro pins s σ H o i v ov iv u Q I ro ri rv h
 obtain ⟨p, xs, k, j, rfl, rfl, hp, hj, q⟩ := h
 cases ro
 obtain ⟨t, rfl⟩ := ri
 obtain ⟨its, n, r, ho, hz⟩ := I.lst hp
 obtain ⟨h1, h2, h3, h4⟩ := Zg1 hj
 have hl := r.length
 have hn := ZbZ
 have I' : Inv X pins σ (upd H p (.lst (xs.set j v))) { s with heap := s.heap.update p (Obj.mapSeq (·.setIfInBounds j u)) } :=
  I.lstUpd hp ho (Zhg its n j u) (r.set rv j) (by rw [List.length_set]; exact hz) s.toks
 by_cases h0 : 0 <= k
 . have hk : k.toNat = j := by
    rw [seqIndex_of h0 h4] at h1
    exact Option.some.inj h1
   exact PySem.W.ki_setAt ho h0 (by omega) (by rw [List.size_toArray, <- hl]; exact h4) (by rw [hk]; exact ⟨_, I', q⟩)
 . have hk : (k + (its.toArray.size : Int)).toNat = j := by
    rw [seqIndex_neg (by omega) h3] at h1
    rw [List.size_toArray, <- hl]
    exact Option.some.inj h1
   exact PySem.W.ki_setBack ho (by omega) (by rw [List.size_toArray, <- hl]; exact h3) (by omega) (by rw [hk]; exact ⟨_, I', q⟩)
theorem Zfp (lo hi : Option Int) (n : Nat) : (sliceBounds lo hi none n).1 = ((HT.sIx n 0 lo : Nat) : Int) /\ (sliceBounds lo hi none n).2.1 = ((HT.sIx n n hi : Nat) : Int) /\ (sliceBounds lo hi none n).2.2 = 1 := by
 refine ⟨?_, ?_, rfl⟩
 . cases lo with
   | none => simp [sliceBounds, HT.sIx]
   | some i =>
    simp only [sliceBounds, HT.sIx, Option.getD_none, show (1 : Int) > 0 by decide, if_true]
    by_cases h : i < 0
    . simp only [h, if_true] <;> omega
    . simp only [h, if_false] <;> omega
 . cases hi with
   | none => simp [sliceBounds, HT.sIx]
   | some i =>
    simp only [sliceBounds, HT.sIx, Option.getD_none, show (1 : Int) > 0 by decide, if_true]
    by_cases h : i < 0
    . simp only [h, if_true] <;> omega
    . simp only [h, if_false] <;> omega
theorem ZeY (its : List Value) (lo hi : Option Int) : slicePick its.toArray lo hi none = ((its.drop (HT.sIx its.length 0 lo)).take (HT.sIx its.length its.length hi - HT.sIx its.length 0 lo)).toArray := by
 obtain ⟨h1, h2, h3⟩ := Zfp lo hi its.toArray.size
 unfold slicePick
 rw [h1, h2, h3]
 simp only [sliceRange_one, pick_run, List.size_toArray] <;> rfl
def rSlL (K : Fg) : V -> Option Int -> Option Int -> Hp -> VK -> Prop := fun x lo hi H Q => ∃ a xs, x = .ref a /\ SqL K H a xs /\ ∀ p, H p = none -> Q (.ref p) (upd H p (.lst (cutV xs lo hi)))
theorem Zg2 : SlR X (rSlL X.K) := by
 intro pins s σ H x v vl vu lo hi sl Q I rx hs pl pu h
 obtain ⟨a, xs, rfl, hx, q⟩ := h
 cases rx
 obtain ⟨its, r, ht, hz⟩ := I.list hx
 have hlen := r.length
 refine ⟨"list", _, slot_list_getitem.lookup, ht.isList.typeIs, ?_⟩
 refine wpAny_getItem_list_slice ht.isList hs pl pu .none (by simp) ?_ (by rw [List.size_toArray] <;> omega)
 rw [ZeY, <- hlen]
 refine ⟨.ref s.heap.objs.size, _, I.laid (t' := s.toks) (o := .lst (cutV xs lo hi)) (fun b ob q => Heap.get?_push_of_some _ q) (Nat.le_refl _) ?_, rfl, q _ (I.hok.fresh (Nat.le_refl _))⟩
 exact ⟨Nat.le_trans (Zgf xs lo hi) hz, _, 0, (r.drop (HT.sIx xs.length 0 lo)).take (HT.sIx xs.length xs.length hi - HT.sIx xs.length 0 lo), Heap.get?_push_size _ rfl⟩
noncomputable def Zb3 : V -> Bool
 | .non => true
 | .bl _ => true
 | .int _ => true
 | .str _ => true
 | _ => false
noncomputable def eqV : V -> V -> Bool
 | .non, .non => true
 | .bl a, .bl b => a == b
 | .bl a, .int b => (if a then 1 else 0) == b
 | .int a, .bl b => a == (if b then 1 else 0)
 | .int a, .int b => a == b
 | .str a, .str b => a == b
 | _, _ => false
theorem Zmd {A : Around} {s : Shared} {y x : V} {u v : Value} (ry : RelV y u) (rx : RelV x v) (fy : Zb3 y = true) (fx : Zb3 x = true) : SeqAt.EqAt A s u v (eqV y x) := by
 cases y with
 | non =>
  cases ry
  cases x with
  | non => cases rx; exact SeqAt.EqAt.same _
  | bl b => cases rx; exact SeqAt.EqAt.none_bool b
  | int b => obtain ⟨t, rfl⟩ := rx; exact SeqAt.EqAt.none_int b t
  | str b => obtain ⟨t, rfl⟩ := rx; exact SeqAt.EqAt.none_str b t
  | _ => exact absurd (show false = true from fx) Bool.false_ne_true
 | bl a =>
  cases ry
  cases x with
  | non => cases rx; exact SeqAt.EqAt.bool_none a
  | bl b => cases rx; exact SeqAt.EqAt.bool_bool a b
  | int b => obtain ⟨t, rfl⟩ := rx; exact SeqAt.EqAt.bool_int a b t
  | str b => obtain ⟨t, rfl⟩ := rx; exact SeqAt.EqAt.bool_str a b t
  | _ => exact absurd (show false = true from fx) Bool.false_ne_true
 | int a =>
  obtain ⟨t', rfl⟩ := ry
  cases x with
  | non => cases rx; exact SeqAt.EqAt.int_none a t'
  | bl b => cases rx; exact SeqAt.EqAt.int_bool a t' b
  | int b => obtain ⟨t, rfl⟩ := rx; exact SeqAt.EqAt.int_int a t' b t
  | str b => obtain ⟨t, rfl⟩ := rx; exact SeqAt.EqAt.int_str a t' b t
  | _ => exact absurd (show false = true from fx) Bool.false_ne_true
 | str a =>
  obtain ⟨t', rfl⟩ := ry
  cases x with
  | non => cases rx; exact SeqAt.EqAt.str_none a t'
  | bl b => cases rx; exact SeqAt.EqAt.str_bool a t' b
  | int b => obtain ⟨t, rfl⟩ := rx; exact SeqAt.EqAt.str_int a t' b t
  | str b => obtain ⟨t, rfl⟩ := rx; exact SeqAt.EqAt.str_str a t' b t
  | _ => exact absurd (show false = true from fx) Bool.false_ne_true
 | _ => exact absurd (show false = true from fy) Bool.false_ne_true
noncomputable def eqU (x : V) (u : Value) : Bool := match u with
 | .none => eqV .non x
 | .bool b => eqV (.bl b) x
 | .int i _ => eqV (.int i) x
 | .str z _ => eqV (.str z) x
 | _ => false
theorem ZhW {x y : V} {u : Value} (r : RelV y u) (f : Zb3 y = true) : eqU x u = eqV y x := by
 cases y with
 | non => cases r; rfl
 | bl b => cases r; rfl
 | int i => obtain ⟨t, rfl⟩ := r; rfl
 | str z => obtain ⟨t, rfl⟩ := r; rfl
 | _ => exact absurd (show false = true from f) Bool.false_ne_true
theorem Zex {x : V} : ∀ {xs : List V} {us : List Value}, Vals xs us -> xs.all Zb3 = true -> us.any (eqU x) = xs.any fun y => eqV y x
 | _, _, .nil, _ => rfl
 | y :: xs, u :: us, .cons r t, f => by
  rw [List.all_cons, Bool.and_eq_true] at f
  rw [List.any_cons, List.any_cons, ZhW r f.1, Zex t f.2]
termination_by structural a => a
theorem ZdD {A : Around} {s : Shared} {x : V} {v : Value} (rx : RelV x v) (fx : Zb3 x = true) : ∀ {xs : List V} {us : List Value}, Vals xs us -> xs.all Zb3 = true -> ∀ u ∈ us, SeqAt.EqAt A s u v (eqU x u)
 | _, _, .nil, _ => fun u hu => by cases hu
 | y :: xs, u :: us, .cons r t, f => fun u' hu => by
  rw [List.all_cons, Bool.and_eq_true] at f
  rcases List.mem_cons.mp hu with rfl | hu
  . rw [ZhW r f.1]; exact Zmd r rx f.1 fx
  . exact ZdD rx fx t f.2 u' hu
noncomputable def inV (x : V) (xs : List V) : Bool := xs.any fun y => eqV y x
def rIn (K : Fg) (neg : Bool) : R2 := fun x y H Q => ∃ p xs, y = .ref p /\ (SqL K H p xs \/ SqT K H p xs) /\ Zb3 x = true /\ xs.all Zb3 = true /\ Q (.bl (if neg then !inV x xs else inV x xs)) H
theorem Zfq : OpR X (compareOp .NotIn) (rIn X.K true) := by
 intro pins s σ H x y v u Q I rx ry h
 obtain ⟨p, xs, rfl, hq, fx, fs, q⟩ := h
 cases ry
 rcases hq with hq | hq
 . obtain ⟨its, r, pl, hz⟩ := I.list hq
   refine SeqAt.notIn_listAt (eqU x) pl.isList (fun w hw => ZdD rx fx r fs w (by simpa using hw)) ⟨.bl _, H, I, rfl, ?_⟩
   rw [show its.toArray.any (eqU x) = its.any (eqU x) by simp, Zex r fs]
   exact q
 . obtain ⟨its, r, pl, hz⟩ := I.tuple hq
   refine SeqAt.notIn_tupleAt (eqU x) pl (fun w hw => ZdD rx fx r fs w (by simpa using hw)) ⟨.bl _, H, I, rfl, ?_⟩
   rw [show its.toArray.any (eqU x) = its.any (eqU x) by simp, Zex r fs]
   exact q
theorem Zbe : ZD X (.builtin "len") (fun xs H Q => ∃ p ys, xs = [.ref p] /\ (SqL X.K H p ys \/ SqT X.K H p ys) /\ Q (.int ys.length) H) := by
 intro pins s σ H xs us Q I r h
 obtain ⟨p, ys, rfl, hq, q⟩ := h
 obtain ⟨u, rfl, rx⟩ := Zdm r
 cases rx
 have hn := ZbZ
 rcases hq with hq | hq
 . obtain ⟨its, r', pl, hz⟩ := I.list hq
   have hlen := r'.length
   exact Calls.call_len_list pl.isList (by simp only [List.size_toArray] <;> omega) ⟨.int ys.length, H, I.tok _, ⟨s.toks + 1, by rw [List.size_toArray, hlen]⟩, q⟩
 . obtain ⟨its, r', pl, hz⟩ := I.tuple hq
   have hlen := r'.length
   exact len_tuple pl (by simp only [List.size_toArray] <;> omega) ⟨.int ys.length, H, I.tok _, ⟨s.toks + 1, by rw [List.size_toArray, hlen]⟩, q⟩
theorem Zfr : ZD X (.builtin "len") (fun xs H Q => ∃ z, xs = [.str z] /\ z.length <= sizeLine /\ Q (.int z.length) H) := by
 intro pins s σ H xs us Q I r h
 obtain ⟨z, rfl, hz, q⟩ := h
 obtain ⟨u, rfl, t, rfl⟩ := Zdm r
 have hn := ZbZ
 exact len_str (by omega) ⟨.int z.length, H, I.tok _, ⟨_, rfl⟩, q⟩
theorem Zbf : ZD X (.type "list") (fun xs H Q => ∃ p ys, xs = [.ref p] /\ (SqL X.K H p ys \/ SqT X.K H p ys) /\ ∀ l, H l = none -> Q (.ref l) (upd H l (.lst ys))) := by
 intro pins s σ H xs us Q I r h
 obtain ⟨p, ys, rfl, hq, q⟩ := h
 obtain ⟨u, rfl, rx⟩ := Zdm r
 cases rx
 have fin : ∀ (its : List Value), Vals ys its -> ys.length <= sizeLine -> ∀ (h' : Heap) (c' : Nat), (∀ b o', s.heap.get? b = some o' -> h'.get? b = some o') ->
  h'.get? s.heap.objs.size = some { cls := .type "list", dict := none, data := .seq its.toArray c', slots := #[] } -> EP X pins σ Q (.ref s.heap.objs.size) { s with heap := h' } := fun its r' hz h' c' kp e =>
  ⟨.ref s.heap.objs.size, _, I.laid (t' := s.toks) kp (Nat.le_refl _) (show Z8 X.prog X.w _ h' _ (.lst ys) from ⟨hz, its, c', r', e⟩), rfl, q _ (I.hok.fresh (Nat.le_refl _))⟩
 rcases hq with hq | hq
 . obtain ⟨its, r', pl, hz⟩ := I.list hq
   have hlen := r'.length
   obtain ⟨o, ho, hc, n, hd⟩ := pl.isList
   exact call_list_seq p (.inl rfl) ho hc hd (fun h' c' kp e => fin its r' hz h' c' kp e) (by simp only [List.size_toArray] <;> omega)
 . obtain ⟨its, r', pl, hz⟩ := I.tuple hq
   have hlen := r'.length
   obtain ⟨o, ho, hc, n, hd⟩ := pl
   exact call_list_seq p (.inr rfl) ho hc hd (fun h' c' kp e => fin its r' hz h' c' kp e) (by simp only [List.size_toArray] <;> omega)
def tyV (K : Fg) (T : String) (x : V) (H : Hp) : Prop := match x with
 | .str _ => T = "str"
 | .int _ => T = "int"
 | .ref p => (T = "list" /\ ∃ xs, SqL K H p xs) \/ (T = "tuple" /\ ∃ o, K.lookup p = some o /\ o.cls = .type "tuple" /\ o.dict = none) \/
  (T = "dict" /\ ((∃ kvs, H p = some (.dK kvs)) \/ ∃ kvs, H p = some (.dT kvs))) \/ (T = "set" /\ ∃ S n, H p = some (.set S n))
 | _ => False
theorem ZhX {pins : List (Addr × Obj)} {σ : St} {H : Hp} {s : Shared} {T : String} {x : V} {v : Value} (I : Inv X pins σ H s) (r : RelV x v) (ty : tyV X.K T x H) :
 s.TypeIs v T /\ ∀ a, v = .ref a -> ∃ ob, s.heap.get? a = some ob /\ ob.dict = none := by
 cases x with
 | str z =>
  obtain ⟨t, rfl⟩ := r
  cases (show T = "str" from ty)
  exact ⟨typeIs_str s z t, fun _ e => nomatch e⟩
 | int i =>
  obtain ⟨t, rfl⟩ := r
  cases (show T = "int" from ty)
  exact ⟨typeIs_int s i t, fun _ e => nomatch e⟩
 | ref p =>
  cases r
  rcases ty with ⟨rfl, xs, hq⟩ | ⟨rfl, o, hk, hc, hd⟩ | ⟨rfl, hk⟩ | ⟨rfl, S, n, hk⟩
  . obtain ⟨its, _, pl, _⟩ := I.list hq
    refine ⟨pl.isList.typeIs, fun a e => ?_⟩
    cases e
    obtain ⟨o, n, e, c, hd, _⟩ := pl
    exact ⟨o, e, hd⟩
  . refine ⟨⟨o, I.kIn p o hk, hc⟩, fun a e => ?_⟩
    cases e
    exact ⟨o, I.kIn _ o hk, hd⟩
  . have z : ∃ o, s.heap.get? p = some o /\ o.ExactDict := by
     rcases hk with ⟨kvs, hk⟩ | ⟨kvs, hk⟩
     . obtain ⟨_, _, _, _, o, _, _, e, ex, _⟩ := I.hok p _ hk
       exact ⟨o, e, ex⟩
     . obtain ⟨_, _, _, _, o, _, _, e, ex, _⟩ := I.hok p _ hk
       exact ⟨o, e, ex⟩
    obtain ⟨o, e, ex⟩ := z
    refine ⟨⟨o, e, ex.1⟩, fun a e2 => ?_⟩
    cases e2
    exact ⟨o, e, ex.2.1⟩
  . obtain ⟨o, _, _, _, e, ex, _⟩ := I.hok p _ hk
    refine ⟨⟨o, e, ex.1⟩, fun a e2 => ?_⟩
    cases e2
    exact ⟨o, e, ex.2.1⟩
 | _ => exact False.elim ty
def tBM0 (K : Fg) (T : String) (r : V -> List V -> Hp -> VK -> Prop) (to : TE) : TE := fun σ H Q => to σ H fun x H1 => tyV K T x H1 /\ r x [] H1 Q
def tBM (K : Fg) (T : String) (r : V -> List V -> Hp -> VK -> Prop) (to : TE) (t : TA) : TE := fun σ H Q => to σ H fun x H1 => tyV K T x H1 /\ t σ H1 fun xs H2 => r x xs H2 Q
variable {o e : Expr} {es : List Expr} {to : TE} {t : TA} {name : Str} {apos cpos : Pos} {T id : String} {r : V -> List V -> Hp -> VK -> Prop}
theorem Zme (pa : PlainAttrs T) (slot : Slot T name id) (hty : typeOf (.builtin id) = pure (.type "method_descriptor")) (hm : MtR X id r) (ho : PE X o to)
 (hbase : attributeBase o name X.env (eval o X.env) = eval o X.env := by rfl) (hline : (apos.endLine == cpos.line) = true := by rfl) : PE X (.Call (.Attribute o name apos) [] [] cpos) (tBM0 X.K T r to) := by
 intro pins s σ H Q I h
 refine wpAny_Call_method0_late hbase hline (thn (ho pins s σ H _ I h) fun v s1 z0 => ?_)
 obtain ⟨x, H1, I1, r1, ty, q1⟩ := z0
 obtain ⟨h1, h2⟩ := ZhX I1 r1 ty
 exact ⟨T, id, pa, slot, hty, h1, h2, Calls.callWith_builtin rfl (PySem.evalArgs_none (hm pins s1 σ H1 x [] v [] Q I1 r1 .nil q1))⟩
theorem Zhh (pa : PlainAttrs T) (slot : Slot T name id) (hty : typeOf (.builtin id) = pure (.type "method_descriptor")) (hm : MtR X id r) (ho : PE X o to) (ha : PA X (e :: es) t)
 (hbase : attributeBase o name X.env (eval o X.env) = eval o X.env := by rfl)
 (hfew : ((backTo cpos (starEach (e :: es) X.env)).all (fun x => !x.1) && (backToKw cpos (keywordEach [] X.env)).all (fun x => x.1.isSome)
  && decide ((e :: es).length + ([] : List Keyword).length + (if ([] : List Keyword).isEmpty then 0 else 1) < 30)) = true := by rfl)
 (hline : (apos.endLine == cpos.line) = true := by rfl) (hs : starEach (e :: es) X.env = (false, eval e X.env) :: starEach es X.env := by rfl) (hplain : (backTo cpos (starEach es X.env)).any (·.1) = false := by rfl) :
 PE X (.Call (.Attribute o name apos) (e :: es) [] cpos) (tBM X.K T r to t) := by
 intro pins s σ H Q I h
 refine wpAny_Call_method_late hbase hfew hline rfl (thn (ho pins s σ H _ I h) fun v s1 z0 => ?_)
 obtain ⟨x, H1, I1, r1, ty, q1⟩ := z0
 obtain ⟨h1, h2⟩ := ZhX I1 r1 ty
 refine ⟨T, id, pa, slot, hty, h1, h2, ?_⟩
 have hA := ha cpos pins s1 σ H1 _ I1 q1
 rw [hs] at hA ⊢
 refine Calls.callWith_builtin (by show (false || (backTo cpos (starEach es X.env)).any (·.1)) = false; rw [hplain] <;> rfl) (Calls.evalArgs_plain ?_)
 exact thn hA fun us s2 ⟨vs, H2, I2, r2, q2⟩ => hm pins s2 σ H2 x vs v us Q I2 r1 r2 q2
end
end L2
namespace L2
open PySem PySem.Spec PyProof.Rows
def MtM (X : Cx) (id : String) (r : V -> List V -> Hp -> VK -> Prop) : Prop :=
 ∀ (pins : List (Addr × Obj)) (s : Shared) (σ : St) (H : Hp) (x : V) (xs : List V) (v : Value) (us : List Value) (Q : VK), Inv X pins σ H s -> RelV x v -> Vals xs us -> r x xs H Q ->
  wpAny (model X.prog X.w) X.A (call (.builtin id) (v :: us)) (EP X pins σ Q) X.xe s
theorem Vals.one (h : Vals [x] us) : ∃ u, us = [u] /\ RelV x u := by
 cases h with | cons r h => cases h; exact ⟨_, rfl, r⟩
theorem Vals.two (h : Vals [x, y] us) : ∃ u v, us = [u, v] /\ RelV x u /\ RelV y v := by
 cases h with | cons r h => cases h with | cons q h => cases h; exact ⟨_, _, rfl, r, q⟩
theorem Vals.zero : ∀ {us : List Value}, Vals [] us -> us = []
 | _, .nil => rfl
theorem Vals.dropLast {xs : List V} {us : List Value} (h : Vals xs us) : Vals xs.dropLast us.dropLast := by
 induction h with
 | nil => exact .nil
 | cons r t ih =>
  cases t with
  | nil => exact .nil
  | cons q t' => exact .cons r ih
theorem Vals.eraseIdx : ∀ {xs : List V} {us : List Value} (i : Nat), Vals xs us -> Vals (xs.eraseIdx i) (us.eraseIdx i)
 | _, _, _, .nil => .nil
 | _, _, 0, .cons _ t => t
 | _, _, i + 1, .cons r t => .cons r (Vals.eraseIdx i t)
theorem Vals.reverse {xs : List V} {us : List Value} (h : Vals xs us) : Vals xs.reverse us.reverse := by
 induction h with
 | nil => exact .nil
 | cons r t ih => rw [List.reverse_cons, List.reverse_cons]; exact Vals.append ih (.cons r .nil)
theorem Vals.rep {xs : List V} {us : List Value} (h : Vals xs us) : ∀ k : Nat, Vals (List.replicate k xs).flatten (List.replicate k us).flatten
 | 0 => .nil
 | k + 1 => by
  rw [List.replicate_succ, List.replicate_succ, List.flatten_cons, List.flatten_cons]
  exact Vals.append h (Vals.rep h k)
theorem ZcA {α : Type} (l : List α) : l.eraseIdx (l.length - 1) = l.dropLast := by
 induction l with
 | nil => rfl
 | cons a r ih =>
  cases r with
  | nil => rfl
  | cons b r =>
   have e : (a :: b :: r).length - 1 = ((b :: r).length - 1) + 1 := by
    have h1 : (a :: b :: r).length = r.length + 2 := rfl
    have h2 : (b :: r).length = r.length + 1 := rfl
    omega
   rw [e, List.eraseIdx_cons_succ, ih]
   all_goals rfl
theorem ZeF {α : Type} : ∀ (l : List α) (i : Nat), (l.eraseIdx i).length <= l.length
 | [], _ => Nat.le_refl _
 | _ :: _, 0 => Nat.le_succ _
 | _ :: r, i + 1 => Nat.succ_le_succ (ZeF r i)
theorem ZeG (its : List Value) : ∀ (k : Nat) (acc : List Value),
 List.foldl (fun x1 x2 => x1 ++ x2) acc.toArray (List.replicate k its.toArray) = (acc ++ (List.replicate k its).flatten).toArray
 | 0, acc => by simp
 | k + 1, acc => by
  have e : acc.toArray ++ its.toArray = (acc ++ its).toArray := by simp
  have e2 : (acc ++ its) ++ (List.replicate k its).flatten = acc ++ (List.replicate (k + 1) its).flatten := by
   rw [List.replicate_succ, List.flatten_cons, List.append_assoc]
  rw [<- e2, <- ZeG its k (acc ++ its), <- e, List.replicate_succ, List.foldl_cons]
section
variable {X : Cx} {pins : List (Addr × Obj)} {σ : St} {H : Hp} {s : Shared} {l b : Addr} {xs ys zs : List V}
theorem Inv.lset {its its' : List Value} {n : Nat} {f : Array Value -> Array Value} {t' : Nat} (I : Inv X pins σ H s) (hH : H l = some (.lst xs))
 (e : s.heap.get? l = some { cls := .type "list", data := .seq its.toArray n }) (hf : f its.toArray = its'.toArray) (hv : Vals ys its') (hz : ys.length <= sizeLine) :
 Inv X pins σ (upd H l (.lst ys)) { s with heap := s.heap.update l (Obj.mapSeq f), toks := t' } := by
 have q := PySem.IsL.update e f
 rw [hf] at q
 refine I.write (x := l) (e := l) (by rw [hH]; exact trivial) (.inl rfl) (fun b' u hb hu => (Heap.get?_update_other s.heap (Obj.mapSeq f) (Ne.symm hb)).trans hu) ⟨_, q⟩ ?_
 exact ⟨hz, its', _, hv, q⟩
theorem Inv.lnew {its : List Value} {t' : Nat} (I : Inv X pins σ H s) (hv : Vals ys its) (hz : ys.length <= sizeLine) :
 Inv X pins σ (upd H s.heap.objs.size (.lst ys)) { s with heap := s.heap.push { cls := .type "list", data := .seq its.toArray }, toks := t' } :=
 I.laid (fun _ _ q => Heap.get?_push_of_some _ q) (Nat.le_refl _) ⟨hz, its, 0, hv, Heap.get?_push_size _ rfl⟩
theorem Inv.fresh (I : Inv X pins σ H s) : H s.heap.objs.size = none := I.hok.fresh (Nat.le_refl _)
theorem Inv.lstM (I : Inv X pins σ H s) (hH : H l = some (.lst xs)) : xs.length <= sizeLine /\ ∃ (its : List Value) (n : Nat), Vals xs its /\ xs.length = its.length /\ s.heap.get? l = some { cls := .type "list", data := .seq its.toArray n } := by
 obtain ⟨z, its, n, r, e⟩ := I.hok l _ hH
 exact ⟨z, its, n, r, r.length, e⟩
theorem Zfs {n : Nat} (h : n <= sizeLine) : Builtin.List.listTooLong n = false := by
 unfold Builtin.List.listTooLong
 exact decide_eq_false (by omega)
end
section
variable {X : Cx}
def ZkA : V -> List V -> Hp -> VK -> Prop := fun x vs H Q => ∃ l xs y, x = .ref l /\ vs = [y] /\ H l = some (.lst xs) /\ xs.length < sizeLine /\ Q .non (upd H l (.lst (xs ++ [y])))
theorem ZeH : MtM X "list.append" ZkA := by
 intro pins s σ H x vs v us Q I rx rv h
 obtain ⟨l, xs, y, rfl, rfl, hH, hz, q⟩ := h
 cases rx
 obtain ⟨u, rfl, ru⟩ := rv.one
 obtain ⟨z, its, n, r, hl, e⟩ := I.lstM hH
 refine call_meets F.slot_list_append ⟨_, e, rfl⟩ F.entry_list_append (F.args_list_append_2 _ _) (PySem.list_append l its.toArray n u (by rw [List.size_toArray]; omega)) ⟨e, ?_⟩
 refine ⟨.non, _, I.lset (its' := its ++ [u]) hH e (by simp) (r.append (.cons ru .nil)) ?_, rfl, q⟩
 rw [List.length_append, List.length_singleton]
 omega
def ZkB : V -> List V -> Hp -> VK -> Prop := fun x vs H Q => ∃ l b xs zs, x = .ref l /\ vs = [.ref b] /\ H l = some (.lst xs) /\ H b = some (.lst zs) /\ xs.length + zs.length <= sizeLine /\ Q .non (upd H l (.lst (xs ++ zs)))
theorem ZhY : MtM X "list.extend" ZkB := by
 intro pins s σ H x vs v us Q I rx rv h
 obtain ⟨l, b, xs, zs, rfl, rfl, hH, hB, hz, q⟩ := h
 cases rx
 obtain ⟨u, rfl, ru⟩ := rv.one
 cases ru
 obtain ⟨z, its, n, r, hl, e⟩ := I.lstM hH
 obtain ⟨z2, its2, n2, r2, hl2, e2⟩ := I.lstM hB
 have hsz : its.toArray.size + its2.toArray.size <= sizeLine := by rw [List.size_toArray, List.size_toArray]; omega
 have hlong : ¬ (!its.toArray.isEmpty && Builtin.List.listTooLong (its.toArray.size + its2.toArray.size)) = true := by
  rw [Zfs hsz, Bool.and_false]
  exact Bool.false_ne_true
 refine call_meets F.slot_list_extend ⟨_, e, rfl⟩ F.entry_list_extend (F.args_list_extend_2 _ _)
  (AutoSeq1.list_extend_list_list_0 l its.toArray n b its2.toArray n2 hlong (by rw [List.size_toArray]; omega) (by omega)) ⟨e, e2, ?_⟩
 refine ⟨.non, _, I.lset (its' := its ++ its2) hH e (by simp) (r.append r2) ?_, rfl, q⟩
 rw [List.length_append]
 omega
def rPop : V -> List V -> Hp -> VK -> Prop := fun x vs H Q => ∃ l xs y, x = .ref l /\ vs = [] /\ H l = some (.lst xs) /\ xs[xs.length - 1]? = some y /\ Q y (upd H l (.lst xs.dropLast))
theorem Zmf : MtM X "list.pop" rPop := by
 intro pins s σ H x vs v us Q I rx rv h
 obtain ⟨l, xs, y, rfl, rfl, hH, hy, q⟩ := h
 cases rx
 have hus := rv.zero
 subst hus
 obtain ⟨z, its, n, r, hl, e⟩ := I.lstM hH
 obtain ⟨u, hu, ru⟩ := r.get hy
 have hy' : its.toArray[its.toArray.size - 1]? = some u := by
  show its.toArray[its.length - 1]? = some u
  rw [<- Array.getElem?_toList, <- hl]
  exact hu
 refine call_meets F.slot_list_pop ⟨_, e, rfl⟩ F.entry_list_pop (F.args_list_pop_1 _) (MeetsSeq.list_pop_last l its.toArray n u hy' (by rw [List.size_toArray]; omega)) ⟨e, ?_⟩
 refine ⟨y, _, I.lset (its' := its.dropLast) hH e ?_ r.dropLast ?_, ru, q⟩
 . show its.toArray.eraseIdxIfInBounds (its.toArray.size - 1) = its.dropLast.toArray
   rw [List.size_toArray, List.eraseIdxIfInBounds_toArray, ZcA]
 . rw [List.length_dropLast]
   omega
def Zmg : V -> List V -> Hp -> VK -> Prop := fun x vs H Q => ∃ l xs i k y, x = .ref l /\ vs = [.int i] /\ H l = some (.lst xs) /\ -(2 ^ 63) <= i /\ i < 2 ^ 63 /\ seqIndex? i xs.length = some k /\ xs[k]? = some y /\ Q y (upd H l (.lst (xs.eraseIdx k)))
theorem Zjc : MtM X "list.pop" Zmg := by
 intro pins s σ H x vs v us Q I rx rv h
 obtain ⟨l, xs, i, k, y, rfl, rfl, hH, h1, h2, hk, hy, q⟩ := h
 cases rx
 obtain ⟨u, rfl, ru⟩ := rv.one
 obtain ⟨t, rfl⟩ := ru
 obtain ⟨z, its, n, r, hl, e⟩ := I.lstM hH
 obtain ⟨w, hw, rw'⟩ := r.get hy
 refine call_meets F.slot_list_pop ⟨_, e, rfl⟩ F.entry_list_pop (F.args_list_pop_2 _ _)
  (MeetsSeq.list_pop_at l its.toArray n i t k w (fitsIndex_both h1 h2) (by rw [List.size_toArray, <- hl]; exact hk) (by rw [<- Array.getElem?_toList]; exact hw) (by rw [List.size_toArray]; omega)) ⟨e, ?_⟩
 refine ⟨y, _, I.lset (its' := its.eraseIdx k) hH e ?_ (r.eraseIdx k) ?_, rw', q⟩
 . show its.toArray.eraseIdxIfInBounds k = (its.eraseIdx k).toArray
   rw [List.eraseIdxIfInBounds_toArray]
 . have := ZeF xs k
   omega
def rCat : R2 := fun x y H Q => ∃ l b xs zs, x = .ref l /\ y = .ref b /\ H l = some (.lst xs) /\ H b = some (.lst zs) /\ xs.length + zs.length <= sizeLine /\ ∀ p, H p = none -> Q (.ref p) (upd H p (.lst (xs ++ zs)))
theorem Zmh : OpR X (binaryOp .Add) rCat := by
 intro pins s σ H x y v u Q I rx ry h
 obtain ⟨l, b, xs, zs, rfl, rfl, hH, hB, hz, q⟩ := h
 cases rx
 cases ry
 obtain ⟨z, its, n, r, hl, e⟩ := I.lstM hH
 obtain ⟨z2, its2, n2, r2, hl2, e2⟩ := I.lstM hB
 refine PySem.P.add_list e e2 ?_ (by rw [List.size_toArray, List.size_toArray]; omega)
 have ea : its.toArray ++ its2.toArray = (its ++ its2).toArray := by simp
 rw [ea]
 exact ⟨.ref _, _, I.lnew (t' := s.toks) (r.append r2) (by rw [List.length_append]; omega), rfl, q _ I.fresh⟩
def rRep : R2 := fun x y H Q => ∃ l k xs, x = .ref l /\ y = .int k /\ H l = some (.lst xs) /\ -(2 ^ 63) <= k /\ k < 2 ^ 63 /\ xs.length * k.toNat <= sizeLine /\
 ∀ p, H p = none -> Q (.ref p) (upd H p (.lst (List.replicate k.toNat xs).flatten))
theorem ZkC {α : Type} (xs : List α) (k : Nat) : (List.replicate k xs).flatten.length = k * xs.length := by
 induction k with
 | zero => simp
 | succ k ih => rw [List.replicate_succ, List.flatten_cons, List.length_append, ih, Nat.succ_mul, Nat.add_comm]
theorem Zmi : OpR X (binaryOp .Mult) rRep := by
 intro pins s σ H x y v u Q I rx ry h
 obtain ⟨l, k, xs, rfl, rfl, hH, h1, h2, hz, q⟩ := h
 cases rx
 obtain ⟨t, rfl⟩ := ry
 obtain ⟨z, its, n, r, hl, e⟩ := I.lstM hH
 have hlen : its.toArray.size * k.toNat <= sizeLine := by rw [List.size_toArray, <- hl]; exact hz
 have hcap : ¬ its.toArray.size * k.toNat > (2 ^ 63 - 1) / 8 := by
  have : (sizeLine : Nat) <= (2 ^ 63 - 1) / 8 := by decide
  omega
 have hfit : ¬ (!Builtin.List.listFitsIndex k) = true := by
  rw [fitsIndex_both h1 h2]
  exact Bool.false_ne_true
 have hlong : ¬ Builtin.List.listTooLong (its.toArray.size * k.toNat) = true := by
  rw [Zfs hlen]
  exact Bool.false_ne_true
 have hnew : List.foldl (fun x1 x2 => x1 ++ x2) #[] (List.replicate (if its.toArray.isEmpty = true then 0 else k.toNat) its.toArray) = (List.replicate k.toNat its).flatten.toArray := by
  have f0 : ∀ m : Nat, List.foldl (fun x1 x2 => x1 ++ x2) #[] (List.replicate m its.toArray) = (List.replicate m its).flatten.toArray := fun m => by
   have := ZeG its m []
   rw [List.nil_append] at this
   exact this
  rw [f0]
  cases its with
  | nil => simp
  | cons a r' => rw [if_neg (by simp)]
 refine wpAny_binaryOp_repeat_ref (T := "list") (U := "int") (by decide) ⟨_, e, rfl⟩ (fun s' => typeIs_int s' k t) noFill_list_mul F.fills_int_mul F.slot_int_rmul repeat_list F.slot_int_index.lookup
  (call_meets F.slot_int_rmul (typeIs_int s k t) F.entry_int_rmul (F.args_int_rmul_2 _ _) (int___rmul___int_list k t l its.toArray n)
   ⟨e, rfl, ⟨_, e, rfl⟩, call_meets F.slot_list_mul ⟨_, e, rfl⟩ F.entry_list_mul (F.args_list_mul_2 _ _) (AutoListH.list___mul___list_int_3 l its.toArray n k t hfit hcap hlong) ⟨e, ?_⟩⟩)
 rw [hnew]
 exact ⟨.ref _, _, I.lnew (t' := s.toks) (r.rep k.toNat) (by rw [ZkC, Nat.mul_comm]; exact hz), rfl, q _ I.fresh⟩
end
end L2
namespace L2
open PySem PySem.Spec PyProof.Rows
section
variable {κ : Type} [DecidableEq κ]
noncomputable def valV (kvs : List (κ × V)) (k : κ) : Option V := (kvs.find? fun kv => decide (kv.1 = k)).map (·.2)
noncomputable def putK (kvs : List (κ × V)) (k : κ) (v : V) : List (κ × V) :=
 if (kvs.any fun kv => decide (kv.1 = k)) = true then kvs.map (fun kv => if kv.1 = k then (kv.1, v) else kv) else kvs ++ [(k, v)]
theorem Zft {k : κ} : valV ([] : List (κ × V)) k = none := rfl
theorem ZcB {p : κ × V} {r : List (κ × V)} {k : κ} (e : p.1 = k) : valV (p :: r) k = some p.2 := by simp [valV, List.find?_cons, e]
theorem ZcC {p : κ × V} {r : List (κ × V)} {k : κ} (e : ¬ p.1 = k) : valV (p :: r) k = valV r k := by simp [valV, List.find?_cons, e]
theorem Zfu (k : κ) : ∀ kvs : List (κ × V), (kvs.any fun kv => decide (kv.1 = k)) = (valV kvs k).isSome
 | [] => rfl
 | p :: r => by
  rw [List.any_cons]
  by_cases e : p.1 = k
  . simp only [ZcB e, decide_eq_true e, Bool.true_or, Option.isSome_some]
  . rw [ZcC e, decide_eq_false e, Bool.false_or]; exact Zfu k r
theorem Zcy (kvs : List (κ × V)) (k : κ) (v : V) : (putK kvs k v).length <= kvs.length + 1 := by
 unfold putK
 split
 . rw [List.length_map]; omega
 . rw [List.length_append, List.length_cons, List.length_nil]; omega
theorem RelO.isSome_eq {o : Option V} {u : Option Value} (r : RelO o u) : o.isSome = u.isSome := by
 cases o with
 | none => cases u with
  | none => rfl
  | some _ => exact (show False from r).elim
 | some _ => cases u with
  | none => exact (show False from r).elim
  | some _ => rfl
theorem KV.val {kvs : List (κ × V)} {vs : List (κ × Value)} (r : KV kvs vs) (k : κ) : RelO (valV kvs k) (valueAt vs k) := by
 unfold KV at r
 induction r with
 | nil => exact True.intro
 | @cons p q ps qs h t ih =>
  obtain ⟨h1, h2⟩ := h
  by_cases e : p.1 = k
  . have e' : q.1 = k := h1.symm.trans e
    have b : valueAt (q :: qs) k = some q.2 := by simp [valueAt, List.find?_cons, e']
    rw [ZcB e, b]; exact h2
  . have e' : ¬ q.1 = k := fun z => e (h1.trans z)
    have b : valueAt (q :: qs) k = valueAt qs k := by simp [valueAt, List.find?_cons, e']
    rw [ZcC e, b]; exact ih
theorem KV.any {kvs : List (κ × V)} {vs : List (κ × Value)} (r : KV kvs vs) (k : κ) : (kvs.any fun kv => decide (kv.1 = k)) = vs.any fun kv => decide (kv.1 = k) := by
 unfold KV at r
 induction r with
 | nil => rfl
 | cons h t ih => rw [List.any_cons, List.any_cons, ih, h.1]
theorem KV.repl {kvs : List (κ × V)} {vs : List (κ × Value)} (r : KV kvs vs) (k : κ) {y : V} {u : Value} (ry : RelV y u) :
 KV (kvs.map fun kv => if kv.1 = k then (kv.1, y) else kv) (vs.map fun kv => if kv.1 = k then (kv.1, u) else kv) := by
 unfold KV at r ⊢
 induction r with
 | nil => exact .nil
 | @cons p q ps qs h t ih =>
  rw [List.map_cons, List.map_cons]
  refine .cons ?_ ih
  obtain ⟨h1, h2⟩ := h
  by_cases e : p.1 = k
  . rw [if_pos e, if_pos (h1.symm.trans e)]; exact ⟨h1, ry⟩
  . rw [if_neg e, if_neg (fun z => e (h1.trans z))]; exact ⟨h1, h2⟩
theorem KV.put {kvs : List (κ × V)} {vs : List (κ × Value)} (r : KV kvs vs) (k : κ) {y : V} {u : Value} (ry : RelV y u) : KV (putK kvs k y) (stored vs k u) := by
 unfold putK stored
 rw [r.any k]
 by_cases e : (vs.any fun kv => decide (kv.1 = k)) = true
 . rw [if_pos e, if_pos e]; exact r.repl k ry
 . rw [if_neg e, if_neg e]; exact Paired.snoc r ⟨rfl, ry⟩
theorem KV.length {kvs : List (κ × V)} {vs : List (κ × Value)} (r : KV kvs vs) : kvs.length = vs.length := Paired.length r
end
theorem Zdp {P : Program} {w : World} {k : Key} {u : Value} (r : RelV (kV k) u) : (ZC P w).is k u = true := by
 cases k with
 | inl i => obtain ⟨t, e⟩ := (show ∃ t, u = Value.int i t from r); subst e; exact Zgd P w i t
 | inr x => obtain ⟨t, e⟩ := (show ∃ t, u = Value.str x t from r); subst e; exact Zge P w x t
theorem ZeI {P : Program} {w : World} : ∀ {ks : List Key} {us : List Value}, Vals (ks.map kV) us -> ItemsAre (ZC P w) ks us
 | [], _, r => by rw [List.map_nil] at r; cases r; exact .nil
 | k :: ks, _, r => by
  rw [List.map_cons] at r
  cases r with
  | cons h t => exact .cons (Zdp h) (ZeI t)
abbrev KT (H : Hp) : List (List Key × V) -> List (List Key × Addr × Value) -> Prop := Paired fun p q => p.1 = q.1 /\ H q.2.1 = some (.tup (p.1.map kV)) /\ RelV p.2 q.2.2
theorem KT.val {H : Hp} {kvs : List (List Key × V)} {xs : List (List Key × Addr × Value)} (r : KT H kvs xs) (k : List Key) : RelO (valV kvs k) ((atKey xs k).map (·.2)) := by
 induction r with
 | nil => exact True.intro
 | @cons p q ps qs h t ih =>
  obtain ⟨h1, _, h2⟩ := h
  by_cases e : p.1 = k
  . have e' : q.1 = k := h1.symm.trans e
    have b : atKey (q :: qs) k = some q.2 := by simp [atKey, List.find?_cons, e']
    rw [ZcB e, b]; exact h2
  . have e' : ¬ q.1 = k := fun z => e (h1.trans z)
    have b : atKey (q :: qs) k = atKey qs k := by simp [atKey, List.find?_cons, e']
    rw [ZcC e, b]; exact ih
theorem KT.repl {H : Hp} {kvs : List (List Key × V)} {xs : List (List Key × Addr × Value)} (r : KT H kvs xs) (k : List Key) {y : V} {u : Value} (ry : RelV y u) :
 KT H (kvs.map fun kv => if kv.1 = k then (kv.1, y) else kv) (xs.map (putAt k u)) := by
 induction r with
 | nil => exact .nil
 | @cons p q ps qs h t ih =>
  rw [List.map_cons, List.map_cons]
  refine .cons ?_ ih
  obtain ⟨h1, h2, h3⟩ := h
  unfold putAt
  by_cases e : p.1 = k
  . rw [if_pos e, if_pos (h1.symm.trans e)]; exact ⟨h1, h2, ry⟩
  . rw [if_neg e, if_neg (fun z => e (h1.trans z))]; exact ⟨h1, h2, h3⟩
theorem KT.put {H : Hp} {kvs : List (List Key × V)} {xs : List (List Key × Addr × Value)} (r : KT H kvs xs) (k : List Key) {b : Addr} {y : V} {u : Value} (hb : H b = some (.tup (k.map kV))) (ry : RelV y u) :
 KT H (putK kvs k y) (storedH xs k b u) := by
 have e : (kvs.any fun kv => decide (kv.1 = k)) = (atKey xs k).isSome := by
  rw [Zfu, (r.val k).isSome_eq, Option.isSome_map]
 unfold putK storedH
 rw [e]
 by_cases q : (atKey xs k).isSome = true
 . rw [if_pos q, if_pos q]; exact r.repl k ry
 . rw [if_neg q, if_neg q]; exact Paired.snoc r ⟨rfl, hb, ry⟩
theorem KT.keeps {H H' : Hp} {kvs : List (List Key × V)} {xs : List (List Key × Addr × Value)} (r : KT H kvs xs) (ht : ∀ b ys, H b = some (.tup ys) -> H' b = some (.tup ys)) : KT H' kvs xs :=
 Paired.mapP r fun _ _ z => ⟨z.1, ht _ _ z.2.1, z.2.2⟩
section
variable {P : Program} {w : World} {H : Hp} {h : Heap} {a : Addr}
theorem Zka {u : HO} (ok : HOk P w H h) (e : Rd H a u) : Z8 P w H h a u := e.ok ok
theorem Zcl {kvs : List (Key × V)} (ok : HOk P w H h) (e : Rd H a (.dK kvs)) : kvs.length <= sizeLine /\ (a == sysModules) = false /\ ∃ vs, KV kvs vs /\ h.DictOf (ZC P w) a vs :=
 show Z8 P w H h a (.dK kvs) from Zka ok e
theorem Zkb {kvs : List (Key × V)} (ok : HOk P w H h) (e : H a = some (.dK kvs)) : kvs.length <= sizeLine /\ (a == sysModules) = false /\ ∃ vs, KV kvs vs /\ h.DictOf (ZC P w) a vs := Zcl ok (.inl e)
theorem ZcX {ks : List Key} (ok : HOk P w H h) (e : H a = some (.tup (ks.map kV))) : (tupleKind (ZC P w)).is h ks a := by
 obtain ⟨_, its, r, o, h1, h2, n, h3⟩ := (show Z8 P w H h a (.tup (ks.map kV)) from ok a _ e)
 exact ⟨o, its.toArray, n, h1, h2, h3, by simpa using ZeI r⟩
theorem Zdq {kvs : List (List Key × V)} (ok : HOk P w H h) (e : Rd H a (.dT kvs)) : kvs.length <= sizeLine /\ (a == sysModules) = false /\
 ∃ xs, KT H kvs xs /\ h.DictOfH (tupleKind (ZC P w)) a xs := by
 obtain ⟨z, y, xs, r, o, es, ep, h1, h2, h3, h4, h5⟩ := (show Z8 P w H h a (.dT kvs) from Zka ok e)
 refine ⟨z, y, xs, r, o, es, ep, h1, h2, h3, h4, fun x hx => ?_, h5⟩
 have all : ∀ {l : List (List Key × V)} {m : List (List Key × Addr × Value)}, KT H l m -> ∀ x ∈ m, (tupleKind (ZC P w)).is h x.1 x.2.1 := by
  intro l m q
  induction q with
  | nil => intro x hx; exact nomatch hx
  | @cons p q ps qs hq t ih =>
   intro x hx
   rcases List.mem_cons.mp hx with e | hx
   . subst e
     exact ZcX ok (by rw [<- hq.1]; exact hq.2.1)
   . exact ih x hx
 exact all r x hx
theorem Zod {kvs : List (List Key × V)} (ok : HOk P w H h) (e : H a = some (.dT kvs)) : kvs.length <= sizeLine /\ (a == sysModules) = false /\
 ∃ xs, KT H kvs xs /\ h.DictOfH (tupleKind (ZC P w)) a xs := Zdq ok (.inl e)
end
def DGet (H : Hp) (a : Addr) (y : V) (r : Option V) : Prop :=
 (∃ kvs k, Rd H a (.dK kvs) /\ y = kV k /\ r = valV kvs k) \/ ∃ kvs k b, Rd H a (.dT kvs) /\ y = .ref b /\ H b = some (.tup (k.map kV)) /\ r = valV kvs k
def DPut (H : Hp) (a : Addr) (y v : V) (H' : Hp) : Prop :=
 (∃ kvs k, H a = some (.dK kvs) /\ y = kV k /\ kvs.length < sizeLine /\ H' = upd H a (.dK (putK kvs k v))) \/
 ∃ kvs k b, H a = some (.dT kvs) /\ y = .ref b /\ H b = some (.tup (k.map kV)) /\ kvs.length < sizeLine /\ H' = upd H a (.dT (putK kvs k v))
theorem DGet.k {H : Hp} {a : Addr} {kvs : List (Key × V)} {k : Key} (e : H a = some (.dK kvs)) : DGet H a (kV k) (valV kvs k) := .inl ⟨kvs, k, .inl e, rfl, rfl⟩
theorem DPut.k {H : Hp} {a : Addr} {kvs : List (Key × V)} {k : Key} {v : V} (e : H a = some (.dK kvs)) (hl : kvs.length < sizeLine) : DPut H a (kV k) v (upd H a (.dK (putK kvs k v))) := .inl ⟨kvs, k, e, rfl, hl, rfl⟩
section
variable {X : Cx} {pins : List (Addr × Obj)} {σ : St} {H : Hp} {s : Shared} {a : Addr} {y v : V} {u r : Value} {o : Option V} {A : Around} {E : Value -> Shared -> Prop}
theorem Inv.big (I : Inv X pins σ H s) : sysModules < s.heap.objs.size := by
 have h : mainGlobals < s.heap.objs.size := (I.mod.glob.keeps I.bk).lt
 exact Nat.lt_trans (by decide) h
theorem ZhZ {Q : Value -> Shared -> Prop} (hu : A.units + 1 < cLine) (I : Inv X pins σ H s) (g : DGet H a y (some v)) (ry : RelV y u) (h : ∀ w' s', Inv X pins σ H s' -> RelV v w' -> Q w' s') :
 wpAny (model X.prog X.w) A (getItem (.ref a) u) Q E s := by
 rcases g with ⟨kvs, k, e, ey, l⟩ | ⟨kvs, k, b, e, ey, eb, l⟩
 . subst ey
   obtain ⟨z, hd, vs, rel, dd⟩ := Zcl I.hok e
   obtain ⟨w', hw, rw'⟩ := RelO.some_of (v := v) (o := valueAt vs k) (by rw [l]; exact rel.val k)
   exact wpAny_getItem_of (Zdp ry) dd.mapOf hw (h w' _ (I.tok _) rw')
 . subst ey
   cases (show u = Value.ref b from ry)
   obtain ⟨z, hd, xs, rel, dd⟩ := Zdq I.hok e
   obtain ⟨w', hw, rw'⟩ := RelO.some_of (v := v) (o := (atKey xs k).map (·.2)) (by rw [l]; exact rel.val k)
   obtain ⟨p, hp, hp2⟩ := Option.map_eq_some_iff.mp hw
   refine wpAny_getItem_heap (tupleKind_room_in1 hu) (ZcX I.hok eb) dd hp ?_
   rw [hp2]
   exact h w' _ (I.tok _) rw'
theorem d_in {Q : Value -> Shared -> Prop} (hu : A.units + 1 < cLine) (I : Inv X pins σ H s) (g : DGet H a y o) (ry : RelV y u) (h : ∀ s', Inv X pins σ H s' -> Q (.bool o.isSome) s') :
 wpAny (model X.prog X.w) A (compareOp .In u (.ref a)) Q E s := by
 rcases g with ⟨kvs, k, e, ey, l⟩ | ⟨kvs, k, b, e, ey, eb, l⟩
 . subst ey
   obtain ⟨z, hd, vs, rel, dd⟩ := Zcl I.hok e
   refine wpAny_in_of (Zdp ry) hd dd.mapOf ?_
   rw [<- (rel.val k).isSome_eq, <- l]
   exact h _ (I.tok _)
 . subst ey
   cases (show u = Value.ref b from ry)
   obtain ⟨z, hd, xs, rel, dd⟩ := Zdq I.hok e
   refine wpAny_in_heap (tupleKind_room_in1 hu) (ZcX I.hok eb) hd dd ?_
   have q := (rel.val k).isSome_eq
   rw [Option.isSome_map] at q
   rw [<- q, <- l]
   exact h _ (I.tok _)
theorem ZkD {Q : Value -> Shared -> Prop} (hu : A.units + 1 < cLine) (I : Inv X pins σ H s) (g : DGet H a y o) (ry : RelV y u) (h : ∀ s', Inv X pins σ H s' -> Q (.bool (!o.isSome)) s') :
 wpAny (model X.prog X.w) A (compareOp .NotIn u (.ref a)) Q E s := by
 rcases g with ⟨kvs, k, e, ey, l⟩ | ⟨kvs, k, b, e, ey, eb, l⟩
 . subst ey
   obtain ⟨z, hd, vs, rel, dd⟩ := Zcl I.hok e
   refine wpAny_notIn_of (Zdp ry) hd dd.mapOf ?_
   rw [<- (rel.val k).isSome_eq, <- l]
   exact h _ (I.tok _)
 . subst ey
   cases (show u = Value.ref b from ry)
   obtain ⟨z, hd, xs, rel, dd⟩ := Zdq I.hok e
   refine wpAny_notIn_heap (tupleKind_room_in1 hu) (ZcX I.hok eb) hd dd ?_
   have q := (rel.val k).isSome_eq
   rw [Option.isSome_map] at q
   rw [<- q, <- l]
   exact h _ (I.tok _)
theorem Zey {h' : Heap} {t' : Nat} {ob : HO} (I : Inv X pins σ H s) (mu : Mut (H a)) (hs : Heap.SameBut a s.heap h') (he : ∃ q, h'.get? a = some q) (new : Z8 X.prog X.w (upd H a ob) h' a ob) :
 Inv X pins σ (upd H a ob) { s with heap := h', toks := t' } :=
 I.write (x := a) (e := a) mu (.inl rfl) (fun b q hb z => (hs.2 b hb).trans z) he new
theorem Zia {P : Program} {w : World} {H' : Hp} {h' : Heap} {kvs : List (Key × V)} {vs : List (Key × Value)} (z : kvs.length <= sizeLine) (hd : (a == sysModules) = false) (rel : KV kvs vs) (dd : h'.DictOf (ZC P w) a vs) :
 Z8 P w H' h' a (.dK kvs) := ⟨z, hd, vs, rel, dd⟩
theorem Zib {H' : Hp} {Q : Unit -> Shared -> Prop} (hu : A.units + 1 < cLine) (I : Inv X pins σ H s) (g : DPut H a y v H') (ry : RelV y u) (rv : RelV v r) (h : ∀ s', Inv X pins σ H' s' -> Q () s') :
 wpAny (model X.prog X.w) A (setItem (.ref a) u r) Q E s := by
 rcases g with ⟨kvs, k, e, ey, l, eH⟩ | ⟨kvs, k, b, e, ey, eb, l, eH⟩
 . subst ey eH
   obtain ⟨z, hd, vs, rel, dd⟩ := Zkb I.hok e
   have hz : vs.length <= sizeLine := by rw [<- rel.length]; exact z
   have hl : (putK kvs k v).length <= sizeLine := by have := Zcy kvs k v; omega
   refine wpAny_setItem_pairs (hsz := hz) (Zdp ry) dd fun h' dd' hs => h _ ?_
   have he : ∃ q, h'.get? a = some q := let ⟨q, _, _, hq, _⟩ := dd'; ⟨q, hq⟩
   exact Zey I (by rw [e]; exact True.intro) hs he (Zia hl hd (rel.put k rv) dd')
 . subst ey eH
   cases (show u = Value.ref b from ry)
   obtain ⟨z, hd, xs, rel, dd⟩ := Zod I.hok e
   have hz : xs.length <= sizeLine := by rw [<- Paired.length rel]; exact z
   have hl : (putK kvs k v).length <= sizeLine := by have := Zcy kvs k v; omega
   refine wpAny_setItem_heap (hsz := hz) (tupleKind_room_in1 hu) (ZcX I.hok eb) dd fun h' dd' hs => h _ ?_
   obtain ⟨q, es, ep, hq, h2, h3, h4, _, h5⟩ := dd'
   refine Zey I (by rw [e]; exact True.intro) hs ⟨q, hq⟩ ⟨hl, hd, _, (rel.put k eb rv).keeps fun c ys ec => ?_, q, es, ep, hq, h2, h3, h4, h5⟩
   rw [Zn (ZnH ec e (fun z => nomatch z))]
   exact ec
end
section
variable {X : Cx} {pins : List (Addr × Obj)} {σ : St} {H : Hp} {s : Shared} {a : Addr} {kvs : List (Key × V)} {k : Key} {u : Value} {A : Around} {E : Value -> Shared -> Prop}
theorem Zoe {Q : Value -> Shared -> Prop} (I : Inv X pins σ H s) (e : Rd H a (.dK kvs)) (h : ∀ t s', Inv X pins σ H s' -> Q (.int kvs.length t) s') : wpAny (model X.prog X.w) A (call (.builtin "len") [.ref a]) Q E s := by
 obtain ⟨z, hd, vs, rel, dd⟩ := Zcl I.hok e
 refine call_len_dict hd dd (by rw [<- rel.length]; rw [sizeLine_eq] at z; omega) ?_
 rw [<- rel.length]
 exact h _ _ (I.tok _)
end
def NoSl (i : Expr) : Prop := ∀ ov iv, subscripted i false ov iv = operate [ov, iv] (getItem ov iv)
theorem ZkE {prog : Program} {w : World} {A : Around} {E : Value -> Shared -> Prop} {s : Shared} {env : Env} {value slice : Expr} {pos : Pos} {T id : String} {Q : Value -> Shared -> Prop}
 (hl : typeLookup (.type T) "__getitem__" = pure (some (.builtin id))) (hs : NoSl slice)
 (h : wpAny (model prog w) A (eval value env) (fun o s₁ => wpAny (model prog w) A (eval slice env) (fun i s₂ => s₂.TypeIs o T /\ wpAny (model prog w) A (getItem o i) Q E s₂) E s₁) E s) :
 wpAny (model prog w) A (eval (.Subscript value slice pos) env) Q E s := by
 refine Subscript_ (wpAny_mono h (fun o s₁ h₁ => wpAny_mono h₁ (fun i s₂ h₂ => ?_) fun _ _ x => x) fun _ _ x => x)
 obtain ⟨hT, h₂⟩ := h₂
 unfold subscriptTail
 refine wpAny_bind ?_
 rw [getitemInPython_of_ne hT.not_modules]
 refine wpAny_bind (wpAny_specialOf hT hl ?_)
 have fin : wpAny (model prog w) A (subscripted slice false o i) (fun r s₃ => wpAny (model prog w) A (letTemporaryGo value o r >>= fun _ => pure r) Q E s₃) E s₂ := by
  rw [hs o i]
  exact wpAny_operating (wpAny_mono h₂ (fun r s₃ h₃ => wpAny_bind (wpAny_letTemporaryGo (wpAny_pure h₃))) fun _ _ x => x)
 first
  | exact wpAny_pure (wpAny_bind fin)
  | exact wpAny_bind (wpAny_pure (wpAny_bind fin))
  | exact wpAny_bind fin
theorem Zgg {X : Cx} {pins : List (Addr × Obj)} {σ : St} {H : Hp} {s : Shared} {a : Addr} {y : V} {o : Option V} (I : Inv X pins σ H s) (g : DGet H a y o) : s.TypeIs (.ref a) "dict" := by
 rcases g with ⟨kvs, k, e, _, _⟩ | ⟨kvs, k, b, e, _, _, _⟩
 . obtain ⟨_, _, vs, _, dd⟩ := Zcl I.hok e
   exact dd.typeIs
 . obtain ⟨_, _, xs, _, dd⟩ := Zdq I.hok e
   exact dd.typeIs
def Zof (td ty : TE) : TE := fun σ H Q => td σ H fun x H1 => ty σ H1 fun y H2 => ∃ a v, x = .ref a /\ DGet H2 a y (some v) /\ Q v H2
section
variable {X : Cx} {o i e value : Expr} {pos pos' tpos : Pos} {td ty tv : TE}
theorem ZkF (hu : X.A.units + 1 < cLine) (ho : PE X o td) (hi : PE X i ty) (hs : NoSl i) : PE X (.Subscript o i pos) (Zof td ty) := by
 intro pins s σ H Q I h
 refine ZkE PySem.F.slot_dict_getitem.lookup hs (thn (ho pins s σ H _ I h) fun u s1 ⟨x, H1, I1, rx, q1⟩ => thn (hi pins s1 σ H1 _ I1 q1) fun iv s2 ⟨y, H2, I2, ry, a, v, ex, g, q2⟩ => ?_)
 subst ex
 obtain rfl : u = Value.ref a := rx
 exact ⟨Zgg I2 g, ZhZ hu I2 g ry fun w' s3 I3 rw' => ⟨v, H2, I3, rw', q2⟩⟩
end
theorem Zjd {P : Program} {w : World} {H : Hp} (h : Heap) (hb : sysModules < h.objs.size) : Z8 P w H (h.push { cls := .type "dict", data := .dict #[] }) h.objs.size (.dK []) :=
 ⟨Nat.zero_le _, beq_eq_false_iff_ne.mpr (Ne.symm (Nat.ne_of_lt hb)), [], .nil, Heap.DictOf.new h⟩
def Zmj : TE := fun _ H Q => ∀ p, H p = none -> Q (.ref p) (upd H p (.dK []))
section
variable {X : Cx} {pos : Pos}
theorem Zje : PE X (.Dict [] [] pos) Zmj := fun pins s σ H Q I h =>
 wpAny_Dict_empty ⟨.ref s.heap.objs.size, _, I.laid (a := s.heap.objs.size) (o := .dK []) (t' := s.toks) (fun _ _ q => Heap.get?_push_of_some _ q) (Nat.le_refl _) (Zjd s.heap I.big), rfl, h _ (I.hok.fresh (Nat.le_refl _))⟩
end
structure M1 (X : Cx) (o : Expr) (m : Str) (apos : Pos) (e : Expr) (cpos : Pos) : Prop where
 base : attributeBase o m X.env (eval o X.env) = eval o X.env
 few : ((backTo cpos (starEach [e] X.env)).all (fun x => !x.1) && (backToKw cpos (keywordEach [] X.env)).all (fun x => x.1.isSome)
  && decide (([e] : List Expr).length + ([] : List Keyword).length + (if ([] : List Keyword).isEmpty then 0 else 1) < 30)) = true
 line : (apos.endLine == cpos.line) = true
 trees : backTo cpos (starEach [e] X.env) = [(false, eval e X.env)]
structure M2 (X : Cx) (o : Expr) (m : Str) (apos : Pos) (e f : Expr) (cpos : Pos) : Prop where
 base : attributeBase o m X.env (eval o X.env) = eval o X.env
 few : ((backTo cpos (starEach [e, f] X.env)).all (fun x => !x.1) && (backToKw cpos (keywordEach [] X.env)).all (fun x => x.1.isSome)
  && decide (([e, f] : List Expr).length + ([] : List Keyword).length + (if ([] : List Keyword).isEmpty then 0 else 1) < 30)) = true
 line : (apos.endLine == cpos.line) = true
 trees : backTo cpos (starEach [e, f] X.env) = [(false, eval e X.env), (false, eval f X.env)]
def IsD (H : Hp) (a : Addr) : Prop := (∃ kvs, Rd H a (.dK kvs)) \/ ∃ kvs, Rd H a (.dT kvs)
theorem Zic {X : Cx} {pins : List (Addr × Obj)} {σ : St} {H : Hp} {s : Shared} {a : Addr} (I : Inv X pins σ H s) (d : IsD H a) :
 s.TypeIs (.ref a) "dict" /\ (∀ b, Value.ref a = .ref b -> ∃ ob, s.heap.get? b = some ob /\ ob.dict = none) /\ (a == sysModules) = false := by
 rcases d with ⟨kvs, e⟩ | ⟨kvs, e⟩
 . obtain ⟨_, hd, vs, _, dd⟩ := Zcl I.hok e
   refine ⟨dd.typeIs, fun b q => ?_, hd⟩
   cases q
   obtain ⟨ob, _, _, h1, h2, _⟩ := dd
   exact ⟨ob, h1, h2.2.1⟩
 . obtain ⟨_, hd, xs, _, dd⟩ := Zdq I.hok e
   refine ⟨dd.typeIs, fun b q => ?_, hd⟩
   cases q
   obtain ⟨ob, _, _, h1, h2, _⟩ := dd
   exact ⟨ob, h1, h2.2.1⟩
end L2
namespace Att
open PySem PySem.W PySem.Calls PyProof.Rows
theorem ZdT {P : Params} {h : Heap} : ∀ (ns : List Int) (vs : List Value), WellAll P h vs (ns.map WData.int) -> IntsAre vs ns := by
 intro ns
 induction ns with
 | nil =>
  intro vs w
  rw [List.map_nil] at w
  cases w
  exact .nil
 | cons n ns ih =>
  intro vs w
  rw [List.map_cons] at w
  cases w with
  | cons a b =>
   cases a
   exact .cons _ _ (ih _ b)
theorem Zid {l : OpenLaw} {n : Nat} (hn : l.most = some n) {P : Params} {h : Heap} {args : List WData} {vals : List Value}
 (hpre : l.row.toRowW.claim.pre args = true) (hwl : WellAll P h vals args) :
 ∃ a vs ns, vals = [Value.ref a] /\ args = [WData.list (ns.map WData.int)] /\ h.get? a = some { cls := .type "list", data := .seq vs.toArray } /\ IntsAre vs ns /\ ns.length <= n := by
 have hsh : WShape.hasAll [] args [.list .int] = true := (pre_splitW hpre).1
 have hc : l.pre.holds [] { args := args } = true := (pre_splitW hpre).2
 obtain ⟨d, r, rfl, h1, h2⟩ := hasAllW_cons hsh
 obtain rfl := hasAllW_nil h2
 obtain ⟨xs, rfl, h3⟩ := hasW_list h1
 obtain ⟨ns, rfl⟩ := items_int h3
 have hlen : ns.length <= n := by
  unfold OpenLaw.pre at hc
  have h4 : (WTm.not (.lt (.lit (.int (n : Int))) (.len (.arg 0)))).holds [] { args := [.list (ns.map .int)] } = true := by
   have h4 := (holds_andW hc).1
   rw [hn] at h4
   exact h4
  have h5 := condW_of h4 (w_not (w_lt w_lit (w_len_list (w_arg rfl))))
  rw [List.length_map] at h5
  refine Nat.le_of_not_lt fun q => ?_
  have q' : (n : Int) < ((ns.length : Nat) : Int) := by omega
  first
   | (rw [decide_eq_true q'] at h5; exact absurd h5 (by decide))
   | (simp at h5; omega)
 cases hwl with
 | cons w1 w2 =>
  cases w2
  cases w1 with
  | list ho hall => exact ⟨_, _, ns, rfl, rfl, ho, ZdT ns _ hall, hlen⟩
theorem Zie (l : OpenLaw) (args : List WData) : l.row.toRowW.claim.post args (.bool true) args = true :=
 postW_of (r := l.row.toRowW) (X := (true == true))
  (show WShape.has [] (.bool true) .bool = true by first | rfl | decide | simp [WShape.has, WShape.arms, WShape.armsAll])
  (show (WTm.eq .res (.lit (.bool true))).value [] { args := args, res := some (.bool true), after := args } = some (.bool (true == true)) from w_eq_bool (w_res rfl) w_lit) rfl
theorem Zgh {l : OpenLaw} {n : Nat} {q : Program} {loose : List Str} {XP : (Str -> Option Value) -> Heap -> Prop} {YP : World -> Heap -> Prop} {d : DefRec}
 (hn : l.most = some n) (hdf : d.params.defaults = [])
 (call : ∀ (w : World) (s₀ s₁ : Shared) (mg mb : Str -> Option Value) (fa : Addr) (o : Obj) (pm cd doc : Value) (a : Addr) (vs : List Value) (ns : List Int),
  Ground q loose [] XP w s₀ mg mb s₁.heap -> YP w s₁.heap ->
  s₁.heap.get? fa = some o -> o.data = .func (docDef d.name d.params d.body d.scope pm cd doc) -> s₁.heap.CodeRec cd d.name -> mg d.name = some (.ref fa) ->
  s₁.heap.get? a = some { cls := .type "list", data := .seq vs.toArray } -> IntsAre vs ns -> ns.length <= n -> s₁.gens = #[] ->
  codeAny (model l.prog w) callerA (.call (.ref fa) ⟨[.ref a], []⟩) (fun r s' => r = .ok (.ret (.bool true)) /\ OldK s₁.heap s'.heap /\ s'.os = s₁.os /\ AllBare s'.gens) s₁) :
 WalkO q loose XP YP l.row.toRowW d [] (fun f vs => PySem.call f vs) := by
 intro w s₀ s₁ mg mb G Y fa o pm cd doc dV kV ho hd hcd hD hmg hg args vals as hpre hlay hrd hwl hlo
 obtain rfl : dV = .none := Dflts.none hD hdf
 obtain rfl : kV = .none := Dflts.noKw hD
 obtain ⟨a, vs, ns, rfl, rfl, hobj, hints, hlen⟩ := Zid hn hpre hwl
 refine enter_call (codeAny_mono (call w s₀ s₁ mg mb fa o pm cd doc a vs ns G Y ho (fd_plain hd) hcd hmg hobj hints hlen hg) fun r s' hq => ?_)
 obtain ⟨rfl, h2, h3, h4⟩ := hq
 exact ⟨.inl ⟨.bool true, .bool true, [], rfl, fun _ => rfl, .bool true, Zie l _, fun _ => ⟨List.Pairwise.nil, fun _ hm => (nomatch hm)⟩⟩, h2, h3, h4⟩
end Att
namespace L2
open PySem PySem.Spec PyProof.Rows
theorem ZeJ : ∀ {vs : List Value} {ns : List Int}, IntsAre vs ns -> Vals (ns.map V.int) vs
 | _, _, .nil => .nil
 | _, _, .cons n t h => .cons ⟨t, rfl⟩ (ZeJ h)
termination_by structural a => a
def Only (H : Hp) : Prop := ∀ b, H b = none \/ ∃ o xs, H b = some (.frz o (.lst xs))
theorem Zjf {P : Program} {w : World} {K : Fg} {mg mb : Str -> Option Value} {CX : CXT} {k : Nat} {fa a : Addr} {fd : FuncData} {x : Str} {sp : Sp} {s₁ : Shared} {vs : List Value} {ns : List Int}
 (KX : K.In s₁.heap) (hns : s₁.heap.Ns mainGlobals mg) (hb : s₁.heap.Ns builtinsNs mb) (hbb : ∀ x : Str, x ≠ "__name__" -> mb x = bootBuiltins x) (hlim : s₁.heap.NoLimit) (hg : s₁.gens = #[])
 (ha : s₁.heap.get? a = some { cls := .type "list", data := .seq vs.toArray }) (hi : IntsAre vs ns) (hl : ns.length <= sizeLine) (hr : Room k callerA)
 (F : ∀ base : Heap, K.In base -> base.Ns mainGlobals mg -> FnOk P w K mg base CX k fa fd [x] sp) (hbind : ∀ (s : Shared) (u : Value), BindsTo s fd ⟨[u], []⟩ [(x, u)])
 (hsp : ∀ H : Hp, Only H -> SqL K H a (ns.map V.int) -> sp [.ref a] H (fun v _ => v = .bl true) fun _ _ _ => False)
 (hCX : ∀ H e s', CX [] H s₁ (fun _ _ _ => False) e s' -> False) :
 codeAny (model P w) callerA (.call (.ref fa) ⟨[.ref a], []⟩) (fun r s' => r = .ok (.ret (.bool true)) /\ OldK s₁.heap s'.heap /\ s'.os = s₁.os /\ AllBare s'.gens) s₁ := by
 have rv := ZeJ hi
 have lenV := hi.length
 have core : ∀ H : Hp, Only H -> SqL K H a (ns.map V.int) -> HOk P w H s₁.heap -> (∀ b, H b ≠ none -> b = a) -> (H a ≠ none -> K.lookup a = none) ->
  codeAny (model P w) callerA (.call (.ref fa) ⟨[.ref a], []⟩) (fun r s' => r = .ok (.ret (.bool true)) /\ OldK s₁.heap s'.heap /\ s'.os = s₁.os /\ AllBare s'.gens) s₁ := by
  intro H hO hS hok hA hK
  have base_of : ∀ {b : Addr} {o : Obj}, s₁.heap.get? b = some o -> H b = none -> (hidT s₁.heap H).get? b = some o := fun e n => ZiS e n
  have noA : ∀ {b : Addr} {o : Obj} {es : Array DictEntry} {ep : Nat}, s₁.heap.get? b = some o -> o.data = .dict es ep -> H b = none := fun {b o es ep} e d => by
   cases q : H b with
   | none => rfl
   | some u =>
    have e' : b = a := hA b (by rw [q]; simp)
    subst e'
    rw [ha] at e; cases e
    have d' : Data.seq vs.toArray _ = Data.dict es ep := d
    cases d'
  have nsK : ∀ {b : Addr} {m : Str -> Option Value}, s₁.heap.Ns b m -> (hidT s₁.heap H).Ns b m := fun {b m} ⟨o, es, ep, e, d, r⟩ => ⟨o, es, ep, base_of e (noA e d), d, r⟩
  have hKb : K.In (hidT s₁.heap H) := fun b o e => base_of (KX b o e) (by
   cases q : H b with
   | none => rfl
   | some u =>
    have e' : b = a := hA b (by rw [q]; simp)
    subst e'
    rw [hK (by rw [q]; simp)] at e; cases e)
  have hM : Mod K mg (hidT s₁.heap H) := ⟨hKb, nsK hns, ⟨mb, nsK hb, hbb⟩, let ⟨mc, h1, h2⟩ := hlim; ⟨mc, nsK h1, h2⟩⟩
  have e0 : Env0 P w K mg (hidT s₁.heap H) callerA [] s₁ H := ⟨rfl, hM, fun b o e => Zks e, Nat.le_of_eq (ZhC _ _), trivial, fun b hb => absurd (show b ∈ ([] : List Addr) from hb) (by simp), hok, .of_eq hg⟩
  refine codeAny_mono ((F _ hKb (nsK hns)).run callerA [] s₁ H ⟨[.ref a], []⟩ [.ref a] [.ref a] _ _ hr e0 (hbind s₁ (.ref a)) (.cons rfl .nil) (hsp H hO hS)) fun r s' h => ?_
  cases r with
  | error e => exact (hCX H e s' h).elim
  | ok fl =>
   cases fl with
   | next => exact False.elim h
   | brk => exact False.elim h
   | cont => exact False.elim h
   | ret u =>
    obtain ⟨v, H', os, bare, un, hok', r', q⟩ := h
    have q' : v = .bl true := q
    subst q'
    obtain rfl : u = Value.bool true := r'
    refine ⟨rfl, OldK.of_keep fun b o e => ?_, os, bare⟩
    cases q : H b with
    | none => exact un.keep b o e q (by intro z; exact absurd (show b ∈ ([] : List Addr) from z) (by simp)) (by simp)
    | some u =>
     rcases hO b with z | ⟨ob, xs, z⟩
     . rw [q] at z; cases z
     . have z2 := un.frzs b ob _ z
       obtain ⟨e1, _⟩ := hok b _ z
       obtain ⟨e2, _⟩ := hok' b _ z2
       rw [e] at e1; cases e1
       exact e2
 cases hk : K.lookup a with
 | some o =>
  have e := KX a o hk
  rw [ha] at e
  cases e
  refine core (fun _ => none) (fun _ => .inl rfl) (.inr ⟨_, vs.toArray, _, hk, rfl, rfl, rfl, by rw [List.size_toArray, lenV]; exact hl, by simpa using rv⟩) (fun b u z => by have z' : (none : Option HO) = some u := z; cases z') (fun b z => absurd rfl z) fun z => absurd rfl z
 | none =>
  refine core (fun b => if b = a then some (.frz { cls := .type "list", data := .seq vs.toArray } (.lst (ns.map V.int))) else none) (fun b => ?_) (.inl (.inr ⟨{ cls := .type "list", data := .seq vs.toArray }, if_pos rfl⟩)) (fun b u z => ?_) (fun b z => ?_) fun _ => hk
  . by_cases hb : b = a
    . exact .inr ⟨_, _, if_pos hb⟩
    . exact .inl (if_neg hb)
  . by_cases hb : b = a
    . have z' := (if_pos hb).symm.trans z
      cases z'
      subst hb
      exact ⟨ha, by rw [List.length_map]; exact hl, vs, _, rv, ha⟩
    . have z' := (if_neg hb).symm.trans z
      cases z'
  . by_cases hb : b = a
    . exact hb
    . exact absurd (if_neg hb) z
end L2
namespace L2
open PySem PySem.Spec PyProof.Rows
theorem ZkG {l : PySem.W.OpenLaw} {n k : Nat} {q : Program} {loose : List Str} {XP : (Str -> Option Value) -> Heap -> Prop} {YP : World -> Heap -> Prop} {d : DefRec} {K : Params -> Fg} {CX : World -> CXT} {sp : World -> Sp} {x : Str}
 (hn : l.most = some n) (hn2 : n <= sizeLine) (hdf : d.params.defaults = []) (hr : Room k callerA)
 (hY : ∀ (w : World) (h : Heap), YP w h -> (K w.params).In h)
 (F : ∀ (w : World) (mg : Str -> Option Value) (fa : Addr) (h : Heap), (K w.params).In h -> h.Ns mainGlobals mg -> mg d.name = some (.ref fa) ->
  ∃ fd : FuncData, (∀ (s : Shared) (u : Value), BindsTo s fd ⟨[u], []⟩ [(x, u)]) /\
   ∀ base : Heap, (K w.params).In base -> base.Ns mainGlobals mg -> FnOk l.prog w (K w.params) mg base (CX w) k fa fd [x] (sp w))
 (hsp : ∀ (w : World) (H : Hp) (a : Addr) (ns : List Int), ns.length <= n -> Only H -> SqL (K w.params) H a (ns.map V.int) -> sp w [.ref a] H (fun v _ => v = .bl true) fun _ _ _ => False)
 (hCX : ∀ (w : World) (H : Hp) (s : Shared) (e : Value) (s' : Shared), CX w [] H s (fun _ _ _ => False) e s' -> False) :
 PySem.W.WalkO q loose XP YP l.row.toRowW d [] (fun f vs => PySem.call f vs) := by
 refine Att.Zgh hn hdf fun w s₀ s₁ mg mb fa o pm cd doc a vs ns G Y ho hd hcd hmg hobj hints hlen hg => ?_
 have KX := hY w _ Y
 obtain ⟨fd, hb, hF⟩ := F w mg fa _ KX G.T.g hmg
 exact Zjf KX G.T.g G.T.b G.T.builtins G.T.nolimit hg hobj hints (Nat.le_trans hlen hn2) hr hF hb (fun H hO hS => hsp w H a ns hlen hO hS) fun H e s' => hCX w H s₁ e s'
theorem Zjg {l : PySem.W.OpenLaw} {n k : Nat} {q : Program} {loose : List Str} {XP : (Str -> Option Value) -> Heap -> Prop} {YP : World -> Heap -> Prop} {d : DefRec} {K : Params -> Fg} {CX : CXT} {sp : Fg -> Sp} {x : Str}
 (hn : l.most = some n) (hn2 : n <= sizeLine) (hdf : d.params.defaults = []) (hr : Room k callerA)
 (hY : ∀ (w : World) (h : Heap), YP w h -> (K w.params).In h)
 (F : ∀ (w : World) (mg : Str -> Option Value) (fa : Addr) (h : Heap), (K w.params).In h -> h.Ns mainGlobals mg -> mg d.name = some (.ref fa) ->
  ∃ fd : FuncData, (∀ (s : Shared) (u : Value), BindsTo s fd ⟨[u], []⟩ [(x, u)]) /\
   ∀ base : Heap, (K w.params).In base -> base.Ns mainGlobals mg -> FnOk l.prog w (K w.params) mg base CX k fa fd [x] (sp (K w.params)))
 (hsp : ∀ (K : Fg) (H : Hp) (a : Addr) (ns : List Int), ns.length <= n -> Only H -> SqL K H a (ns.map V.int) -> sp K [.ref a] H (fun v _ => v = .bl true) fun _ _ _ => False)
 (hCX : ∀ (H : Hp) (s : Shared) (e : Value) (s' : Shared), CX [] H s (fun _ _ _ => False) e s' -> False) :
 PySem.W.WalkO q loose XP YP l.row.toRowW d [] (fun f vs => PySem.call f vs) :=
 ZkG (K := K) (CX := fun _ => CX) (sp := fun w => sp (K w.params)) hn hn2 hdf hr hY F (fun w H a ns h1 h2 h3 => hsp (K w.params) H a ns h1 h2 h3) fun _ H s e s' => hCX H s e s'
end L2
namespace L2
open PySem PySem.Spec PyProof.Rows
noncomputable def Z6 (s : Stmt) (j : Nat) : Stmt := match s with
 | .ClassDef _ _ _ body _ _ _ _ _ _ _ => body.getD j (.Pass ⟨0, 0, 0, 0⟩)
 | _ => .Pass ⟨0, 0, 0, 0⟩
noncomputable def Zbv (s : Stmt) : Arguments := match s with
 | .FunctionDef _ a _ _ _ _ _ _ _ _ => a
 | _ => { posonlyargs := [], args := [], vararg := none, kwonlyargs := [], kw_defaults := [], kwarg := none, defaults := [] }
noncomputable def Zaz (s : Stmt) : List Stmt := match s with
 | .FunctionDef _ _ b _ _ _ _ _ _ _ => b
 | _ => []
noncomputable def Zu (s : Stmt) : Scope := match s with
 | .FunctionDef _ _ _ _ _ _ sc _ _ _ => sc
 | _ => { kind := .function, names := [], isGenerator := false, isCoroutine := false }
noncomputable abbrev CX0 : CXT := fun _ _ _ _ _ _ => False
noncomputable abbrev E0 : XK := fun _ _ _ => False
theorem Zhi {X : Cx} : Passes CX0 X E0 := fun _ _ _ _ _ _ _ h => h.elim
structure FunV (dV : Value) (K : Fg) (x qual : Str) (st : Stmt) (f : Addr) (fd : FuncData) : Prop where
 ex : ∃ (oc : Value) (od : Option Addr) (kV doc pm : Value) (an : Option Addr) (cdv ct : Value) (osl : Array (Option Value)),
  fd = PySem.W.fnOf x qual (Zbv st) (Zaz st) (Zu st) dV kV doc pm an cdv ct /\ K.lookup f = some ⟨oc, od, .func fd, osl⟩ /\ PySem.W.codeIn K cdv qual = true
 kp : PySem.W.keepIn K (.ref f) = true
noncomputable abbrev Fun := FunV .none
section
variable {P : Program} {w : World} {K : Fg} {mg : Str -> Option Value} {base : Heap}
theorem FunV.ok {dV : Value} {x qual : Str} {st : Stmt} {f : Addr} {fd : FuncData} {N ps : List Str} {k : Nat} {sp : Sp} (F : FunV dV K x qual st f fd) (S : FnScope N ps (Zu st)) (len : ∀ vs H Q E, sp vs H Q E -> vs.length = ps.length)
 (hbody : ∀ (cdv : Value) (A : Around) (outer : List Env) (s : Shared) (H : Hp) (vs : List V) (Q : VK) (E : XK), Room k (A.deeper (envOfC qual (Zu st) s.heap.objs.size f cdv)) -> sp vs H Q E ->
  ∃ t, PSs (cxOf CX0 P w K mg base N qual (Zu st) f cdv A outer s H E).nox (Zaz st) t /\ t { nx := fun _ H' => Q .non H', rt := Q } (start N vs) H) : FnOk P w K mg base CX0 (k + 1) f fd ps sp := by
 obtain ⟨oc, od, kV, doc, pm, an, cdv, ct, osl, rfl, lk, hcd⟩ := F.ex
 refine Zob lk hcd S len fun A outer s H vs Q E hr hsp => ?_
 obtain ⟨t, h, q⟩ := hbody cdv A outer s H vs Q E hr hsp
 exact ⟨t, h.nox, q⟩
theorem FunV.binds {x qual : Str} {st : Stmt} {f : Addr} {fd : FuncData} {ps : List Str} (F : Fun K x qual st f fd)
 (h : ∀ (kV doc pm : Value) (an : Option Addr) (cdv ct : Value) (us : List Value), us.length = ps.length -> bindArgs (PySem.W.fnOf x qual (Zbv st) (Zaz st) (Zu st) .none kV doc pm an cdv ct) ⟨us, []⟩ = pure (ps.zip us)) : Binds K fd ps [] := by
 obtain ⟨oc, od, kV, doc, pm, an, cdv, ct, osl, rfl, lk, hcd⟩ := F.ex
 exact .all (h kV doc pm an cdv ct)
theorem Zif {x qual : Str} {st : Stmt} {f : Addr} {oc : Value} {od an : Option Addr} {osl : Array (Option Value)} {kV doc pm cdv ct : Value} (l : K.lookup f = some ⟨oc, od, .func (PySem.W.fnOf x qual (Zbv st) (Zaz st) (Zu st) .none kV doc pm an cdv ct), osl⟩)
 (c : PySem.W.codeIn K cdv qual = true) (k : PySem.W.keepIn K (.ref f) = true) : Fun K x qual st f (PySem.W.fnOf x qual (Zbv st) (Zaz st) (Zu st) .none kV doc pm an cdv ct) := ⟨⟨oc, od, kV, doc, pm, an, cdv, ct, osl, rfl, l, c⟩, k⟩
end
def Same (H H' : Hp) : Prop := ∀ b o, H b = some o -> H' b = some o
theorem Same.refl (H : Hp) : Same H H := fun _ _ h => h
theorem Same.trans {H H1 H2 : Hp} (a : Same H H1) (b : Same H1 H2) : Same H H2 := fun c o h => b c o (a c o h)
theorem Same.seq {K : Fg} {H H' : Hp} {a : Addr} {xs : List V} (e : Same H H') (h : SqL K H a xs) : SqL K H' a xs := by
 rcases h with (h | ⟨o, h⟩) | h
 . exact .inl (.inl (e _ _ h))
 . exact .inl (.inr ⟨o, e _ _ h⟩)
 . exact .inr h
section
variable {X : Cx}
theorem Zig : ZD X (.builtin "len") (fun xs H Q => ∃ a kvs, xs = [V.ref a] /\ H a = some (.dK kvs) /\ Q (.int kvs.length) H) := by
 intro pins s σ H xs us Q I r h
 obtain ⟨a, kvs, rfl, ha, q⟩ := h
 obtain ⟨u, rfl, ru⟩ := Zdm r
 cases ru
 exact Zoe I (.inl ha) fun t s' I' => ⟨.int kvs.length, H, I', ⟨t, rfl⟩, q⟩
end
end L2
namespace L2
open PySem PySem.Spec PyProof.Rows
noncomputable def TB (T : Addr) : HO := .ext fun h => ∃ o ts, h.get? T = some o /\ o.data = .fields ts /\ 3 < ts.size
structure FlyT (φ : Value -> Prop) (H : Hp) (h : Heap) (ea : Addr) : Prop where
 ex : ∃ (C : Addr) (dx : Option Addr) (fs : List (Str × V)) (oe : Obj) (vs : Array Value) (T : Addr) (oT : Obj) (ts : Array Value) (fl : Value), H ea = some (.exc C dx false fs) /\ h.get? ea = some oe /\ oe.data = .fields vs /\ vs.size = 6 /\ vs[1]? = some (.ref T) /\
  H T = some (TB T) /\ h.get? T = some oT /\ oT.data = .fields ts /\ ts[3]? = some fl /\ φ fl
structure FlyN (H : Hp) (h : Heap) (ea : Addr) : Prop where
 ex : ∃ (C : Addr) (dx : Option Addr) (fs : List (Str × V)) (oe : Obj) (vs : Array Value), H ea = some (.exc C dx false fs) /\ h.get? ea = some oe /\ oe.data = .fields vs /\ vs.size = 6 /\ vs[1]? = some .none
def Fly (X : Cx) (H : Hp) (h : Heap) (ea : Addr) : Prop := FlyN H h ea \/ FlyT (fun fl => fl = .none \/ fl = rawInt X.env.locals) H h ea
section
variable {X : Cx} {A : Around} {M : Model} {E : Value -> Shared -> Prop} {pins : List (Addr × Obj)} {σ : St} {H : Hp} {s : Shared} {ea : Addr}
structure EndX extends Ends where
 xc : Addr -> St -> Hp -> Prop
abbrev TX := EndX -> St -> Hp -> Prop
def XP (X : Cx) (pins : List (Addr × Obj)) (xc : Addr -> St -> Hp -> Prop) (e : Value) (s' : Shared) : Prop :=
 X.xe e s' \/ ∃ ea σ' H', e = .ref ea /\ Inv X pins σ' H' s' /\ Fly X H' s'.heap ea /\ ∀ H'', Same H' H'' -> xc ea σ' H''
def PX (X : Cx) (st : Stmt) (t : TX) : Prop :=
 ∀ (pins : List (Addr × Obj)) (s : Shared) (σ : St) (H : Hp) (D : EndX), Inv X pins σ H s -> t D σ H -> wpAny (model X.prog X.w) X.A (exec st X.env) (SP X pins D.toEnds) (XP X pins D.xc) s
def PXs (X : Cx) (st : List Stmt) (t : TX) : Prop :=
 ∀ (pins : List (Addr × Obj)) (s : Shared) (σ : St) (H : Hp) (D : EndX), Inv X pins σ H s -> t D σ H -> wpAny (model X.prog X.w) X.A (execs st X.env) (SP X pins D.toEnds) (XP X pins D.xc) s
end
end L2
namespace L2
open PySem PySem.Spec PyProof.Rows
section
variable {X : Cx} {A : Around} {pins : List (Addr × Obj)} {σ : St} {H : Hp} {s : Shared} {pos : Pos}
noncomputable def CXx (P : Program) (w : World) : CXT := fun outer H s E e s' => ∃ ea H', e = .ref ea /\ s'.os = s.os /\ AllBare s'.gens /\ Un (frs outer) [] H H' s.heap s'.heap /\ HOk P w H' s'.heap /\ FlyT (fun fl => fl = Value.none) H' s'.heap ea /\
 ∀ H'', Same H' H'' -> E (.ref ea) none H''
def EXP (X : Cx) (pins : List (Addr × Obj)) (σ : St) (Ex : Addr -> Hp -> Prop) (e : Value) (s' : Shared) : Prop :=
 X.xe e s' \/ ∃ ea H', e = .ref ea /\ Inv X pins σ H' s' /\ Fly X H' s'.heap ea /\ ∀ H'', Same H' H'' -> Ex ea H''
abbrev TEX := St -> Hp -> VK -> (Addr -> Hp -> Prop) -> Prop
def PEx (X : Cx) (e : Expr) (t : TEX) : Prop :=
 ∀ (pins : List (Addr × Obj)) (s : Shared) (σ : St) (H : Hp) (Q : VK) (Ex : Addr -> Hp -> Prop), Inv X pins σ H s -> t σ H Q Ex -> wpAny (model X.prog X.w) X.A (eval e X.env) (EP X pins σ Q) (EXP X pins σ Ex) s
end
end L2
namespace L2
open PySem PySem.Spec PyProof.Rows
noncomputable def bmV : List Value := [.type "ValueError", .type "Exception", .type "BaseException", .type "object"]
noncomputable def Zkc : List Value -> Bool
 | .ref _ :: l => Zkc l
 | l => l == bmV
structure XC (K : Fg) (C : Addr) : Prop where
 obj : ∃ (nm q : Str) (N : Addr) (bs bm : List Value) (sn : List Str) (sub : List Value) (ab : Bool) (col : Option Bool) (dd : Option Addr) (k0 k1 k2 k3 k5 : Option Value),
  K.lookup C = some (excClassObj nm q C N bs bm true sn sub ab col dd k0 k1 k2 k3 k5 "ValueError.__new__") /\ PySem.W.tailIn K bmV bm = true /\ Zkc bm = true
 sa : PySem.W.findIn K (.ref C) (Str.ofString "__setattr__") = some (some (.builtin "object.__setattr__"))
 ga : PySem.W.findIn K (.ref C) (Str.ofString "__getattribute__") = some (some (.builtin "BaseException.__getattribute__"))
 kp : PySem.W.keepIn K (.ref C) = true
end L2
namespace L2
open PySem PySem.Spec PyProof.Rows
section
variable {prog : Program} {w : World} {A : Around} {E : Value -> Shared -> Prop} {K : Fg} {C f a : Addr} {h : Heap} {g : Array GenState} {d : Drawn} {t : Nat} {os : OsState} {rest : List Value} {oe : Obj} {od : Option Obj} {name : Str} {v : Value}
structure XD (K : Fg) (C : Addr) : Prop extends XC K C where
 hk : PySem.W.findIn K (.ref C) (Str.ofString "__getattr__") = some none
 hc : PySem.W.findIn K (.ref C) "__class__" = some (some (.builtin "object.__class__"))
 hn : PySem.W.specialIn K (.builtin "object.__class__") "__get__" = some (some (.builtin "getset_descriptor.__get__"))
 ht : PySem.W.takesIn K (.builtin "object.__class__") = some true
end
end L2
namespace L2
open PySem PySem.Spec PyProof.Rows
def GX (K : Fg) (n : Str) (C : Addr) : Prop := PySem.W.nsIn K mainGlobals n = some (some (.ref C)) /\ (PySem.W.clsIn K C).map (·.name) = some n
def bmOf (K : Fg) : List Str -> List Value -> Prop
 | [], bm => bm = bmV
 | n :: ns, bm => ∃ L bm', bm = .ref L :: bm' /\ GX K n L /\ bmOf K ns bm'
noncomputable def Zez : List Str := ["row", "number", "length", "numbers"]
structure XN (K : Fg) (ns : List Str) (C : Addr) : Prop extends XD K C where
 nms : ∃ cd, PySem.W.clsIn K C = some cd /\ bmOf K ns cd.mro
 nof : ∀ f ∈ Zez, Zay K C f
end L2
namespace L2
open PySem PySem.Spec PyProof.Rows
section
variable {X : Cx} {pins : List (Addr × Obj)} {σ : St} {H : Hp} {s : Shared} {A : Around} {M : Model} {E : Value -> Shared -> Prop} {i : Nat} {x : Str}
structure HS where
 c : Str
 nm : Option Nat
 ts : TS
noncomputable def HS.put (h : HS) (ea : Addr) (σ : St) : St := match h.nm with
 | none => σ
 | some i => σ.set i (some (.ref ea))
end
end L2
namespace L2
open PySem PySem.Spec PyProof.Rows
noncomputable def Zmk (sc : Scope) (x : Str) : Bool := sc.names.lookup x == some .cell
theorem Zb9 : ∀ (names : List (Str × NameKind)) (n : Nat) (acc : List (Str × Addr)), cellsFrom n names acc = cellsFrom n names [] ++ acc
 | [], _, _ => rfl
 | (x, k) :: r, n, acc => by
  unfold cellsFrom
  split
  . rw [Zb9 r (n + 1) ((x, n) :: acc), Zb9 r (n + 1) [(x, n)], List.append_assoc]; rfl
  . exact Zb9 r n acc
theorem ZcY : ∀ (names : List (Str × NameKind)) (n : Nat) (x : Str) (c : Addr), (x, c) ∈ cellsFrom n names [] -> (x, .cell) ∈ names
 | [], _, _, _, h => by simp [cellsFrom] at h
 | (y, k) :: r, n, x, c, h => by
  unfold cellsFrom at h
  split at h
  . rename_i hk
    rw [Zb9] at h
    (rcases List.mem_append.mp h with h | h)
    . exact List.mem_cons_of_mem _ (ZcY r _ x c h)
    . have e := List.mem_singleton.mp h
      cases e
      rw [eq_of_beq hk]
      exact List.mem_cons_self
  . exact List.mem_cons_of_mem _ (ZcY r _ x c h)
theorem ZdU : ∀ {names : List (Str × NameKind)} {x : Str} {k k' : NameKind}, (names.map (·.1)).Nodup -> names.lookup x = some k -> (x, k') ∈ names -> k = k'
 | [], _, _, _, _, hn, _ => by simp at hn
 | (y, kd) :: r, x, k, k', nd, h, hm => by
  (obtain ⟨n1, n2⟩ := List.nodup_cons.mp nd)
  rw [List.lookup_cons] at h
  cases hb : x == y with
  | true =>
   rw [hb] at h
   have e : kd = k := Option.some.inj h
   have hx := eq_of_beq hb
   subst hx
   rcases List.mem_cons.mp hm with q | q
   . cases q; exact e.symm
   . exact absurd (List.mem_map.mpr ⟨_, q, rfl⟩) n1
  | false =>
   rw [hb] at h
   rcases List.mem_cons.mp hm with q | q
   . cases q; simp at hb
   . exact ZdU n2 h q
theorem Zbg {α : Type} (x : Str) : ∀ (l r : List (Str × α)), (l ++ r).lookup x = match l.lookup x with | some c => some c | none => r.lookup x
 | [], r => rfl
 | (y, c) :: l, r => by
  rw [List.cons_append, List.lookup_cons, List.lookup_cons]
  cases x == y with
  | true => rfl
  | false => exact Zbg x l r
noncomputable def cxC (X : Cx) (N' : List Str) (scope : Scope) (cl : List (Str × Addr)) (C : Addr) (s₀ : Shared) (H₀ : Hp) (ex : List Addr) : Cx where
 prog := X.prog
 w := X.w
 K := X.K
 mg := X.mg
 base := X.base
 A := X.A
 N := N'
 s₀ := s₀
 H₀ := H₀
 env := compEnvC scope cl C X.env
 outer := X.stack
 stack := X.stack
 ex := ex
 fn := fun x => Zmk scope x
 calm := X.calm
 pn := []
 xe := fun _ _ => False
theorem ZdV {scope : Scope} {env : Env} (h : ∀ y ∈ scope.names, y.2 = .free -> ∃ c, env.cells.lookup y.1 = some c) :
 ∃ cl, closureFor scope env = pure cl /\ (∀ y c, cl.lookup y = some c -> env.cells.lookup y = some c) /\ ∀ y ∈ scope.names, y.2 = .free -> ∃ c, cl.lookup y.1 = some c := by
 have go : ∀ (names : List (Str × NameKind)) (acc : List (Str × Addr)), (∀ y ∈ names, y.2 = .free -> ∃ c, env.cells.lookup y.1 = some c) -> (∀ y c, acc.lookup y = some c -> env.cells.lookup y = some c) ->
  ∃ cl, (forIn names acc fun x r => if (x.2 == NameKind.free) = true then do let c <- cellOf env x.1; pure (ForInStep.yield ((x.1, c) :: r)) else pure (ForInStep.yield r) : Sem _) = pure cl /\
   (∀ y c, cl.lookup y = some c -> env.cells.lookup y = some c) /\ (∀ y c, acc.lookup y = some c -> ∃ c, cl.lookup y = some c) /\ ∀ y ∈ names, y.2 = .free -> ∃ c, cl.lookup y.1 = some c := by
  intro names
  induction names with
  | nil => intro acc _ h2; exact ⟨acc, rfl, h2, fun y c e => ⟨c, e⟩, fun y hy => nomatch hy⟩
  | cons z r ih =>
   intro acc h1 h2
   obtain ⟨n, k⟩ := z
   rw [List.forIn_cons]
   by_cases hk : k = .free
   . subst hk
     obtain ⟨c, hc⟩ := h1 (n, .free) List.mem_cons_self rfl
     obtain ⟨cl, e, a1, a2, a3⟩ := ih ((n, c) :: acc) (fun y hy => h1 y (List.mem_cons_of_mem _ hy)) (fun y d hd => by
      rw [List.lookup_cons] at hd
      cases hb : y == n with
      | true => rw [hb] at hd; simp only at hd; cases hd; rw [eq_of_beq hb]; exact hc
      | false => rw [hb] at hd; exact h2 y d hd)
     refine ⟨cl, ?_, a1, fun y d hd => ?_, fun y hy hf => ?_⟩
     . rw [<- e]
       have e1 : cellOf env n = pure c := by
        unfold cellOf
        rw [hc]
       simp only [beq_self_eq_true, if_true, e1, pure_bind]
     . by_cases hyn : y = n
       . exact a2 y c (by rw [hyn, List.lookup_cons, beq_self_eq_true])
       . exact a2 y d (by rw [List.lookup_cons, show (y == n) = false by simpa using hyn]; exact hd)
     . (rcases List.mem_cons.mp hy with rfl | hy)
       . exact a2 n c (by rw [List.lookup_cons, beq_self_eq_true])
       . exact a3 y hy hf
   . have hb : (k == NameKind.free) = false := by simpa using hk
     obtain ⟨cl, e, a1, a2, a3⟩ := ih acc (fun y hy => h1 y (List.mem_cons_of_mem _ hy)) h2
     refine ⟨cl, ?_, a1, a2, fun y hy hf => ?_⟩
     . rw [<- e]
       simp only [hb, Bool.false_eq_true, if_false, pure_bind]
     . (rcases List.mem_cons.mp hy with rfl | hy)
       . exact absurd hf hk
       . exact a3 y hy hf
 obtain ⟨cl, e, a1, _, a3⟩ := go scope.names [] h (fun y c e => nomatch e)
 refine ⟨cl, ?_, a1, a3⟩
 unfold closureFor
 simp only [] at e ⊢
 rw [e]
 rfl
theorem ZcZ {env : Env} : ∀ {names : List (Str × NameKind)} {x : Str}, names.lookup x = some .free ->
 (names.map fun (n, k) => if (k == NameKind.free && env.scope.kind == .function && env.kindOf n == some .cell) then (n, NameKind.cell) else (n, k)).lookup x = some .cell \/
 (names.map fun (n, k) => if (k == NameKind.free && env.scope.kind == .function && env.kindOf n == some .cell) then (n, NameKind.cell) else (n, k)).lookup x = some .free
 | [], _, h => by simp at h
 | (n, k) :: r, x, h => by
  have ih := @ZcZ env r x
  show List.lookup x ((if (k == NameKind.free && env.scope.kind == .function && env.kindOf n == some .cell) = true then (n, NameKind.cell) else (n, k)) :: _) = _ \/ List.lookup x ((if (k == NameKind.free && env.scope.kind == .function && env.kindOf n == some .cell) = true then (n, NameKind.cell) else (n, k)) :: _) = _
  cases hx : x == n with
  | true =>
   (simp only [List.lookup_cons, hx] at h)
   cases h
   by_cases hc : (NameKind.free == NameKind.free && env.scope.kind == .function && env.kindOf n == some .cell) = true
   . rw [if_pos hc]; left; simp only [List.lookup_cons, hx]
   . rw [if_neg hc]; right; simp only [List.lookup_cons, hx]
  | false =>
   (simp only [List.lookup_cons, hx] at h)
   (by_cases hc : (k == NameKind.free && env.scope.kind == .function && env.kindOf n == some .cell) = true)
   . (rw [if_pos hc]; simp only [List.lookup_cons, hx]; exact ih h)
   . (rw [if_neg hc]; simp only [List.lookup_cons, hx]; exact ih h)
noncomputable def Zfv (osc : Scope) (oN : List Str) (k : Nat) (js : List Nat) (N' : List Str) (scope : Scope) : Bool :=
 scope.kind == .function && decide (scope.names.map (·.1)).Nodup && scope.names.all (fun y => y.2 != .local || scope.names.lookup y.1 == some .local) &&
 scope.names.all (fun y => y.2 != .free || osc.names.lookup y.1 == some .cell || osc.names.lookup y.1 == some .free) &&
 N'.length == k + js.length && decide N'.Nodup &&
 (List.range js.length).all fun i => match js[i]? with
  | none => false
  | some j => match oN[j]? with
   | none => false
   | some y => N'[k + i]? == some y && scope.names.lookup y == some .free
structure CompScope (X : Cx) (k : Nat) (js : List Nat) (N' : List Str) (scope : Scope) : Prop where
 kind : scope.kind = .function
 ndn : (scope.names.map (·.1)).Nodup
 names : ∀ y ∈ scope.names, y.2 = .local -> scope.names.lookup y.1 = some .local
 free : ∀ y ∈ scope.names, y.2 = .free -> X.env.kindOf y.1 = some .cell \/ X.env.kindOf y.1 = some .free
 len : N'.length = k + js.length
 nd : N'.Nodup
 idx : ∀ i j : Nat, js[i]? = some j -> ∃ y, X.N[j]? = some y /\ N'[k + i]? = some y /\ scope.names.lookup y = some .free
theorem CompScope.of {X : Cx} {osc : Scope} {oN : List Str} {k : Nat} {js : List Nat} {N' : List Str} {scope : Scope} (h : Zfv osc oN k js N' scope = true) (e : X.env.scope = osc) (eN : X.N = oN) : CompScope X k js N' scope := by
 subst e eN
 unfold Zfv at h
 (simp only [Bool.and_eq_true] at h)
 obtain ⟨⟨⟨⟨⟨⟨h1, h2⟩, h3⟩, h4⟩, h5⟩, h6⟩, h7⟩ := h
 refine ⟨eq_of_beq h1, of_decide_eq_true h2, fun y hy hl => ?_, fun y hy hf => ?_, eq_of_beq h5, of_decide_eq_true h6, fun i j hj => ?_⟩
 . have q := List.all_eq_true.mp h3 y hy
   rw [hl] at q
   simpa using q
 . have q := List.all_eq_true.mp h4 y hy
   rw [hf] at q
   simp at q
   exact q
 . have hi : i < js.length := (List.getElem?_eq_some_iff.mp hj).1
   have q := List.all_eq_true.mp h7 i (List.mem_range.mpr hi)
   rw [hj] at q
   simp only at q
   cases hN : X.N[j]? with
   | none => rw [hN] at q; cases q
   | some y =>
    rw [hN] at q
    simp only [Bool.and_eq_true] at q
    exact ⟨y, rfl, eq_of_beq q.1, eq_of_beq q.2⟩
noncomputable def Zbh (js : List Nat) (σ : St) : St := js.map fun j => (σ[j]?).join
noncomputable def ZaR (k : Nat) (js : List Nat) (σ : St) : St := List.replicate k none ++ Zbh js σ
section
variable {X : Cx}
theorem Zjh {pins : List (Addr × Obj)} {σ : St} {H : Hp} {s : Shared} {k : Nat} {js : List Nat} {N' : List Str} {scope : Scope} {cl : List (Str × Addr)} {fp : List Addr} {h1 : Heap} {tk : Nat}
 (I : Inv X pins σ H s) (S : CompScope X k js N' scope) (hf : ∀ b ∈ fp, FpOk X pins H b) (hfo : ∀ b ∈ fp, b < s.heap.objs.size)
 (c1 : ∀ y c, cl.lookup y = some c -> X.env.cells.lookup y = some c) (c2 : ∀ y ∈ scope.names, y.2 = .free -> ∃ c, cl.lookup y.1 = some c)
 (ns : ∃ m, h1.Ns (s.heap.objs.size + 1) m) (kp : ∀ b o, s.heap.get? b = some o -> h1.get? b = some o) (hD : h1.get? s.heap.objs.size = some { cls := .type "list", data := .seq #[] }) (ck : CellsOk h1 (s.heap.objs.size + 2) (cellsFrom (s.heap.objs.size + 2) scope.names [])) :
 Inv (cxC X N' scope (cellsFrom (s.heap.objs.size + 2) scope.names cl) (s.heap.objs.size + 1) s H fp) [] (ZaR k js σ) (upd H s.heap.objs.size (.lst [])) { s with heap := h1, toks := tk } := by
 have hfr : H s.heap.objs.size = none := I.hok.fresh (Nat.le_refl _)
 have hfr1 : H (s.heap.objs.size + 1) = none := I.hok.fresh (Nat.le_succ _)
 have cells : ∀ y c, cl.lookup y = some c -> c < s.heap.objs.size := fun y c e => by
  obtain ⟨v, q⟩ := I.cell y c (c1 y c e)
  exact q.lt
 have exb : ∀ b ∈ fp, ∀ o, X.base.get? b = some o -> False := fun b hb o e => by
  rcases (hf b hb).2.2.2.1 with z | z
  . exact I.ok.noex b o e z
  . exact absurd (Nat.lt_of_lt_of_le (Heap.lt_size (I.ok.bs b o e).1) z) (Nat.lt_irrefl _)
 have exs : ∀ b ∈ fp, b ∉ frs X.stack := fun b hb z => by
  rcases List.mem_cons.mp (I.stkSub b z) with q | q
  . exact (hf b hb).2.1 q
  . exact (hf b hb).2.2.1 q
 obtain ⟨m1, hn1⟩ := ns
 rw [Zb9]
 generalize hL : cellsFrom (s.heap.objs.size + 2) scope.names [] = L at ck
 have memL : ∀ x c, (x, c) ∈ L -> scope.names.lookup x ≠ some .free := fun x c h q => by
  have := ZdU S.ndn q (ZcY _ _ _ _ (by rw [hL]; exact h))
  cases this
 have cel : ∀ x c, (L ++ cl).lookup x = some c -> ((x, c) ∈ L /\ s.heap.objs.size + 2 <= c /\ h1.IsCell c none) \/ (cl.lookup x = some c /\ L.lookup x = none) := fun x c e => by
  rw [Zbg] at e
  cases q : L.lookup x with
  | some c' =>
   rw [q] at e
   have e' : c' = c := Option.some.inj e
   subst e'
   have hm := PySem.mem_of_lookup q
   exact .inl ⟨hm, (ck.empty _ _ hm).2, (ck.empty _ _ hm).1⟩
  | none => rw [q] at e; exact .inr ⟨e, rfl⟩
 have freeL : ∀ x, scope.names.lookup x = some .free -> (L ++ cl).lookup x = cl.lookup x := fun x hx => by
  rw [Zbg]
  cases q : L.lookup x with
  | some c => exact absurd hx (memL x c (PySem.mem_of_lookup q))
  | none => rfl
 have upk : ∀ y, scope.names.lookup y = some .free -> ((cxC X N' scope (L ++ cl) (s.heap.objs.size + 1) s H fp).env.kindOf y = some .cell \/ (cxC X N' scope (L ++ cl) (s.heap.objs.size + 1) s H fp).env.kindOf y = some .free) := fun y hy => ZcZ hy
 have memf : ∀ y, scope.names.lookup y = some .free -> ∃ c, cl.lookup y = some c := fun y hy => c2 (y, .free) (PySem.mem_of_lookup hy) rfl
 have back : ∀ y, ((cxC X N' scope (L ++ cl) (s.heap.objs.size + 1) s H fp).env.kindOf y = some .cell \/ (cxC X N' scope (L ++ cl) (s.heap.objs.size + 1) s H fp).env.kindOf y = some .free) -> scope.names.lookup y = some .free \/ scope.names.lookup y = some .cell := by
  intro y hy
  have key : ∀ names : List (Str × NameKind),
   ((names.map fun (n, k) => if (k == NameKind.free && X.env.scope.kind == .function && X.env.kindOf n == some .cell) then (n, NameKind.cell) else (n, k)).lookup y = some .cell \/
   (names.map fun (n, k) => if (k == NameKind.free && X.env.scope.kind == .function && X.env.kindOf n == some .cell) then (n, NameKind.cell) else (n, k)).lookup y = some .free) -> names.lookup y = some .free \/ names.lookup y = some .cell := by
   intro names
   induction names with
   | nil => intro h; simp at h
   | cons z r ih =>
    intro h
    obtain ⟨n, kd⟩ := z
    have h' : List.lookup y ((if (kd == NameKind.free && X.env.scope.kind == .function && X.env.kindOf n == some .cell) = true then (n, NameKind.cell) else (n, kd)) :: r.map _) = _ \/
     List.lookup y ((if (kd == NameKind.free && X.env.scope.kind == .function && X.env.kindOf n == some .cell) = true then (n, NameKind.cell) else (n, kd)) :: r.map _) = _ := h
    rw [List.lookup_cons]
    cases hx : y == n with
    | true =>
     by_cases hc : (kd == NameKind.free && X.env.scope.kind == .function && X.env.kindOf n == some .cell) = true
     . have : (kd == NameKind.free) = true := by
        (simp only [Bool.and_eq_true] at hc)
        exact hc.1.1
       rw [eq_of_beq this]
       exact .inl rfl
     . rw [if_neg hc] at h'
       simp only [List.lookup_cons, hx] at h'
       rcases h' with q | q
       . exact .inr q
       . exact .inl q
    | false =>
     simp only
     by_cases hc : (kd == NameKind.free && X.env.scope.kind == .function && X.env.kindOf n == some .cell) = true
     . rw [if_pos hc] at h'
       simp only [List.lookup_cons, hx] at h'
       exact ih h'
     . rw [if_neg hc] at h'
       simp only [List.lookup_cons, hx] at h'
       exact ih h'
  exact key scope.names hy
 have hasL : ∀ y, ∀ c, cl.lookup y = some c -> ∃ c, (L ++ cl).lookup y = some c := fun y c e => by
  rw [Zbg]
  cases q : L.lookup y with
  | some c' => exact ⟨c', rfl⟩
  | none => exact ⟨c, e⟩
 refine ⟨⟨I.mod, S.kind, I.ok.glob, I.ok.blt, Nat.le_succ _, fun x y c e1 e2 => ?_, fun y hy => ?_, fun x c hx e => ?_, I.ok.hd, I.ok.frames, .inl rfl,
  fun b hb => ⟨Nat.ne_of_lt (Nat.lt_succ_of_lt (hfo b hb)), fun x c e => ?_⟩, I.bs, Nat.le_trans I.ok.bsz I.sz, fun b o e hb => exb b hb o e, exs, I.stack, I.stkFree⟩,
  rfl, I.bare, Un.laid kp (Nat.le_refl _) hfr, ⟨m1, hn1, fun i x v e1 e2 e3 => ?_⟩, fun x c e => ?_, ?_, fun x c e => ?_, fun p hp => (nomatch hp), I.hok.laid kp (Nat.le_refl _) ⟨by simp, [], 0, .nil, hD⟩, ?_⟩
 . rcases cel x c e1 with ⟨h1', h2', _⟩ | ⟨h1', _⟩ <;> rcases cel y c e2 with ⟨g1', g2', _⟩ | ⟨g1', _⟩
   . exact name_of_addr ck.apart h1' g1'
   . exact absurd (Nat.lt_of_lt_of_le (cells y c g1') (Nat.le_trans (Nat.le_add_right _ _) h2')) (Nat.lt_irrefl _)
   . exact absurd (Nat.lt_of_lt_of_le (cells x c h1') (Nat.le_trans (Nat.le_add_right _ _) g2')) (Nat.lt_irrefl _)
   . exact I.ok.inj x y c (c1 x c h1') (c1 y c g1')
 . rcases back y hy with q | q
   . obtain ⟨c, hc⟩ := memf y q
     exact hasL y c hc
   . obtain ⟨c, hc⟩ := Zc9 (sc := scope) (n := s.heap.objs.size + 2) q
     rw [hL] at hc
     refine ⟨c, ?_⟩
     show (L ++ cl).lookup y = some c
     rw [Zbg, hc]
 . have q : scope.names.lookup x = some .cell := eq_of_beq hx
   obtain ⟨c', hc⟩ := Zc9 (sc := scope) (n := s.heap.objs.size + 2) q
   rw [hL] at hc
   rcases cel x c e with ⟨_, h2, _⟩ | ⟨_, h2⟩
   . exact Nat.le_trans (Nat.le_add_right _ _) h2
   . rw [hc] at h2; cases h2
 . rcases cel x c e with ⟨_, h2, _⟩ | ⟨h2, _⟩
   . exact fun z => absurd (Nat.lt_of_lt_of_le (hfo b hb) (Nat.le_trans (Nat.le_add_right _ _) h2)) (by rw [z]; exact Nat.lt_irrefl _)
   . exact (hf b hb).2.2.2.2.1 x c (c1 x c h2)
 . -- a name's value within the block
   have hi : ¬ i < k := fun hi => by
    unfold ZaR at e2
    rw [List.getElem?_append_left (by simpa using hi), List.getElem?_replicate, if_pos hi] at e2
    cases e2
   have hik : k <= i := Nat.le_of_not_lt hi
   have e2' : (Zbh js σ)[i - k]? = some (some v) := by
    unfold ZaR at e2
    rw [List.getElem?_append_right (by simpa using hik), List.length_replicate] at e2
    exact e2
   unfold Zbh at e2'
   rw [List.getElem?_map] at e2'
   cases hj : js[i - k]? with
   | none => rw [hj] at e2'; cases e2'
   | some j =>
    rw [hj] at e2'
    have e4 : (σ[j]?).join = some v := Option.some.inj e2'
    obtain ⟨y, n1, n2, n3⟩ := S.idx (i - k) j hj
    rw [Nat.add_sub_cancel' hik] at n2
    have e1' : N'[i]? = some x := e1
    rw [e1'] at n2
    obtain rfl : x = y := Option.some.inj n2
    have e5 : σ[j]? = some (some v) := by
     cases q : σ[j]? with
     | none => rw [q] at e4; cases e4
     | some o => rw [q] at e4; exact congrArg some e4
    obtain ⟨m, hn, hl⟩ := I.loc
    have hk := S.free (x, .free) (PySem.mem_of_lookup n3) rfl
    have hv : Vis X.env.scope x := .inr hk
    obtain ⟨u, r, l⟩ := hl j x v n1 e5 hv
    refine ⟨u, r, .inr ⟨upk x n3, ?_⟩⟩
    rcases l with ⟨q, _⟩ | ⟨_, c, hc, hcell⟩
    . rcases hk with z | z <;> (rw [show X.env.kindOf x = some NameKind.local from q] at z; cases z)
    . obtain ⟨c', hc'⟩ := memf x n3
      have : c' = c := Option.some.inj ((c1 x c' hc').symm.trans hc)
      subst this
      obtain ⟨o, ho, hd⟩ := hcell
      exact ⟨c', (freeL x n3).trans hc', o, kp _ _ ho, hd⟩
 . rcases cel x c e with ⟨_, _, h3⟩ | ⟨h2, _⟩
   . exact ⟨_, h3⟩
   . obtain ⟨v, o, ho, hd⟩ := I.cell x c (c1 x c h2)
     exact ⟨v, o, kp _ _ ho, hd⟩
 . show upd H s.heap.objs.size (.lst []) (s.heap.objs.size + 1) = none
   rw [Zn (Nat.succ_ne_self _)]
   exact hfr1
 . show upd H s.heap.objs.size (.lst []) c = none
   rcases cel x c e with ⟨_, h2, _⟩ | ⟨h2, _⟩
   . rw [Zn (fun z : c = s.heap.objs.size => Nat.not_succ_le_self s.heap.objs.size (Nat.le_trans (Nat.le_succ _) (by rw [z] at h2; exact h2)))]
     exact I.hok.fresh (Nat.le_trans (Nat.le_add_right _ _) h2)
   . rw [Zn (Nat.ne_of_lt (cells x c h2))]
     exact I.freeC x c (c1 x c h2)
 . show (ZaR k js σ).length = N'.length
   unfold ZaR Zbh
   rw [List.length_append, List.length_replicate, List.length_map, S.len]
def PIf (X : Cx) (ifs : List Expr) (t : TT) : Prop :=
 ∀ (pins : List (Addr × Obj)) (s : Shared) (σ : St) (H : Hp) (Q : Bool -> Hp -> Prop), Inv X pins σ H s -> t σ H Q ->
  wpAny (model X.prog X.w) X.A (forIn ifs true fun c r => if r = true then do let ok <- isTrue c X.env (eval c X.env); pure (ForInStep.yield ok) else pure (ForInStep.yield r)) (TP X pins σ Q) X.xe s
def tIf0 : TT := fun _ H Q => Q true H
theorem ZkH : PIf X [] tIf0 := fun _ _ _ H _ I h => wpAny_tests_nil ⟨H, I, h⟩
theorem ZkI {c : Expr} {t : TT} (h : PT X c t) : PIf X [c] t := fun pins s σ H Q I q => wpAny_tests_one (h pins s σ H Q I q)
def Zhj (J : It) (g : TG) (tif : TT) (te : TE) (D : Addr) (Q : VK) (W : Nat -> Nat -> St -> List V -> Hp -> Prop) : Prop :=
 ∀ i m σ ys H, W i m σ ys H -> H D = some (.lst ys) -> (J.stop i H /\ Q (.ref D) H) \/ (J.go i H /\ ∀ x H', J.yld i H x H' -> g x σ H' fun σ2 H2 => tif σ2 H2 fun b H3 =>
  if b = true then te σ2 H3 fun y H4 => H4 D = some (.lst ys) /\ ys.length < sizeLine /\ ∃ m', m' < m /\ W (i + 1) m' σ2 (ys ++ [y]) (upd H4 D (.lst (ys ++ [y])))
  else H3 D = some (.lst ys) /\ ∃ m', m' < m /\ W (i + 1) m' σ2 ys H3)
theorem Zih {elt tg iter : Expr} {ifs : List Expr} {scope : Scope} {pos : Pos} {it D : Addr} {J : It} {fp : List Addr} {tn : Nat -> Heap -> Prop} {g : TG} {tif : TT} {te : TE} {Q : VK} {R : Result -> Shared -> Prop}
 (hx : ∀ e s', X.xe e s' -> False) (hc : X.calm = true) (T : Turn X.prog X.w X.K tg J fp it tn) (hg : PG X tg g) (hif : PIf X ifs tif) (he : PE X elt te)
 (stat : ∀ {H' : Hp}, (∀ b ∈ fp, H' b = none) -> ∀ b ∈ fp, FpOk X [] H' b)
 {W : Nat -> Nat -> St -> List V -> Hp -> Prop} (turn : Zhj J g tif te D Q W)
 (hR : ∀ σ' H' s', Inv X [] σ' H' s' -> Q (.ref D) H' -> R (.ok .next) s')
 {σ : St} {H : Hp} {s : Shared} {m : Nat} (I : Inv X [] σ H s) (st : tn 0 s.heap) (fr : ∀ b ∈ fp, H b = none) (hD : H D = some (.lst [])) (w0 : W 0 m σ [] H) :
 codeAny (model X.prog X.w) X.A (.compLoop (.ListComp elt [⟨tg, iter, ifs, 0⟩] scope pos) 0 (.ref it) (.ref D) X.env) R s := by
 refine codeAny_loop rfl (fun n s' => ∃ i ys σ' H', Inv X [] σ' H' s' /\ tn i s'.heap /\ (∀ b ∈ fp, H' b = none) /\ H' D = some (.lst ys) /\ W i n σ' ys H') (fun n s3 hI => ?_) m ⟨0, [], σ, H, I, st, fr, hD, w0⟩
 obtain ⟨i, ys, σ3, H3, I3, st3, fr3, d3, w3⟩ := hI
 show wpAny _ X.A ((compTurn (.ListComp elt [⟨tg, iter, ifs, 0⟩] scope pos) 0 (.ref it) (.ref D) X.env).onRaise (fun x => do noteFrame x X.env; theTreesLotGoes x)) _ _ s3
 refine wpAny_noted ?_
 rw [compTurn_list]
 (refine wpAny_bind (wpAny_standAt (wpAny_bind ?_)))
 have sub : ∀ {α : Type} {t : Sem α} {P : α -> Shared -> Prop} {E' : Value -> Shared -> Prop} {s : Shared}, wpAny (model X.prog X.w) X.A t P X.xe s -> wpAny (model X.prog X.w) X.A t P E' s := fun h => wpAny_mono h (fun _ _ q => q) fun e s' q => (hx e s' q).elim
 rcases turn i n σ3 ys H3 w3 d3 with ⟨stop, q⟩ | ⟨go, step⟩
 . refine sub (thn (T.done X rfl rfl rfl hc i [] s3 σ3 H3 X.xe I3 (stat fr3) st3 stop) fun r s4 z0 => ?_)
   obtain ⟨hr, I4⟩ := z0
   subst hr
   exact wpAny_pure (hR σ3 H3 s4 I4 q)
 . refine sub (thn (T.item X rfl rfl rfl hc i [] s3 σ3 H3 X.xe I3 (stat fr3) st3 go) fun r s4 z0 => ?_)
   obtain ⟨u, hr, h4⟩ := z0
   subst hr
   refine wpAny_bind (sub (thn h4 fun _ s5 z0 => ?_))
   obtain ⟨x, H5, I5, r5, y5, st5, fr5⟩ := z0
   have I5' := I5.pinned (stat fr5) (T.obj _ _ st5)
   refine wpAny_bind (sub (thn (hg _ s5 σ3 H5 x u _ I5' r5 (step x H5 y5)) fun _ s6 z0 => ?_))
   obtain ⟨σ6, H6, I6, q6⟩ := z0
   have again : ∀ {s7 : Shared} {H7 : Hp} {ys7 : List V}, Inv X ([] ++ ZcV fp s5.heap) σ6 H7 s7 -> H7 D = some (.lst ys7) -> (∃ m', m' < n /\ W (i + 1) m' σ6 ys7 H7) ->
    ∃ m, m < n /\ ∃ i ys σ' H', Inv X [] σ' H' s7 /\ tn i s7.heap /\ (∀ b ∈ fp, H' b = none) /\ H' D = some (.lst ys) /\ W i m σ' ys H' := fun {s7 H7 ys7} I7 d7 w7 => by
    obtain ⟨m', hm, w7⟩ := w7
    refine ⟨m', hm, i + 1, ys7, σ6, H7, I7.unpinned, T.keep _ _ _ st5 fun b hb o e => (I7.pin (b, o) (List.mem_append_right _ (List.mem_append_right _ (ZbL hb e)))).1, fun b hb => ?_, d7, w7⟩
    obtain ⟨o, e, d⟩ := T.obj _ _ st5 b hb
    exact (I7.pin (b, o) (List.mem_append_right _ (List.mem_append_right _ (ZbL hb e)))).2.1
   refine wpAny_bind (sub (thn (hif _ s6 σ6 H6 _ I6 q6) fun ok s7 z0 => ?_))
   obtain ⟨H7, I7, q7⟩ := z0
   cases ok with
   | false =>
    rw [if_neg Bool.false_ne_true] at q7
    exact wpAny_pure ⟨rfl, again I7 q7.1 q7.2⟩
   | true =>
    rw [if_pos rfl] at q7
    refine wpAny_bind (wpAny_bind (sub (thn (he _ s7 σ6 H7 _ I7 q7) fun y s8 z0 => ?_)))
    obtain ⟨v, H8, I8, r8, d8, z8, w8⟩ := z0
    have ap := ZeH (X := X) _ s8 σ6 H8 (.ref D) [v] (.ref D) [y] (fun _ H9 => H9 = upd H8 D (.lst (ys ++ [v]))) I8 rfl (.cons r8 .nil) ⟨D, ys, v, rfl, rfl, d8, z8, rfl⟩
    refine wpAny_bind (sub (thn ap fun _ s9 z0 => ?_))
    obtain ⟨_, H9, I9, _, e9⟩ := z0
    subst e9
    exact wpAny_pure (wpAny_pure ⟨rfl, again I9 Zk w8⟩)
def Zfc (k : Nat) (js : List Nat) (wi : TI) (g : TG) (tif : TT) (te : TE) : TE := fun σ H Q => wi σ H fun J H1 => ∀ D, H1 D = none -> ∃ W : Nat -> Nat -> St -> List V -> Hp -> Prop,
 (∃ m, W 0 m (ZaR k js σ) [] (upd H1 D (.lst []))) /\ Zhj J g tif te D Q W
theorem Zgi {M : Model} {A : Around} {E : Value -> Shared -> Prop} {s : Shared} {scope : Scope} {globals : Addr} {cl : List (Str × Addr)} {qual : Str} {outer : Env} {Q : Env -> Shared -> Prop}
 (h : ∀ h', (∃ m, h'.Ns s.heap.objs.size m) -> (∀ b o, s.heap.get? b = some o -> h'.get? b = some o) -> CellsOk h' (s.heap.objs.size + 1) (cellsFrom (s.heap.objs.size + 1) scope.names []) ->
  Q (newEnv scope s.heap.objs.size globals (cellsFrom (s.heap.objs.size + 1) scope.names cl) qual none .none (some outer) builtinsNs) { s with heap := h' }) :
 wpAny M A (newFunctionEnv scope globals cl [] qual none .none (some outer)) Q E s := by
 (simp only [newFunctionEnv, Option.isSome_some, if_true])
 (refine wpAny_bind (wpAny_alloc ?_))
 (refine wpAny_bind (wpAny_layCells _ (fun name kind cells => by cases hkc : kind == NameKind.cell <;> simp [hkc]) _ _ _ _ ?_))
 have ok := cellsFrom_ok scope.names (s.heap.push { cls := .type "dict", data := .dict #[] }) (s.heap.objs.size + 1) [] ⟨fun _ _ hm => (nomatch hm), List.Pairwise.nil⟩ (by rw [Heap.size_push]; exact Nat.le_refl _)
 rw [Heap.size_push] at ok
 rw [show ({ s with heap := s.heap.push { cls := .type "dict", data := .dict #[] } } : Shared).heap.objs.size = s.heap.objs.size + 1 from Heap.size_push ..]
 refine wpAny_bind ?_
 rw [List.forIn_nil]
 exact wpAny_pure (wpAny_pure (h _ ⟨_, (Heap.Ns.new s.heap (.type "dict")).keeps (pushCells_keeps _ _)⟩ (fun b o e => pushCells_keeps _ _ b o (Heap.get?_push_of_some _ e)) ok))
theorem ZdW {elt tg iter : Expr} {ifs : List Expr} {scope : Scope} {pos : Pos} {k : Nat} {js : List Nat} {N' : List Str} {J : It} {fp : List Addr} {tn : Nat -> Heap -> Prop} {it : Addr} {g : TG} {tif : TT} {te : TE} {Q : VK} {E : Value -> Shared -> Prop}
 {pins : List (Addr × Obj)} {s : Shared} {σ : St} {H : Hp} {cl : List (Str × Addr)} {RR : Value -> Addr -> Result -> Shared -> Prop}
 (hc : X.calm = true) (S : CompScope X k js N' scope) (T : Turn X.prog X.w X.K tg J fp it tn) (st : tn 0 s.heap) (hf : ∀ b ∈ fp, FpOk X pins H b)
 (c1 : ∀ y c, cl.lookup y = some c -> X.env.cells.lookup y = some c) (c2 : ∀ y ∈ scope.names, y.2 = .free -> ∃ c, cl.lookup y.1 = some c)
 (hin : ∀ (cl : List (Str × Addr)) (C : Addr) (s₀ : Shared) (H₀ : Hp) (ex : List Addr), PG (cxC X N' scope cl C s₀ H₀ ex) tg g /\ PIf (cxC X N' scope cl C s₀ H₀ ex) ifs tif /\ PE (cxC X N' scope cl C s₀ H₀ ex) elt te)
 (I : Inv X pins σ H s) (q : ∀ D, H D = none -> ∃ W : Nat -> Nat -> St -> List V -> Hp -> Prop, (∃ m, W 0 m (ZaR k js σ) [] (upd H D (.lst []))) /\ Zhj J g tif te D Q W)
 (hRR : ∀ (D C : Addr) (s' : Shared) (H' : Hp), s.heap.get? C = none -> (∃ m, s'.heap.Ns C m) -> Inv X pins σ H' s' -> FpOk X pins H' C -> Q (.ref D) H' -> RR (.ref D) C (.ok .next) s') :
 wpAny (model X.prog X.w) X.A (newList []) (fun acc s₃ => wpAny (model X.prog X.w) X.A (newFunctionEnv scope X.env.globals cl [] X.env.qual none .none (some X.env)) (fun cenv s₄ =>
  codeAny (model X.prog X.w) X.A (.compStart (.ListComp elt [⟨tg, iter, ifs, 0⟩] scope pos) 0 (.ref it) acc { cenv with scope := relabel scope X.env }) (RR acc cenv.locals) s₄) E s₃) E s := by
 refine wpAny_newObj_type (Zgi fun h₁ hns₁ hkp₁ hck₁ => ?_)
 dsimp only at hns₁ hkp₁ hck₁ ⊢
 generalize hH2 : s.heap.push { cls := .type "list", dict := none, data := .seq ([] : List Value).toArray } = H2 at hns₁ hkp₁ hck₁ ⊢
 have hC : H2.objs.size = s.heap.objs.size + 1 := by rw [<- hH2, Heap.size_push]
 rw [hC] at hns₁ hck₁ ⊢
 have kp : ∀ b o, s.heap.get? b = some o -> h₁.get? b = some o := fun b o e => hkp₁ b o (hH2 ▸ Heap.get?_push_of_some _ e)
 have hD : h₁.get? s.heap.objs.size = some { cls := .type "list", data := .seq #[] } := hkp₁ _ _ (hH2 ▸ Heap.get?_push_size _ rfl)
 have hfo : ∀ b ∈ fp, b < s.heap.objs.size := fun b hb => by obtain ⟨o, e, _⟩ := T.obj _ _ st b hb; exact Heap.lt_size e
 obtain ⟨W, ⟨m0, w0⟩, turn⟩ := q s.heap.objs.size (I.hok.fresh (Nat.le_refl _))
 obtain ⟨gG, gI, gE⟩ := hin (cellsFrom (s.heap.objs.size + 2) scope.names cl) (s.heap.objs.size + 1) s H fp
 have fresh1 : s.heap.get? (s.heap.objs.size + 1) = none := by
  cases e : s.heap.get? (s.heap.objs.size + 1) with
  | none => rfl
  | some o => exact absurd (Heap.lt_size e) (Nat.not_lt.mpr (Nat.le_succ _))
 have I1 : ∀ tk, Inv (cxC X N' scope (cellsFrom (s.heap.objs.size + 2) scope.names cl) (s.heap.objs.size + 1) s H fp) [] (ZaR k js σ) (upd H s.heap.objs.size (.lst [])) { s with heap := h₁, toks := tk } := fun tk => Zjh I S hf hfo c1 c2 hns₁ kp hD hck₁
 have ffr : ∀ b ∈ fp, upd H s.heap.objs.size (.lst []) b = none := fun b hb => by
  rw [Zn (Nat.ne_of_lt (hfo b hb))]
  exact (hf b hb).1
 have exs : ∀ b ∈ fp, b ∉ frs X.stack := (I1 0).ok.exfs
 have stat : ∀ {H' : Hp}, (∀ b ∈ fp, H' b = none) -> ∀ b ∈ fp, FpOk (cxC X N' scope (cellsFrom (s.heap.objs.size + 2) scope.names cl) (s.heap.objs.size + 1) s H fp) [] H' b := fun hn b hb =>
  ⟨hn b hb, ((I1 0).ok.exf b hb).1, exs b hb, .inl hb, ((I1 0).ok.exf b hb).2, fun p hp => (nomatch hp)⟩
 have st1 : tn 0 h₁ := T.keep _ _ _ st fun b _ o e => kp b o e
 have loop : ∀ tk, codeAny (model X.prog X.w) X.A (.compLoop (.ListComp elt [⟨tg, iter, ifs, 0⟩] scope pos) 0 (.ref it) (.ref s.heap.objs.size) (compEnvC scope (cellsFrom (s.heap.objs.size + 2) scope.names cl) (s.heap.objs.size + 1) X.env))
  (RR (.ref s.heap.objs.size) (s.heap.objs.size + 1)) { s with heap := h₁, toks := tk } := fun tk => by
  refine Zih (X := cxC X N' scope (cellsFrom (s.heap.objs.size + 2) scope.names cl) (s.heap.objs.size + 1) s H fp) (fun _ _ z => z) hc T gG gI gE stat turn (fun σ' H' s' J q' => ?_) (I1 tk) st1 ffr Zk w0
  have u : Un (frs X.stack) fp H H' s.heap s'.heap := J.base
  have J1 : Inv X pins σ H' s' := I.call' J.os u J.hok J.bare fun b hb => ⟨(hf b hb).2.2.2.1, (hf b hb).2.1, (hf b hb).2.2.2.2.1, (hf b hb).2.2.2.2.2⟩
  obtain ⟨m', hn', _⟩ := J.loc
  refine hRR _ _ s' H' fresh1 ⟨m', hn'⟩ J1 ⟨J.free, Nat.ne_of_gt (Nat.lt_succ_of_lt I.lt), I.nofs (Nat.le_succ _), .inr (Nat.le_trans I.sz (Nat.le_succ _)), fun x c e z => ?_, fun p hp z => ?_⟩ q'
  . obtain ⟨v, qc⟩ := I.cell x c e
    have h1 := qc.lt
    rw [z] at h1
    exact absurd h1 (Nat.not_lt.mpr (Nat.le_succ _))
  . have h1 := Heap.lt_size (I.pin p hp).1
    rw [z] at h1
    exact absurd h1 (Nat.not_lt.mpr (Nat.le_succ _))
 exact codeAny_compStart_list (loop _) (T.self X.A 0 _ _ _ st1 (loop _))
theorem ZkJ {elt tg iter : Expr} {ifs : List Expr} {scope : Scope} {pos : Pos} {k : Nat} {js : List Nat} {N' : List Str} {wi : TI} {g : TG} {tif : TT} {te : TE}
 (hc : X.calm = true) (S : CompScope X k js N' scope) (hi : PI X tg iter wi)
 (hin : ∀ (cl : List (Str × Addr)) (C : Addr) (s₀ : Shared) (H₀ : Hp) (ex : List Addr), PG (cxC X N' scope cl C s₀ H₀ ex) tg g /\ PIf (cxC X N' scope cl C s₀ H₀ ex) ifs tif /\ PE (cxC X N' scope cl C s₀ H₀ ex) elt te)
 (hs : ∀ x, foldedSetIterable iter X.env x = pure x := by intro _; rfl) : PE X (.ListComp elt [⟨tg, iter, ifs, 0⟩] scope pos) (Zfc k js wi g tif te) := by
 intro pins s σ H Q I h
 obtain ⟨cl, ec, c1, c2⟩ := ZdV (scope := scope) (env := X.env) fun y hy hf => I.ok.has y.1 (S.free y hy hf)
 rw [eval_ListComp]
 refine wpAny_comprehension_free (use := none) rfl hs ec S.kind S.names (thn (hi pins s σ H _ I h) fun xv s1 h1 => thn h1 fun itv s2 h2 => ?_)
 obtain ⟨it, fp, tn, J, H2, e, I2, T, st2, f2, q⟩ := h2
 subst e
 refine ZdW (RR := fun acc C => compPost (model X.prog X.w) X.A X.xe none (EP X pins σ Q) acc C) hc S T st2 f2 c1 c2 hin I2 q ?_
 intro D C s' H' _ hn J1 fC q'
 obtain ⟨m', hn⟩ := hn
 obtain ⟨f0, f1, f2, f3, f4, f5⟩ := fC
 exact ⟨m', hn, fun h' hs' => ⟨.ref D, H', J1.turned (t' := s'.toks) (fun b o hb e => hs'.extBut b o hb e) f0 f1 f3 f4 f5, rfl, q'⟩⟩
theorem ZkK {i : Nat} {x : Str} {elt tg iter : Expr} {ifs : List Expr} {scope : Scope} {pos spos pos' : Pos} {k : Nat} {js : List Nat} {N' : List Str} {wi : TI} {g : TG} {tif : TT} {te : TE}
 (hN : X.N.Nodup) (hi : X.N[i]? = some x) (hx : Loc X.env.scope x)
 (hc : X.calm = true) (S : CompScope X k js N' scope) (hit : PI X tg iter wi)
 (hin : ∀ (cl : List (Str × Addr)) (C : Addr) (s₀ : Shared) (H₀ : Hp) (ex : List Addr), PG (cxC X N' scope cl C s₀ H₀ ex) tg g /\ PIf (cxC X N' scope cl C s₀ H₀ ex) ifs tif /\ PE (cxC X N' scope cl C s₀ H₀ ex) elt te)
 (hsw : swapsWith (.ListComp elt [⟨tg, iter, ifs, 0⟩] scope pos) (some (.Name x pos')) spos.line X.env = pure true := by rfl)
 (hf : X.fn x = true \/ X.env.scope.names.lookup x = some .local := by first | exact .inl rfl | exact .inr rfl | assumption)
 (hs : ∀ x, foldedSetIterable iter X.env x = pure x := by intro _; rfl) : PS X (.Assign [.Name x pos'] (.ListComp elt [⟨tg, iter, ifs, 0⟩] scope pos) spos) (tAsg (Zfc k js wi g tif te) (Zck i)) := by
 intro pins s σ H D I h
 obtain ⟨cl, ec, c1, c2⟩ := ZdV (scope := scope) (env := X.env) fun y hy hf => I.ok.has y.1 (S.free y hy hf)
 (rw [exec_Assign_Name_used _ _ _ _ hsw])
 (refine wpAny_bind (wpAny_standAt (wpAny_bind ?_)))
 show wpAny _ X.A (do let _ <- comprehension (.ListComp elt [⟨tg, iter, ifs, 0⟩] scope pos) scope X.env _ (newList []) false (eval iter X.env) (some (assign (.Name x pos') X.env))) _ _ s
 refine wpAny_bind (wpAny_mono (wpAny_comprehension_free (use := some (assign (.Name x pos') X.env)) (Q := fun _ s' => SP X pins D .next s') rfl hs ec S.kind S.names
  (thn (hit pins s σ H _ I h) fun xv s1 h1 => thn h1 fun itv s2 h2 => ?_)) (fun _ s' hq => wpAny_pure (wpAny_pure hq)) fun _ _ e => e)
 obtain ⟨it, fp, tn, J, H2, e, I2, T, st2, f2, q⟩ := h2
 subst e
 refine ZdW (Q := fun v H' => Zck i v σ H' D.nx) (RR := fun acc C => compPost (model X.prog X.w) X.A X.xe (some (assign (.Name x pos') X.env)) (fun _ s' => SP X pins D .next s') acc C) hc S T st2 f2 c1 c2 hin I2 q ?_
 intro Da C s' H' fr hn J1 fC q'
 obtain ⟨m', hn⟩ := hn
 obtain ⟨f0, f1, f2, f3, f4, f5⟩ := fC
 obtain ⟨oC, es, ep, hoC, hdC, hkC, hmC⟩ := id hn
 show wpAny _ X.A (assign (.Name x pos') X.env (.ref Da)) _ _ _
 have J2 : Inv X (pins ++ [(C, oC)]) σ H' s' := J1.pins_of fun p hp => by
  (rcases List.mem_append.mp hp with z | z)
  . exact J1.pin p (List.mem_append_right _ z)
  . have z' : p = (C, oC) := by simpa using z
    subst z'
    exact ⟨hoC, f0, f1, f2, fun v e => by rw [hdC] at e; cases e⟩
 refine wpAny_assign_Name (ZdC J2 hN hi hx (v := .ref Da) rfl (fun s'' I'' => ?_) hf)
 have hC'' := (I''.pin (C, oC) (List.mem_append_right _ (List.mem_append_right _ (by simp)))).1
 refine ⟨m', ⟨oC, es, ep, hC'', hdC, hkC, hmC⟩, fun h' hs' => ?_⟩
 have I3 : Inv X pins (σ.set i (some (.ref Da))) H' s'' := I''.unpinned
 exact ⟨_, H', I3.turned (t' := s''.toks) (fun b o hb e => hs'.extBut b o hb e) f0 f1 f3 f4 f5, q'⟩
end
end L2
namespace L2
open PySem PySem.Spec PyProof.Rows
mutual
inductive Den (K : Fg) (H : Hp) : V -> PyData -> Prop
 | non : Den K H .non .none
 | bl (b : Bool) : Den K H (.bl b) (.bool b)
 | int (i : Int) : Den K H (.int i) (.int i)
 | str (x : Str) : Den K H (.str x) (.str x)
 | lst {a : Addr} {vs : List V} {ds : List PyData} : SqL K H a vs -> DenL K H vs ds -> Den K H (.ref a) (.list ds)
 | tup {a : Addr} {vs : List V} {ds : List PyData} : SqT K H a vs -> DenL K H vs ds -> Den K H (.ref a) (.tuple ds)
inductive DenL (K : Fg) (H : Hp) : List V -> List PyData -> Prop
 | nil : DenL K H [] []
 | cons {v : V} {d : PyData} {vs : List V} {ds : List PyData} : Den K H v d -> DenL K H vs ds -> DenL K H (v :: vs) (d :: ds)
end
theorem Same.tupq {K : Fg} {H H' : Hp} {a : Addr} {xs : List V} (e : Same H H') (h : SqT K H a xs) : SqT K H' a xs := by
 rcases h with (h | ⟨o, h⟩) | h
 . exact .inl (.inl (e _ _ h))
 . exact .inl (.inr ⟨o, e _ _ h⟩)
 . exact .inr h
mutual
theorem Den.same {K : Fg} {H H' : Hp} (e : Same H H') : ∀ {v : V} {d : PyData}, Den K H v d -> Den K H' v d
 | _, _, .non => .non
 | _, _, .bl b => .bl b
 | _, _, .int i => .int i
 | _, _, .str x => .str x
 | _, _, .lst h r => .lst (e.seq h) (DenL.same e r)
 | _, _, .tup h r => .tup (e.tupq h) (DenL.same e r)
termination_by structural _ a => a
theorem DenL.same {K : Fg} {H H' : Hp} (e : Same H H') : ∀ {vs : List V} {ds : List PyData}, DenL K H vs ds -> DenL K H' vs ds
 | _, _, .nil => .nil
 | _, _, .cons h r => .cons (Den.same e h) (DenL.same e r)
termination_by structural _ a => a
end
section
variable {X : Cx} {pins : List (Addr × Obj)} {σ : St} {H : Hp} {s : Shared}
mutual
theorem Den.reads (I : Inv X pins σ H s) : ∀ {v : V} {d : PyData} {u : Value}, Den X.K H v d -> RelV v u -> ∃ as, Reads s.heap u d as
 | _, _, _, .non, r => by cases (show _ = Value.none from r); exact ⟨_, .none⟩
 | _, _, _, .bl b, r => by cases (show _ = Value.bool b from r); exact ⟨_, .bool b⟩
 | _, _, _, .int i, r => by obtain ⟨t, q⟩ := (show ∃ t, _ = Value.int i t from r); cases q; exact ⟨_, .int i t⟩
 | _, _, _, .str x, r => by obtain ⟨t, q⟩ := (show ∃ t, _ = Value.str x t from r); cases q; exact ⟨_, .str x t⟩
 | _, _, _, .lst (a := a) h q, r => by
  cases (show _ = Value.ref a from r)
  obtain ⟨its, rv, p, hz⟩ := I.list h
  obtain ⟨as, ra⟩ := DenL.reads I q rv
  obtain ⟨o, ho, hc, n, hd⟩ := p.isList
  exact ⟨_, .list ho hc hd (by simpa using ra)⟩
 | _, _, _, .tup (a := a) h q, r => by
  cases (show _ = Value.ref a from r)
  obtain ⟨its, rv, p, hz⟩ := I.tuple h
  obtain ⟨as, ra⟩ := DenL.reads I q rv
  obtain ⟨o, ho, hc, n, hd⟩ := (show s.heap.IsTuple a its.toArray from p)
  exact ⟨_, .tuple ho hc hd (by simpa using ra)⟩
termination_by structural _ a => a
theorem DenL.reads (I : Inv X pins σ H s) : ∀ {vs : List V} {ds : List PyData} {us : List Value}, DenL X.K H vs ds -> Vals vs us -> ∃ as, ReadsAll s.heap us ds as
 | _, _, _, .nil, r => by cases r; exact ⟨_, .nil⟩
 | _, _, _, .cons h q, r => by
  cases r with
  | cons r1 r2 =>
   obtain ⟨as, ra⟩ := Den.reads I h r1
   obtain ⟨bs, rb⟩ := DenL.reads I q r2
   exact ⟨_, .cons ra rb⟩
termination_by structural _ a => a
end
end
section
variable {X : Cx}
def rEqD (K : Fg) : R2 := fun x y H Q => ∃ d e, Den K H x d /\ Den K H y e /\ SeqAt.shaped d = true /\ SeqAt.shaped e = true /\ Q (.bl (PyData.eqv d e)) H
def rNeD (K : Fg) : R2 := fun x y H Q => ∃ d e, Den K H x d /\ Den K H y e /\ SeqAt.shaped d = true /\ SeqAt.shaped e = true /\ Q (.bl (!PyData.eqv d e)) H
theorem Zml (hu : X.A.units + 64 < cLine) : OpR X (compareOp .Eq) (rEqD X.K) := by
 intro pins s σ H x y v u Q I rx ry h
 obtain ⟨d, e, hd, he, s1, s2, q⟩ := h
 obtain ⟨as, ra⟩ := hd.reads I rx
 obtain ⟨bs, rb⟩ := he.reads I ry
 exact eq_dataH ra rb s1 s2 hu ⟨.bl _, H, I, rfl, q⟩
theorem Zmm (hu : X.A.units + 64 < cLine) : OpR X (compareOp .NotEq) (rNeD X.K) := by
 intro pins s σ H x y v u Q I rx ry h
 obtain ⟨d, e, hd, he, s1, s2, q⟩ := h
 obtain ⟨as, ra⟩ := hd.reads I rx
 obtain ⟨bs, rb⟩ := he.reads I ry
 exact ne_dataH ra rb s1 s2 hu ⟨.bl _, H, I, rfl, q⟩
def rSlS : V -> Option Int -> Option Int -> Hp -> VK -> Prop := fun x lo hi H Q => ∃ z, x = .str z /\ z.length <= sizeLine /\ Q (.str (Txt.slice z lo hi)) H
theorem Zmn : SlR X rSlS := by
 intro pins s σ H x v vl vu lo hi sl Q I rx hs pl pu h
 obtain ⟨z, rfl, hz, q⟩ := h
 obtain ⟨t, rfl⟩ := rx
 refine ⟨"str", _, F.slot_str_getitem.lookup, typeIs_str _ _ _, ?_⟩
 have fin : ∀ t' k, EP X pins σ Q (.str (Txt.slice z lo hi) t') { s with toks := k } := fun t' k => ⟨.str _, H, I.tok k, ⟨t', rfl⟩, q⟩
 have hle := Nat.le_trans (Txt.slice_le z lo hi) hz
 cases pl with
 | none =>
  cases pu with
  | none => exact wpAny_getItem_str_slice (l := none) (u := none) (st := none) hs rfl (post_val_or_str ⟨hle, fin⟩)
  | int j tj => exact wpAny_getItem_str_slice (l := none) (u := some (j, tj)) (st := none) hs rfl (post_val_or_str ⟨hle, fin⟩)
 | int i ti =>
  cases pu with
  | none => exact wpAny_getItem_str_slice (l := some (i, ti)) (u := none) (st := none) hs rfl (post_val_or_str ⟨hle, fin⟩)
  | int j tj => exact wpAny_getItem_str_slice (l := some (i, ti)) (u := some (j, tj)) (st := none) hs rfl (post_val_or_str ⟨hle, fin⟩)
theorem Zfw : ZD X (.type "int") (fun xs H Q => ∃ z n, xs = [.str z] /\ intText? z = some n /\ z.length <= 640 /\ Q (.int n) H) := by
 intro pins s σ H xs us Q I r h
 obtain ⟨z, n, rfl, hn, hl, q⟩ := h
 obtain ⟨u, rfl, ru⟩ := r.one
 obtain ⟨t, rfl⟩ := ru
 exact PySem.W.KIN.call_text hn hl ⟨.int n, H, I.tok _, ⟨_, rfl⟩, q⟩
theorem Zji (c : V) (cu : Value) (rc : RelV c cu) (huniq : ∀ u, RelV c u -> u = cu) : ZD X (.builtin "isinstance") (fun xs H Q => ∃ x t b, xs = [x, c] /\ TyOf X.K H x t /\ PySem.W.kitOne X.K t cu = some b /\ Q (.bl b) H) := by
 intro pins s σ H xs us Q I r h
 obtain ⟨x, t, b, rfl, ty, e, q⟩ := h
 obtain ⟨u, w', rfl, ru, rw'⟩ := r.two
 obtain rfl := huniq w' rw'
 exact ZhQ I ru ty e fun tk => ⟨.bl b, H, I.tok tk, rfl, q⟩
theorem ZcD : ∀ (bs : List Bool) (us : List Value), Vals (bs.map V.bl) us -> us = bs.map Value.bool
 | [], us, r => by cases r; rfl
 | b :: bs, us, r => by
  cases r with
  | cons r1 r2 => rw [ZcD bs _ r2, show _ = Value.bool b from r1]; rfl
theorem Zhk (bs : List Bool) : ((List.range bs.length).all fun i => (bs[i]?).getD true) = bs.all id := by
 (rw [Bool.eq_iff_iff, List.all_eq_true, List.all_eq_true])
 constructor
 . intro h b hb
   obtain ⟨i, hi, e⟩ := List.mem_iff_getElem.mp hb
   have q := h i (List.mem_range.mpr hi)
   rw [List.getElem?_eq_getElem hi, Option.getD_some, e] at q
   exact q
 . intro h i hi
   (have hi' := List.mem_range.mp hi)
   rw [List.getElem?_eq_getElem hi', Option.getD_some]
   (exact h _ (List.getElem_mem hi'))
theorem Zhl (bs : List Bool) : ((List.range bs.length).any fun i => (bs[i]?).getD false) = bs.any id := by
 (rw [Bool.eq_iff_iff, List.any_eq_true, List.any_eq_true])
 constructor
 . rintro ⟨i, hi, q⟩
   (have hi' := List.mem_range.mp hi)
   rw [List.getElem?_eq_getElem hi', Option.getD_some] at q
   exact ⟨_, List.getElem_mem hi', q⟩
 . rintro ⟨b, hb, q⟩
   obtain ⟨i, hi, e⟩ := List.mem_iff_getElem.mp hb
   refine ⟨i, List.mem_range.mpr hi, ?_⟩
   rw [List.getElem?_eq_getElem hi, Option.getD_some, e]
   exact q
theorem Ze0 {h h' : Heap} {o : Obj} (hk : ∀ b x, b ∉ [h.objs.size] -> (h.push o).get? b = some x -> h'.get? b = some x) : ∀ b x, h.get? b = some x -> h'.get? b = some x :=
 fun c o e => hk c o (fun hm => by rw [List.mem_singleton.mp hm] at e; exact Nat.lt_irrefl _ (Heap.lt_size e)) (Heap.get?_push_of_some _ e)
theorem Zjj (hc : X.calm = true) : ZD X (.builtin "all") (fun xs H Q => ∃ (l : Addr) (bs : List Bool), xs = [.ref l] /\ SqL X.K H l (bs.map V.bl) /\ Q (.bl (bs.all id)) H) := by
 intro pins s σ H xs us Q I r h
 obtain ⟨l, bs, rfl, hl, q⟩ := h
 obtain ⟨u, rfl, ru⟩ := r.one
 cases (show u = Value.ref l from ru)
 obtain ⟨its, rv, p, hz⟩ := I.list hl
 have ei := ZcD bs its rv
 have hlt : l < s.heap.objs.size := by obtain ⟨_, e, _⟩ := p.isList; exact Heap.lt_size e
 refine call_all_walk (wpAny_pyIter_list p.isList ?_)
 refine ⟨s.heap.objs.size, [s.heap.objs.size, l], [s.heap.objs.size], its.toArray.size, _, _, fun i => (bs[i]?).getD true, rfl, Walks.list (A := X.A.in1) (I.ok.hd hc) _ l (Nat.ne_of_lt hlt) its.toArray,
  ⟨⟨_, Heap.get?_push_size _ rfl, rfl, rfl⟩, p.isList.push _⟩, fun i v s' Q' E' hP hQ => ?_, fun h' tk hk => ?_⟩
 . have hP' : its[i]? = some v := by simpa using hP
   rw [ei, List.getElem?_map] at hP'
   cases e : bs[i]? with
   | none => rw [e] at hP'; cases hP'
   | some b =>
    rw [e] at hP'
    cases hP'
    (simp only [e, Option.getD_some] at hQ)
    exact wpAny_truthy_bool hQ
 . have e : ((List.range its.toArray.size).all fun i => (bs[i]?).getD true) = bs.all id := by
    rw [List.size_toArray, <- rv.length, List.length_map]
    exact Zhk bs
   rw [e]
   exact ⟨.bl _, H, I.kept (t' := tk) (Ze0 hk), rfl, q⟩
theorem Zjk (hc : X.calm = true) : ZD X (.builtin "any") (fun xs H Q => ∃ (l : Addr) (bs : List Bool), xs = [.ref l] /\ SqL X.K H l (bs.map V.bl) /\ Q (.bl (bs.any id)) H) := by
 intro pins s σ H xs us Q I r h
 obtain ⟨l, bs, rfl, hl, q⟩ := h
 obtain ⟨u, rfl, ru⟩ := r.one
 cases (show u = Value.ref l from ru)
 obtain ⟨its, rv, p, hz⟩ := I.list hl
 have ei := ZcD bs its rv
 have hlt : l < s.heap.objs.size := by obtain ⟨_, e, _⟩ := p.isList; exact Heap.lt_size e
 refine call_any_walk (wpAny_pyIter_list p.isList ?_)
 refine ⟨s.heap.objs.size, [s.heap.objs.size, l], [s.heap.objs.size], its.toArray.size, _, _, fun i => (bs[i]?).getD false, rfl, Walks.list (A := X.A.in1) (I.ok.hd hc) _ l (Nat.ne_of_lt hlt) its.toArray,
  ⟨⟨_, Heap.get?_push_size _ rfl, rfl, rfl⟩, p.isList.push _⟩, fun i v s' Q' E' hP hQ => ?_, fun h' tk hk => ?_⟩
 . have hP' : its[i]? = some v := by simpa using hP
   rw [ei, List.getElem?_map] at hP'
   cases e : bs[i]? with
   | none => rw [e] at hP'; cases hP'
   | some b =>
    rw [e] at hP'
    cases hP'
    (simp only [e, Option.getD_some] at hQ)
    exact wpAny_truthy_bool hQ
 . have e : ((List.range its.toArray.size).any fun i => (bs[i]?).getD false) = bs.any id := by
    rw [List.size_toArray, <- rv.length, List.length_map]
    exact Zhl bs
   rw [e]
   exact ⟨.bl _, H, I.kept (t' := tk) (Ze0 hk), rfl, q⟩
noncomputable def Zkd : List TE -> Str -> TE
 | [], acc => fun _ H Q => Q (.str acc) H
 | t :: r, acc => fun σ H Q => t σ H fun x H1 => ∃ z, x = .str z /\ (acc ++ z).length <= sizeLine /\ Zkd r (acc ++ z) σ H1 Q
def PEs (X : Cx) : List Expr -> List TE -> Prop := Paired (PE X)
end
end L2
namespace L2
open PySem PySem.Spec PyProof.Rows
noncomputable def Its (x : Str) : It := ⟨fun i _ => i < x.cps.size, fun i H v H' => H' = H /\ ∃ c, x.cps[i]? = some c /\ v = .str ⟨#[c]⟩, fun i _ => x.cps.size <= i⟩
theorem Zjl {P : Program} {w : World} {K : Fg} {tg : Expr} (it : Addr) (x : Str) (t : Tok) {ty : String} (hty : ty = "str_ascii_iterator" \/ ty = "str_iterator") : Turn P w K tg (Its x) [it] it (fun i h => i <= x.cps.size /\ h.IsStrIter it ty x t i) where
 mem := by simp
 obj := fun i h st b hb => by
  have e : b = it := by simpa using hb
  subst e
  obtain ⟨_, o, e, c, d⟩ := st
  exact ⟨o, e, fun v z => by rw [d] at z; cases z⟩
 keep := fun i h h' st k => ⟨st.1, let ⟨o, ho, r⟩ := st.2; ⟨o, k it (by simp) o ho, r⟩⟩
 item := by
  intro X hP hw hK hc i pins s σ H E I hf st hg
  subst hP hw hK
  obtain ⟨f0, f1, f2, f3, f4, f5⟩ := hf it (by simp)
  have go : ∀ {W : Walks X.prog X.w X.A it [it] [it] x.cps.size (SignAt x) (fun i h => h.IsStrIter it ty x t i)}, wpAny (model X.prog X.w) X.A (pyNext (.ref it)) (fun r s1 => ∃ u, r = some u /\
   wpAny (model X.prog X.w) X.A (letOwnedTupleGo tg (.ref it) u) (fun _ s2 => ∃ v H', Inv X pins σ H' s2 /\ RelV v u /\ (Its x).yld i H v H' /\ (i + 1 <= x.cps.size /\ s2.heap.IsStrIter it ty x t (i + 1)) /\ ∀ b ∈ [it], H' b = none) E s1) E s := fun {W} => by
   refine W.item i s _ _ hg st.2 fun v h' tk hv st' kk => ?_
   obtain ⟨c, u, ec, rfl⟩ := hv
   have I1 : Inv X pins σ H { s with heap := h', toks := tk } := I.turned (fun b o hb e => kk b o (by simpa using hb) e) f0 f1 f3 f4 f5
   obtain ⟨o, e, cc, d⟩ := id st'
   refine ⟨_, rfl, ZdQ (s := { s with heap := h', toks := tk }) e cc d ?_ ⟨.str ⟨#[c]⟩, H, I1, ⟨u, rfl⟩, ⟨rfl, c, ec, rfl⟩, ⟨hg, st'⟩, fun b hb => (hf b hb).1⟩⟩
   rcases hty with rfl | rfl <;> decide
  rcases hty with rfl | rfl
  . exact go (W := Walks.strAscii (I.ok.hd hc) it x t)
  . exact go (W := Walks.strWide (I.ok.hd hc) it x t)
 done := by
  intro X hP hw hK hc i pins s σ H E I hf st hg
  subst hP hw hK
  obtain ⟨f0, f1, f2, f3, f4, f5⟩ := hf it (by simp)
  obtain rfl : i = x.cps.size := Nat.le_antisymm st.1 hg
  rcases hty with rfl | rfl
  . exact (Walks.strAscii (prog := X.prog) (w := X.w) (I.ok.hd hc) it x t).done s _ _ st.2 fun h' tk kk => ⟨rfl, I.turned (fun b o hb e => kk b o (by simpa using hb) e) f0 f1 f3 f4 f5⟩
  . exact (Walks.strWide (prog := X.prog) (w := X.w) (I.ok.hd hc) it x t).done s _ _ st.2 fun h' tk kk => ⟨rfl, I.turned (fun b o hb e => kk b o (by simpa using hb) e) f0 f1 f3 f4 f5⟩
 self := fun A i s Q E st h => by
  rcases hty with rfl | rfl
  . exact wpAny_pyIter_striter_ascii st.2 h
  . exact wpAny_pyIter_striter_wide st.2 h
section
variable {X : Cx} {tg : Expr}
noncomputable def iStr (tl : TE) : TI := fun σ H R => tl σ H fun v H1 => ∃ x, v = .str x /\ R (Its x) H1
theorem Zmo {l : Expr} {tl : TE} (hl : PE X l tl) : PI X tg l (iStr tl) := by
 intro pins s σ H R I h
 refine thn (hl pins s σ H _ I h) fun v s1 z0 => ?_
 obtain ⟨y, H1, I1, r1, q1⟩ := z0
 obtain ⟨x, e, q⟩ := q1
 subst e
 obtain ⟨t, rfl⟩ := r1
 have fin : ∀ (o : Obj) (ty : String), (ty = "str_ascii_iterator" \/ ty = "str_iterator") -> (s1.heap.push o).IsStrIter s1.heap.objs.size ty x t 0 -> PIE X pins σ tg R (.ref s1.heap.objs.size) { s1 with heap := s1.heap.push o } := fun o ty hty hit => by
  refine ⟨s1.heap.objs.size, [s1.heap.objs.size], _, _, H1, rfl, I1.kept (t' := s1.toks) fun b o e => Heap.get?_push_of_some _ e, Zjl _ x t hty, ⟨Nat.zero_le _, hit⟩, fun b hb => ?_, q⟩
  have e : b = s1.heap.objs.size := by simpa using hb
  subst e
  exact I1.fpOk (Nat.le_refl _) (I1.hok.fresh (Nat.le_refl _))
 (cases ha : x.cps.all (· < 128))
 . exact wpAny_pyIter_wide ha (fin _ _ (.inr rfl) ⟨_, Heap.get?_push_size _ rfl, rfl, rfl⟩)
 . exact wpAny_pyIter_ascii ha (fin _ _ (.inl rfl) ⟨_, Heap.get?_push_size _ rfl, rfl, rfl⟩)
end
end L2
namespace L2
open PySem PySem.Spec PyProof.Rows
structure FnAt (P : Program) (w : World) (K : Fg) (mg : Str -> Option Value) (base : Heap) (x : Str) (k : Nat) (ps : List Str) (sp : Sp) : Prop where
 ex : ∃ (f : Addr) (fd : FuncData), FnOk P w K mg base CX0 k f fd ps sp /\ mg x = some (.ref f) /\ PySem.W.keepIn K (.ref f) = true /\ Binds K fd ps []
structure MeAt (P : Program) (w : World) (K : Fg) (mg : Str -> Option Value) (base : Heap) (C : Addr) (m : Str) (k : Nat) (ps : List Str) (sp : Sp) : Prop where
 ex : ∃ (f : Addr) (fd : FuncData), FnOk P w K mg base CX0 k f fd ps sp /\ Meth K C m f /\ Binds K fd ps []
 cl : Cls K C
structure MkAt (P : Program) (w : World) (K : Fg) (mg : Str -> Option Value) (base : Heap) (x : Str) (C : Addr) (k : Nat) (ps : List Str) (sp : Sp) : Prop where
 ex : ∃ (f : Addr) (fd : FuncData), FnOk P w K mg base CX0 k f fd ps sp /\ Mk K C f /\ mg x = some (.ref C) /\ Binds K fd ps []
section
variable {X : Cx} {x m : Str} {j n : Nat} {ps : List Str} {sp : Sp} {C : Addr} {e o : Expr} {es : List Expr} {ta : TE} {t : TA} {p pos apos : Pos}
theorem Zog (G : FnAt X.prog X.w X.K X.mg X.base x j ps sp) (hr : Room n X.A) (ha : PA X (e :: es) t) (hj : j <= n := by decide) (hg : Gl X x := by rfl) (hdb : (x == ("__debug__" : Str)) = false := by decide)
 (he : starEach (e :: es) X.env = (false, eval e X.env) :: starEach es X.env := by rfl) (hpl : (backTo pos (starEach es X.env)).any (·.1) = false := by rfl) : PE X (.Call (.Name x p) (e :: es) [] pos) (ZjV sp [] E0 t) := by
 obtain ⟨f, fd, F, hm, hk, hb⟩ := G.ex
 exact Zk3 F (hr.mono hj) hg hm hk hb .nil Zhi ha hdb he hpl
theorem Zoh {pl : Sem Bool} (G : MeAt X.prog X.w X.K X.mg X.base C m j ps sp) (hr : Room n X.A) (ho : PE X o ta) (ha : PA X (e :: es) t) (hj : j <= n := by decide)
 (hst : starEach (e :: es) X.env = (false, eval e X.env) :: starEach es X.env := by rfl) (hpl : (backTo pos (starEach es X.env)).any (·.1) = false := by rfl)
 (ht : eval (.Call (.Attribute o m apos) (e :: es) [] pos) X.env = (do
  let ov <- eval o X.env
  standAt apos.atName
  let (f, first) <- holding [ov] (getMethod ov m pl)
  callWith pos f first (backTo pos (starEach (e :: es) X.env)) (backToKw pos (keywordEach [] X.env))) := by rfl) : PE X (.Call (.Attribute o m apos) (e :: es) [] pos) (ZjW C m sp [] E0 ta t) := by
 obtain ⟨f, fd, F, hm, hb⟩ := G.ex
 exact Zk4 ho G.cl hm F (hr.mono hj) hb .nil Zhi ha hst hpl ht
theorem Zoi (G : MkAt X.prog X.w X.K X.mg X.base x C j ps sp) (hr : Room n X.A) (ha : PA X (e :: es) t) (hj : j + 1 <= n := by decide) (hg : Gl X x := by rfl) (hdb : (x == ("__debug__" : Str)) = false := by decide)
 (he : starEach (e :: es) X.env = (false, eval e X.env) :: starEach es X.env := by rfl) (hpl : (backTo pos (starEach es X.env)).any (·.1) = false := by rfl) : PE X (.Call (.Name x p) (e :: es) [] pos) (ZjX C sp [] E0 t) := by
 obtain ⟨f, fd, F, M, hm, hb⟩ := G.ex
 exact Zk5 M F (hr.mono hj) hg hm hb .nil Zhi ha hdb he hpl
end
theorem Zd6 (j : Nat) (js : List Nat) (σ : St) : Zbh (j :: js) σ = (σ[j]?).join :: Zbh js σ := rfl
end L2
namespace L2
open PySem PySem.Spec PyProof.Rows
theorem Zfx : bootBuiltins "isinstance" = some (.builtin "isinstance") := by decide +kernel
theorem Zke : bootBuiltins "int" = some (.type "int") := by decide +kernel
theorem Zii : bootBuiltins "bool" = some (.type "bool") := by decide +kernel
theorem Zfy : bootBuiltins "list" = some (.type "list") := by decide +kernel
end L2
namespace L2
open PySem PySem.Spec PyProof.Rows
noncomputable def Zt (sc : Scope) (N : List Str) (i : Nat) (x : Str) (b : Bool) : Bool := N[i]? == some x && sc.names.lookup x == some (if b then .cell else .local) && !(x == ("__debug__" : Str)) && !(x == ("__classdict__" : Str))
noncomputable def Zfz (sc : Scope) (N : List Str) (i : Nat) (x : Str) : Bool := N[i]? == some x && (sc.names.lookup x == some .cell || sc.names.lookup x == some .free) && !(x == ("__debug__" : Str)) && !(x == ("__classdict__" : Str))
noncomputable def glOk (sc : Scope) (x : Str) : Bool := sc.names.lookup x == some .globalImplicit && !(x == ("__debug__" : Str)) && !(x == ("__name__" : Str))
section
variable {X : Cx} {sc : Scope} {N : List Str} {i : Nat} {x : Str} {b : Bool} {pos : Pos}
theorem Zt.at (h : Zt sc N i x b = true) : N[i]? = some x /\ sc.names.lookup x = some (if b then .cell else .local) /\ (x == ("__debug__" : Str)) = false /\ (x == ("__classdict__" : Str)) = false := by
 unfold Zt at h
 (simp only [Bool.and_eq_true, Bool.not_eq_true'] at h)
 exact ⟨eq_of_beq h.1.1.1, eq_of_beq h.1.1.2, h.1.2, h.2⟩
theorem Zt.loc (h : Zt sc N i x b = true) : Loc sc x := by
 have q := (Zt.at h).2.1
 cases b
 . exact .inl q
 . exact .inr q
theorem pvs (h : Zt sc N i x b = true) (e1 : X.env.scope = sc := by rfl) (e2 : X.N = N := by rfl) : PE X (.Name x pos) (tVar i) := by
 obtain ⟨h1, h2, h3, h4⟩ := Zt.at h
 have l := Zt.loc h
 subst e1 e2
 refine ZhE h1 ?_ h3 h4
 rcases l with l | l
 . exact .inl l
 . exact .inr (.inl l)
theorem pvf (h : Zfz sc N i x = true) (e1 : X.env.scope = sc := by rfl) (e2 : X.N = N := by rfl) : PE X (.Name x pos) (tVar i) := by
 unfold Zfz at h
 simp only [Bool.and_eq_true, Bool.not_eq_true', Bool.or_eq_true] at h
 subst e1 e2
 refine ZhE (eq_of_beq h.1.1.1) ?_ h.1.2 h.2
 rcases h.1.1.2 with l | l
 . exact .inr (.inl (eq_of_beq l))
 . exact .inr (.inr (eq_of_beq l))
theorem glk (h : glOk sc x = true) (e1 : X.env.scope = sc := by rfl) : Gl X x := by
 unfold glOk at h
 (simp only [Bool.and_eq_true] at h)
 subst e1
 exact eq_of_beq h.1.1
theorem dbk (h : glOk sc x = true) : (x == ("__debug__" : Str)) = false := by
 unfold glOk at h
 (simp only [Bool.and_eq_true, Bool.not_eq_true'] at h)
 exact h.1.2
theorem nmk (h : glOk sc x = true) : x ≠ "__name__" := by
 unfold glOk at h
 (simp only [Bool.and_eq_true, Bool.not_eq_true'] at h)
 intro e
 have := h.2
 rw [e, beq_self_eq_true] at this
 cases this
theorem Zjm (h : Zt sc N i x b = true) (nd : N.Nodup) (e1 : X.env.scope = sc := by rfl) (e2 : X.N = N := by rfl) (hf : X.fn x = true \/ b = false := by first | exact .inl rfl | exact .inr rfl) : PG X (.Name x pos) (Zck i) := by
 obtain ⟨h1, h2, h3, h4⟩ := Zt.at h
 have l := Zt.loc h
 subst e1 e2
 refine Zgw nd h1 l ?_
 rcases hf with q | q
 . exact .inl q
 . subst q
   exact .inr h2
noncomputable def Zda (osc scope : Scope) (x : Str) : Bool := osc.kind == .function && osc.names.lookup x == some .local && !(scope.names.any fun (n, k) => n == x && (k == .local || k == .cell))
theorem Zhm {elt : Expr} {gens : List Comprehension} {scope osc : Scope} {pos' : Pos} {line : Nat} {env : Env} (h : Zda osc scope x = true) (hl : (pos'.line == pos.line) = true) (e : env.scope = osc) :
 swapsWith (.ListComp elt gens scope pos) (some (.Name x pos')) line env = pure true := by
 subst e
 unfold Zda at h
 (simp only [Bool.and_eq_true, Bool.not_eq_true'] at h)
 obtain ⟨⟨h1, h2⟩, h3⟩ := h
 show (pure (env.blockKind == .function && env.kindOf x == some .local && pos'.line == pos.line && !(scope.names.any fun (n, k) => n == x && (k == .local || k == .cell))) : Sem Bool) = pure true
 have hb : (env.blockKind == ScopeKind.function) = true := by
  unfold Env.blockKind
  rw [eq_of_beq h1]
  rfl
 have hk : (env.kindOf x == some NameKind.local) = true := h2
 rw [hb, hk, hl, h3]
 rfl
theorem Zjn {elt tg iter : Expr} {ifs : List Expr} {scope : Scope} {spos pos' : Pos} {k : Nat} {js : List Nat} {N' : List Str} {wi : TI} {g : TG} {tif : TT} {te : TE}
 (h : Zt sc N i x false = true) (nd : N.Nodup) (hw : Zda sc scope x = true)
 (hc : X.calm = true) (S : CompScope X k js N' scope) (hit : PI X tg iter wi)
 (hin : ∀ (cl : List (Str × Addr)) (C : Addr) (s₀ : Shared) (H₀ : Hp) (ex : List Addr), PG (cxC X N' scope cl C s₀ H₀ ex) tg g /\ PIf (cxC X N' scope cl C s₀ H₀ ex) ifs tif /\ PE (cxC X N' scope cl C s₀ H₀ ex) elt te)
 (hl : (pos'.line == pos.line) = true := by rfl) (e1 : X.env.scope = sc := by rfl) (e2 : X.N = N := by rfl)
 (hs : ∀ x, foldedSetIterable iter X.env x = pure x := by intro _; rfl) : PS X (.Assign [.Name x pos'] (.ListComp elt [⟨tg, iter, ifs, 0⟩] scope pos) spos) (tAsg (Zfc k js wi g tif te) (Zck i)) := by
 obtain ⟨h1, h2, h3, h4⟩ := Zt.at h
 have l := Zt.loc h
 have w := fun (e : X.env.scope = sc) => Zhm (elt := elt) (gens := [⟨tg, iter, ifs, 0⟩]) (pos := pos) (line := spos.line) hw hl e
 have w1 := w e1
 subst e1 e2
 exact ZkK nd h1 l hc S hit hin w1 (.inr h2) hs
end
end L2
namespace L2
open PySem
section
variable {A : Around} {M : Model} {s : Shared} {E : Value -> Shared -> Prop}
theorem Zhn {q : Pos} {T : String} {xs : List (Bool × Sem Value)} {ks : List (Option Str × Sem Value)} {Q : Value -> Shared -> Prop} (h1 : xs.any (·.1) = false) (h2 : ks.any (·.1.isNone) = false)
 (h : wpAny M A (evalArgs (.type T) true xs ks) (fun a s1 => wpAny M A (call (.type T) a.pos a.kw) Q E s1) E s) : wpAny M A (callWith q (.type T) [] xs ks) Q E s := by
 unfold callWith
 refine wpAny_bind (wpAny_holding (wpAny_mono h (fun a s1 z => wpAny_bind (wpAny_standAt ?_)) fun _ _ y => y))
 simp only [h1, h2, Bool.or_false]
 exact wpAny_bind (wpAny_pure (wpAny_bind (wpAny_mono z (fun r s2 y => wpAny_bind (wpAny_holding (wpAny_point (wpAny_pure y)))) fun _ _ y => y)))
end
section
variable {prog : Program} {w : World} {A : Around} {E : Value -> Shared -> Prop} {s : Shared}
theorem ZkL {T newId : String} {o : Value} {xs : List Value} {kw : List (Str × Value)} (hl : typeLookup (.type T) "__init__" = pure (some (.builtin "object.__init__"))) (hm : Bind.madeBy (.type T) = pure (some newId)) (hne : (some newId != some "object.__new__") = true) (hx : xs ≠ []) :
 Meets (Builtin.«object.__init__» ⟨o :: xs, kw⟩) (fun _ R s => s.TypeIs o T /\ R (.ok (.ret .none)) s) := by
 refine Meets.of_wp fun prog w A R s ⟨hT, hq⟩ => ?_
 cases xs with
 | nil => exact absurd rfl hx
 | cons a xs =>
  (repeat (any_goals (first | assumption | wp_step)))
  exact ⟨.none, rfl, hq⟩
theorem ZkM {T newId : String} {Bn : Builtin} {xs : List Value} {kw : List (Str × Value)} {S : Spec} {Q : Value -> Shared -> Prop} (ft : TypeCalled T newId "object.__init__") (hne : (some newId != some "object.__new__") = true)
 (c1 : checkTypeCall T ⟨xs, kw⟩ = pure ()) (c2 : checkBuiltinCall newId ⟨.type T :: xs, kw⟩ = pure ()) (c3 : ∀ o, argsOk "object.__init__" ⟨o :: xs, kw⟩) (hx : xs ≠ []) (en : entryFor table newId = some Bn) (g : Meets (Bn ⟨.type T :: xs, kw⟩) S)
 (h : S A.in1 (wants (fun o s1 => s1.TypeIs o T /\ Q o s1) E) s) : wpAny (model prog w) A (call (.type T) xs kw) Q E s := by
 obtain ⟨c, tl, hm⟩ := ft.mro
 have hmd := ft.made
 have hsb := ft.sub
 refine wpAny_call (codeAny_of_tree (show wpAny _ _ (callAny (.type T) _) _ _ _ from ?_))
 refine wpAny_pure (And.intro (Code.quiet_builtin _ (by decide +kernel)) (codeAny_builtin F.entry_type_call ?_))
 rw [Around.under_plain (weight_type_call_type T xs kw) (units_type_call_type T xs kw)]
 have n1 := ft.notType
 have n2 := ft.canCreate
 (repeat (any_goals (first | assumption | wp_step)))
 refine codeAny_mono (codeAny_call_builtin ft.plain en (wpAny_of_eq c2 (g prog w A.in1 _ s h))) fun r s1 hr => ?_
 cases r with
 | error e => exact hr
 | ok fl =>
  cases fl with
  | ret o =>
   obtain ⟨hT, hQ⟩ := hr
   have b1 := ft.init.lookup
   have b2 := ft.init.bind o
   (repeat (any_goals (first | assumption | wp_step)))
   refine codeAny_mono (codeAny_call_builtin ft.init.plain F.entry_object_init (ft.init.check _ _ _ _ _ _ _ _ hT (c3 o) (ZkL b1 hmd hne hx prog w A.in1 (wants (fun r s2 => r = .none /\ Q o s2) E) s1 ⟨hT, rfl, hQ⟩))) fun r2 s2 hr2 => ?_
   cases r2 with
   | error e => exact hr2
   | ok fl2 =>
    cases fl2 with
    | ret r =>
     obtain ⟨rfl, hq⟩ := hr2
     (repeat (any_goals (first | assumption | wp_step)))
    | _ => exact hr2.elim
  | _ => exact hr.elim
theorem Zmp {α β : Type} {M : Model} {A : Around} {E : Value -> Shared -> Prop} {s : Shared} {Q : β -> Shared -> Prop} {f : α -> Sem β} {x : α} (h : ∀ a, wpAny M A (f a) Q E s) : wpAny M A (f x) Q E s := h x
theorem Zij (a : Value) (c : Int) (t : Tok) : checkTypeCall "enumerate" ⟨[a], [("start", .int c t)]⟩ = pure () := by kernel_rfl
theorem Zik (a : Value) (c : Int) (t : Tok) : checkBuiltinCall "enumerate.__new__" ⟨[.type "enumerate", a], [("start", .int c t)]⟩ = pure () := by kernel_rfl
theorem Zil (o a : Value) (c : Int) (t : Tok) : argsOk "object.__init__" ⟨[o, a], [("start", .int c t)]⟩ := by
 unfold argsOk; rw [signature?_of (id := "object.__init__") (n := ['_', '_', 't', 'i', 'n', 'i', '_', '_']) (o := ['t', 'c', 'e', 'j', 'b', 'o']) (by kernel_rfl) F.owner_object]; kernel_rfl
theorem Zmq (l : Addr) (its : Array Value) (c : Int) (t : Tok) (hc : Builtin.SmallTypes.fitsIndex c = true) :
 Meets (Builtin.«enumerate.__new__» ⟨[.type "enumerate", .ref l], [("start", .int c t)]⟩) (fun _ R s => s.heap.IsList l its /\ R (.ok (.ret (.ref (s.heap.push { cls := .type "list_iterator", data := .fields #[.ref l, .int 0 0] }).objs.size)))
  { s with heap := (s.heap.push { cls := .type "list_iterator", data := .fields #[.ref l, .int 0 0] }).push { cls := .type "enumerate", data := .fields #[.none, .bool false, .ref s.heap.objs.size, rawInt c, .none, .none] } }) :=
 .of_wp fun prog w A R s h => by
  obtain ⟨hp, gs, dr, tk, os⟩ := s
  obtain ⟨hL, h⟩ := h
  obtain ⟨⟨cl, dct, dt, sl⟩, hl, e1, n, e2⟩ := id hL
  replace e1 : cl = .type "list" := e1
  replace e2 : dt = .seq its n := e2
  subst e1 e2
  have hsub := sub_enumerate
  wp_walk using AutoSeq1.wpAny_loadPart' hl
  (refine wpAny_stack_any fun st => wpAny_pure ?_)
  refine Zmp fun short => ?_
  have hf : (!Builtin.SmallTypes.fitsIndex c) = false := by rw [hc]; rfl
  cases short
  . refine wpAny_bind (wpAny_of_eq (a := (Value.ref l, some (Value.int c t))) (by kernel_rfl) ?_)
    wp_walk using wpAny_pyIter_list hL
    exact ⟨_, rfl, h⟩
  . refine wpAny_bind (wpAny_of_eq (a := (Value.ref l, some (Value.int c t))) (by kernel_rfl) ?_)
    wp_walk using wpAny_pyIter_list hL
    exact ⟨_, rfl, h⟩
theorem ZkN {e it l : Addr} {i : Nat} {c : Int} {its : Array Value} {x old : Value} {Q : Option Value -> Shared -> Prop} (he : IsEnum s.heap e it c old) (hi : s.heap.IsListIter it l i) (hl : s.heap.IsList l its) (hx : its[i]? = some x) (ne : e ≠ it)
 (hQ : ∀ h', IsEnumOut h' e it (c + 1) x s.heap.objs.size -> h'.IsListIter it l (i + 1) -> h'.get? s.heap.objs.size = some { cls := .type "tuple", data := .seq #[.int c s.toks, x] } ->
  (∀ b o, b ≠ e -> b ≠ it -> s.heap.get? b = some o -> h'.get? b = some o) -> Q (some (.ref s.heap.objs.size)) { s with heap := h', toks := s.toks + 1 }) : wpAny (model prog w) A (pyNext (.ref e)) Q E s := by
 (have hT : s.TypeIs (.ref e) "enumerate" := ⟨_, he, rfl⟩)
 unfold pyNext
 refine wpAny_bind (wpAny_attempt (wpAny_callSpecial?_slot (name := Str.ofString "__next__") hT F.slot_enumerate_next (wpAny_call_entry F.slot_enumerate_next hT F.entry_enumerate_next ?_ (F.args_enumerate_next_1 _))))
 obtain ⟨hp, gs, dr, tk, os⟩ := s
 (have hel : e < hp.objs.size := Heap.lt_size he)
 show wpAny (model prog w) A.in1 (field (.ref e) 2 >>= _) _ _ _
 refine wpAny_bind (wpAny_field he rfl (x := .ref it) rfl (wpAny_bind (wpAny_nextOf_list_item hi hl hx fun g1 i1 k1 => ?_)))
 replace k1 : Heap.SameBut it hp g1 := k1
 have e1 : IsEnum g1 e it c old := (k1.2 e ne).trans he
 show wpAny (model prog w) A.in1 (field (.ref e) 3 >>= _) _ _ ⟨g1, gs, dr, tk, os⟩
 refine wpAny_bind (wpAny_field e1 rfl (x := rawInt c) rfl ?_)
 show wpAny (model prog w) A.in1 (field (.ref e) 4 >>= _) _ _ ⟨g1, gs, dr, tk, os⟩
 refine wpAny_bind (wpAny_field e1 rfl (x := .none) rfl ?_)
 show wpAny (model prog w) A.in1 (mkInt c >>= _) _ _ ⟨g1, gs, dr, tk, os⟩
 (refine wpAny_bind (wpAny_mkInt ?_))
 show wpAny (model prog w) A.in1 (setField (.ref e) 3 (rawInt (c + 1)) >>= _) _ _ ⟨g1, gs, dr, tk + 1, os⟩
 refine wpAny_bind (wpAny_setField_rec e1 (by simp) fun g2 e2 k2 => ?_)
 replace k2 : Heap.SameBut e g1 g2 := k2
 replace e2 : IsEnum g2 e it (c + 1) old := e2
 show wpAny (model prog w) A.in1 (setField (.ref e) 4 .none >>= _) _ _ ⟨g2, gs, dr, tk + 1, os⟩
 refine wpAny_bind (wpAny_setField_rec e2 (by simp) fun g3 e3 k3 => ?_)
 replace k3 : Heap.SameBut e g2 g3 := k3
 replace e3 : IsEnum g3 e it (c + 1) old := e3
 have z3 : g3.objs.size = hp.objs.size := by rw [k3.1, k2.1, k1.1]
 show wpAny (model prog w) A.in1 (newTuple [.int c tk, x] >>= _) _ _ ⟨g3, gs, dr, tk + 1, os⟩
 (refine wpAny_bind (wpAny_newTuple ?_))
 have e4 : IsEnum (g3.push { cls := .type "tuple", data := .seq #[.int c tk, x] }) e it (c + 1) old := Heap.get?_push_of_some _ e3
 have t4 : (g3.push { cls := .type "tuple", data := .seq #[.int c tk, x] }).get? hp.objs.size = some { cls := .type "tuple", data := .seq #[.int c tk, x] } := by rw [<- z3]; exact Heap.get?_push_size _ rfl
 have i4 : (g3.push { cls := .type "tuple", data := .seq #[.int c tk, x] }).IsListIter it l (i + 1) := by
  obtain ⟨o, ho, r⟩ := (i1.extBut k2.extBut (Ne.symm ne)).extBut k3.extBut (Ne.symm ne)
  exact ⟨o, Heap.get?_push_of_some _ ho, r⟩
 have b4 : ∀ b o, b ≠ e -> b ≠ it -> hp.get? b = some o -> (g3.push { cls := .type "tuple", data := .seq #[.int c tk, x] }).get? b = some o := fun b o n1 n2 y => Heap.get?_push_of_some _ (k3.extBut b o n1 (k2.extBut b o n1 (k1.extBut b o n2 y)))
 generalize g3.push { cls := .type "tuple", data := .seq #[.int c tk, x] } = g4 at e4 t4 i4 b4 ⊢
 rw [z3]
 show wpAny (model prog w) A.in1 (Builtin.SmallTypes.ownedTupleIsFree (.ref e) >>= _) _ _ ⟨g4, gs, dr, tk + 1, os⟩
 clear e3 k3 e2 k2 e1 k1 i1 z3 g3 g2 g1
 refine wpAny_bind ?_
 (unfold Builtin.SmallTypes.ownedTupleIsFree)
 refine wpAny_bind (wpAny_field e4 rfl (x := .none) rfl (wpAny_pure ?_))
 simp only [if_true]
 refine wpAny_bind (wpAny_rule (wpAny_bind (wpAny_field e4 rfl (x := old) rfl (wpAny_bind (wpAny_setField_rec e4 (by simp) fun g5 e5 k5 => ?_)))))
 replace k5 : Heap.SameBut e g4 g5 := k5
 replace e5 : IsEnum g5 e it (c + 1) x := e5
 show wpAny (model prog w) A.in1 (Builtin.SmallTypes.ownedTupleHandOut (.ref e) (.ref hp.objs.size) >>= _) _ _ ⟨g5, gs, dr, tk + 1, os⟩
 refine wpAny_bind ?_
 (unfold Builtin.SmallTypes.ownedTupleHandOut)
 refine wpAny_bind (wpAny_setField_rec e5 (by simp) fun g6 e6 k6 => ?_)
 replace k6 : Heap.SameBut e g5 g6 := k6
 replace e6 : IsEnumOut g6 e it (c + 1) x hp.objs.size := e6
 refine wpAny_setField_rec e6 (by simp) fun g7 e7 k7 => ?_
 replace k7 : Heap.SameBut e g6 g7 := k7
 replace e7 : IsEnumOut g7 e it (c + 1) x hp.objs.size := e7
 have up : ∀ b o, b ≠ e -> g4.get? b = some o -> g7.get? b = some o := fun b o n y => k7.extBut b o n (k6.extBut b o n (k5.extBut b o n y))
 refine wpAny_bind (wpAny_letGo (wpAny_pure ⟨_, rfl, wpAny_pure (hQ g7 e7 ?_ (up _ _ (Nat.ne_of_gt hel) t4) fun b o n1 n2 y => up b o n1 (b4 b o n1 n2 y))⟩))
 exact ((i4.extBut k5.extBut (Ne.symm ne)).extBut k6.extBut (Ne.symm ne)).extBut k7.extBut (Ne.symm ne)
theorem Zmr {e it l : Addr} {i : Nat} {c : Int} {its : Array Value} {old : Value} {Q : Option Value -> Shared -> Prop} (hh : A.handled = none) (he : IsEnum s.heap e it c old) (hi : s.heap.IsListIter it l i) (hl : s.heap.IsList l its) (hx : its[i]? = none)
 (hQ : ∀ g, Heap.ExtBut it s.heap g -> Q none { s with heap := g }) : wpAny (model prog w) A (pyNext (.ref e)) Q E s := by
 (have hT : s.TypeIs (.ref e) "enumerate" := ⟨_, he, rfl⟩)
 unfold pyNext
 refine wpAny_bind (wpAny_attempt (wpAny_callSpecial?_slot (name := Str.ofString "__next__") hT F.slot_enumerate_next (wpAny_call_entry F.slot_enumerate_next hT F.entry_enumerate_next ?_ (F.args_enumerate_next_1 _))))
 show wpAny (model prog w) A.in1 (field (.ref e) 2 >>= _) _ _ _
 refine wpAny_bind (wpAny_field he rfl (x := .ref it) rfl (wpAny_bind (wpAny_nextOf_list_end hh hi hl hx fun h' y b1 z0 => ?_)))
 obtain ⟨o, b2, b3⟩ := z0
 exact wpAny_bind (wpAny_isInstance (T := "StopIteration") (b := true) ⟨o, b2, b3⟩ isSubtype_stop (wpAny_pure (hQ _ b1)))
theorem ZkO {l : Addr} {its : Array Value} {c : Int} {t : Tok} {Q : Value -> Shared -> Prop} (hL : s.heap.IsList l its) (hc : Builtin.SmallTypes.fitsIndex c = true)
 (h : ∀ h', IsEnum h' (s.heap.objs.size + 1) s.heap.objs.size c .none -> h'.IsListIter s.heap.objs.size l 0 -> (∀ b o, s.heap.get? b = some o -> h'.get? b = some o) -> Q (.ref (s.heap.objs.size + 1)) { s with heap := h' }) :
 wpAny (model prog w) A (call (.type "enumerate") [.ref l] [("start", .int c t)]) Q E s := by
 refine ZkM F.called_enumerate (by decide) (Zij _ _ _) (Zik _ _ _) (fun o => Zil o _ _ _) (by simp) F.entry_enumerate_new (Zmq l its c t hc) ⟨hL, ?_⟩
 have hz := Heap.size_push s.heap { cls := .type "list_iterator", data := .fields #[.ref l, .int 0 0] }
 show _ /\ Q (.ref _) _
 rw [hz]
 have y := Heap.get?_push_size (s.heap.push { cls := .type "list_iterator", data := .fields #[.ref l, .int 0 0] }) (o := { cls := .type "enumerate", data := .fields #[.none, .bool false, .ref s.heap.objs.size, rawInt c, .none, .none] }) rfl
 rw [hz] at y
 exact ⟨⟨_, y, rfl⟩, h _ y ⟨_, Heap.get?_push_of_some _ (Heap.get?_push_size _ rfl), rfl, rfl⟩ fun b o x => Heap.get?_push_of_some _ (Heap.get?_push_of_some _ x)⟩
end
end L2
namespace L2
open PySem PySem.Spec
section
variable {X : Cx} {pins : List (Addr × Obj)} {σ : St} {H : Hp} {s : Shared} {h' : Heap}
theorem Inv.turnedL {t' : Nat} {fp : List Addr} (I : Inv X pins σ H s) (k : ∀ b o, b ∉ fp -> s.heap.get? b = some o -> h'.get? b = some o) (hf : ∀ b ∈ fp, FpOk X pins H b) : Inv X pins σ H { s with heap := h', toks := t' } := by
 have nf : ∀ b u, H b = some u -> b ∉ fp := fun b u e z => by rw [(hf b z).1] at e; cases e
 have hL : X.env.locals ∉ fp := fun z => (hf _ z).2.1 rfl
 refine I.step (g' := s.gens) (d' := s.drawn) (ch := fp) (fun b hb => ?_) (fun b o _ _ hc e _ => k b o hc e) (fun b o _ _ hc e _ => ⟨o.slots, k b o hc e⟩) (fun _ _ _ _ n => n) (fun b o hc e => ⟨o, k b o hc e⟩)
  (fun _ _ e => e) (fun _ _ _ e => e) (fun b ps e => ⟨#[], by rw [e]; simp⟩) (fun m hm => ?_) (fun b u e => ?_) I.bare
 . obtain ⟨f0, f1, f2, f3, f4, f5⟩ := hf b hb
   exact ⟨f3, f1, f4, f5⟩
 . obtain ⟨o, es, ep, ho, r⟩ := hm
   exact ⟨o, es, ep, k _ o hL ho, r⟩
 . refine (I.hok b u e).stay (fun c v hc q => k c v ?_ q) (fun _ q => q) fun _ _ q => q
   exact hc.elim (fun z => by rw [z]; exact nf b u e) fun z => nf c _ z
theorem Zgj {h : Heap} {o o' : Obj} {b : Addr} (hb : b < h.objs.size) (e : (h.push o).get? b = some o') : h.get? b = some o' := by
 (obtain ⟨e1, e2⟩ := Heap.get?_some_iff.mp e)
 refine Heap.get?_some_iff.mpr ⟨?_, e2⟩
 cases h
 simpa [Heap.push, Array.getElem?_push, Nat.ne_of_lt hb] using e1
theorem Inv.laidT {t' : Nat} {fp : List Addr} {xs : List V} {us : List Value} (I : Inv X pins σ H s) (r : Vals xs us) (hz : xs.length <= sizeLine) (ht : h'.get? s.heap.objs.size = some { cls := .type "tuple", data := .seq us.toArray })
 (k : ∀ b o, b ∉ fp -> s.heap.get? b = some o -> h'.get? b = some o) (hf : ∀ b ∈ fp, FpOk X pins H b) (hlt : ∀ b ∈ fp, b < s.heap.objs.size) : Inv X pins σ (upd H s.heap.objs.size (.tup xs)) { s with heap := h', toks := t' } := by
 have I1 : Inv X pins σ (upd H s.heap.objs.size (.tup xs)) { s with heap := s.heap.push { cls := .type "tuple", data := .seq us.toArray }, toks := t' } :=
  I.laid (fun b u e => Heap.get?_push_of_some _ e) (Nat.le_refl _) ⟨hz, us, r, ⟨_, Heap.get?_push_size _ rfl, rfl, _, rfl⟩⟩
 refine (fun (go : ∀ b o, b ∉ fp -> (s.heap.push { cls := .type "tuple", data := .seq us.toArray }).get? b = some o -> h'.get? b = some o) => ?_) fun b o hb e => ?_
 . exact Inv.turnedL (s := { s with heap := s.heap.push { cls := .type "tuple", data := .seq us.toArray }, toks := t' }) (fp := fp) (t' := t') (h' := h') I1 go fun b hb => ⟨by rw [Zn (Nat.ne_of_lt (hlt b hb))]; exact (hf b hb).1, (hf b hb).2⟩
 . by_cases hq : b = s.heap.objs.size
   . subst hq
     rw [Heap.get?_push_size _ rfl] at e
     rw [<- e]
     exact ht
   . have : b < s.heap.objs.size := by
      have := Heap.lt_size e
      rw [Heap.size_push] at this
      exact Nat.lt_of_le_of_ne (Nat.le_of_lt_succ this) hq
     exact k b o hb (Zgj this e)
end
noncomputable def Ite (K : Fg) (a : Addr) (c : Int) : It where
 go i H := ∃ xs x, SqL K H a xs /\ xs[i]? = some x
 yld i H x H' := ∃ A y, x = .ref A /\ H A = none /\ H' = upd H A (.tup [.int (c + i), y]) /\ ∀ xs, SqL K H a xs -> xs[i]? = some y
 stop i H := ∃ xs, SqL K H a xs /\ xs.length <= i
theorem Zim {P : Program} {w : World} {K : Fg} {es : List Expr} {k1 : Nat} {pos : Pos} (a e it : Addr) (c : Int) (ne : e ≠ it) : Turn P w K (.Tuple es k1 pos) (Ite K a c) [e, it] e (fun i h => (∃ old, IsEnum h e it (c + (i : Nat)) old) /\ h.IsListIter it a i) where
 mem := by simp
 obj := fun i h st b hb => by
  obtain ⟨⟨old, he⟩, o, e1, e2, e3⟩ := st
  (rcases List.mem_cons.mp hb with rfl | hb)
  . exact ⟨_, he, fun v z => by
     have z' : Data.fields _ = Data.cell v := z
     cases z'⟩
  . have : b = it := by simpa using hb
    subst this
    exact ⟨o, e1, fun v z => by rw [e3] at z; cases z⟩
 keep := fun i h h' st k => ⟨st.1.imp fun old he => k e (by simp) _ he, st.2.at fun o y => k it (by simp) o y⟩
 item := by
  intro X hP hw hK hc i pins s σ H E I hf st hg
  subst hP hw hK
  obtain ⟨xs, x, hq, hx⟩ := hg
  obtain ⟨its, rv, p, hz⟩ := I.list hq
  obtain ⟨u, hu, ru⟩ := rv.get hx
  obtain ⟨⟨old, he⟩, hi⟩ := st
  have le : e < s.heap.objs.size := Heap.lt_size he
  have li : it < s.heap.objs.size := by obtain ⟨_, y, _⟩ := hi; exact Heap.lt_size y
  have lt : ∀ b ∈ [e, it], b < s.heap.objs.size := fun b hb => by
   (rcases List.mem_cons.mp hb with rfl | hb)
   . exact le
   . rw [List.mem_singleton.mp hb]; exact li
  refine ZkN he hi p.isList (x := u) (by simpa using hu) ne fun h' ho hi' ht hk => ⟨_, rfl, ?_⟩
  refine wpAny_letOwnedTupleGo_enum ho fun h2 he2 hs2 => ?_
  have up : ∀ b o, b ≠ e -> h'.get? b = some o -> h2.get? b = some o := fun b o n y => hs2.extBut b o n y
  have I2 := I.laidT (fp := [e, it]) (h' := h2) (t' := s.toks + 1) (xs := [.int (c + i), x]) (us := [.int (c + i) s.toks, u]) (.cons ⟨_, rfl⟩ (.cons ru .nil)) (by simp [sizeLine])
   (up _ _ (Nat.ne_of_gt le) ht) (fun b o hb y => up b o (fun z => hb (by simp [z])) (hk b o (fun z => hb (by simp [z])) (fun z => hb (by simp [z])) y)) hf lt
  refine ⟨.ref s.heap.objs.size, _, I2, rfl, ⟨_, x, rfl, I.hok.fresh (Nat.le_refl _), rfl, fun ys hy => by rw [I.list_inj hy hq]; exact hx⟩, ⟨⟨u, ?_⟩, hi'.at fun o y => up it o (Ne.symm ne) y⟩, fun b hb => ?_⟩
  . have z : c + ((i + 1 : Nat) : Int) = c + i + 1 := by omega
    rw [z]
    exact he2
  . rw [Zn (Nat.ne_of_lt (lt b hb))]
    exact (hf b hb).1
 done := by
  intro X hP hw hK hc i pins s σ H E I hf st hg
  subst hP hw hK
  obtain ⟨xs, hq, hx⟩ := hg
  obtain ⟨its, rv, p, hz⟩ := I.list hq
  obtain ⟨⟨old, he⟩, hi⟩ := st
  have hl := rv.length
  exact Zmr (I.ok.hd hc) he hi p.isList (by simp; omega) fun h' eb => ⟨rfl, I.turnedL (t' := s.toks) (fun b o hb y => eb b o (fun z => hb (by simp [z])) y) hf⟩
 self := fun _ _ _ _ _ st h => by
  obtain ⟨⟨old, he⟩, _⟩ := st
  exact wpAny_pyIter_enum he h
section
variable {X : Cx} {es : List Expr} {k1 : Nat} {l ke : Expr} {t : TA} {p pos q kp : Pos} {c : Int}
noncomputable def Zho (K : Fg) (c : Int) (t : TA) : TI := fun σ H R => t σ H fun vs H1 => ∃ a, vs = [.ref a] /\ (∃ xs, SqL K H1 a xs) /\ R (Ite K a c) H1
theorem Zkf {pins : List (Addr × Obj)} {σ : St} {H : Hp} {s : Shared} {h' : Heap} {R : It -> Hp -> Prop} {E : Value -> Shared -> Prop} {a : Addr} (I : Inv X pins σ H s) (he : IsEnum h' (s.heap.objs.size + 1) s.heap.objs.size c .none) (hi : h'.IsListIter s.heap.objs.size a 0)
 (hk : ∀ b o, s.heap.get? b = some o -> h'.get? b = some o) (z : R (Ite X.K a c) H) : wpAny (model X.prog X.w) X.A (pyIter (.ref (s.heap.objs.size + 1))) (PIE X pins σ (.Tuple es k1 q) R) E { s with heap := h' } := by
 refine wpAny_pyIter_enum he ⟨_, [s.heap.objs.size + 1, s.heap.objs.size], _, _, H, rfl, I.kept (t' := s.toks) hk, Zim a _ _ c (Nat.succ_ne_self _), ⟨⟨_, by simpa using he⟩, hi⟩, fun b hb => ?_, z⟩
 have : s.heap.objs.size <= b := by
  (rcases List.mem_cons.mp hb with rfl | hb)
  . omega
  . rw [List.mem_singleton.mp hb]; exact Nat.le_refl _
 exact I.fpOk this (I.hok.fresh this)
theorem ZkP (hg : Gl X "enumerate") (hm : X.mg "enumerate" = none) (ha : PA X [l] t) (hs : starEach [l] X.env = [(false, eval l X.env)] := by rfl) : PI X (.Tuple es k1 q) (.Call (.Name "enumerate" p) [l] [] pos) (Zho X.K 0 t) := by
 intro pins s σ H R I h
 refine PyProof.Rows.Call_ (ZaQ I hg hm PyProof.Rows.boot_enumerate (PyProof.Rows.callWith_type1 (thn (ha pos pins s σ H _ I h) fun us s1 z0 => ?_) hs rfl))
 obtain ⟨vs, H1, I1, r1, q1⟩ := z0
 obtain ⟨a, e, ⟨xs, hq⟩, z⟩ := q1
 subst e
 cases r1 with
 | cons r rr =>
  cases rr
  cases r
  obtain ⟨its, rv, pl, hz⟩ := I1.list hq
  exact call_enumerate_list pl.isList fun h' he hi _ hk => Zkf I1 he hi hk z
theorem Zjo (hg : Gl X "enumerate") (hm : X.mg "enumerate" = none) (ha : PA X [l] t) (hke : PE X ke (tC (.int c))) (hc : Builtin.SmallTypes.fitsIndex c = true) (hs : starEach [l] X.env = [(false, eval l X.env)] := by rfl) : PI X (.Tuple es k1 q) (.Call (.Name "enumerate" p) [l] [⟨some "start", ke, kp⟩] pos) (Zho X.K c t) := by
 intro pins s σ H R I h
 refine wpAny_Call_Name_kw (ZaQ I hg hm PyProof.Rows.boot_enumerate (Zhn (by rw [hs]; rfl) rfl ?_))
 rw [hs]
 refine PyProof.Rows.evalArgs_kwB rfl ?_
 have ha' := ha pos pins s σ H _ I h
 rw [hs] at ha'
 refine thn ha' fun us s1 z0 => ?_
 obtain ⟨vs, H1, I1, r1, q1⟩ := z0
 obtain ⟨a, e, ⟨xs, hq⟩, z⟩ := q1
 subst e
 cases r1 with
 | cons r rr =>
  cases rr
  cases r
  refine thn (Zk6 (nm := some "start") (kpos := kp) hke Zmb pos pins s1 σ H1 (fun vs H2 => vs = [.int c] /\ H2 = H1) I1 ⟨rfl, rfl⟩) fun ws s2 z0 => ?_
  obtain ⟨zs, H2, I2, r2, e1, e2⟩ := z0
  subst e1 e2
  cases r2 with
  | cons r rr =>
   cases rr
   obtain ⟨tt, rfl⟩ := r
   obtain ⟨its, rv, pl, hz⟩ := I2.list hq
   exact ZkO pl.isList hc fun h' he hi hk => Zkf I2 he hi hk z
end
end L2
namespace L2
open PySem PySem.Spec
noncomputable def Itz (K : Fg) (a b : Addr) : It where
 go i H := ∃ xs ys x y, SqL K H a xs /\ SqL K H b ys /\ xs[i]? = some x /\ ys[i]? = some y
 yld i H x H' := ∃ A u v, x = .ref A /\ H A = none /\ H' = upd H A (.tup [u, v]) /\ (∀ xs, SqL K H a xs -> xs[i]? = some u) /\ ∀ ys, SqL K H b ys -> ys[i]? = some v
 stop i H := ∃ xs ys, SqL K H a xs /\ SqL K H b ys /\ (xs.length <= i \/ ys.length <= i)
theorem mem5 {P : Addr -> Prop} {z t u v w : Addr} (h1 : P z) (h2 : P t) (h3 : P u) (h4 : P v) (h5 : P w) : ∀ b ∈ [z, t, u, v, w], P b := fun b hb => by
 (simp only [List.mem_cons, List.not_mem_nil, or_false] at hb)
 rcases hb with rfl | rfl | rfl | rfl | rfl <;> assumption
theorem Zjp {P : Program} {w : World} {K : Fg} {es : List Expr} {k1 : Nat} {pos : Pos} (a b z TI TO i1 i2 : Addr) (ap : ZipApart z TI TO i1 i2 a b) : Turn P w K (.Tuple es k1 pos) (Itz K a b) [z, TI, TO, i1, i2] z
 (fun i h => IsZip h z TI TO .none /\ IsPair h TI (.ref i1) (.ref i2) /\ (∃ u v, IsPair h TO u v) /\ h.IsListIter i1 a i /\ h.IsListIter i2 b i) where
 mem := by simp
 obj := fun i h st => by
  obtain ⟨hz, hI, ⟨u, v, hO⟩, ⟨o1, e1, c1, d1⟩, ⟨o2, e2, c2, d2⟩⟩ := st
  refine mem5 (P := fun b => ∃ o, h.get? b = some o /\ ∀ v, o.data ≠ .cell v) ⟨_, hz, fun v q => ?_⟩ ⟨_, hI, fun v q => ?_⟩ ⟨_, hO, fun v q => ?_⟩ ⟨o1, e1, fun v q => by rw [d1] at q; cases q⟩ ⟨o2, e2, fun v q => by rw [d2] at q; cases q⟩
  . have q' : Data.fields _ = Data.cell v := q
    cases q'
  . have q' : Data.seq _ _ = Data.cell v := q
    cases q'
  . have q' : Data.seq _ _ = Data.cell _ := q
    cases q'
 keep := fun i h h' st k => ⟨k z (by simp) _ st.1, k TI (by simp) _ st.2.1, st.2.2.1.imp fun u hu => hu.imp fun v hv => k TO (by simp) _ hv, st.2.2.2.1.at fun o y => k i1 (by simp) o y, st.2.2.2.2.at fun o y => k i2 (by simp) o y⟩
 item := by
  intro X hP hw hK hc i pins s σ H E I hf st hg
  subst hP hw hK
  obtain ⟨xs, ys, x, y, hqx, hqy, hx, hy⟩ := hg
  obtain ⟨its, rv, p, _⟩ := I.list hqx
  obtain ⟨jts, rw', p', _⟩ := I.list hqy
  obtain ⟨u, hu, ru⟩ := rv.get hx
  obtain ⟨v, hv, rv'⟩ := rw'.get hy
  obtain ⟨hz, hI, ⟨u0, v0, hO⟩, hi1, hi2⟩ := st
  have lt : ∀ b ∈ [z, TI, TO, i1, i2], b < s.heap.objs.size := mem5 (P := fun b => b < s.heap.objs.size) (Heap.lt_size hz) (Heap.lt_size hI) (Heap.lt_size hO) (by obtain ⟨_, q, _⟩ := hi1; exact Heap.lt_size q) (by obtain ⟨_, q, _⟩ := hi2; exact Heap.lt_size q)
  refine wpAny_pyNext_zip_item ap hz hI hO hi1 hi2 p.isList p'.isList (x := u) (y := v) (by simpa using hu) (by simpa using hv) fun h' ho hO' hi1' hi2' hT _ hk => ⟨_, rfl, ?_⟩
  refine wpAny_letOwnedTupleGo_zip ho fun h2 hz2 hs2 => ?_
  have up : ∀ b o, b ≠ z -> h'.get? b = some o -> h2.get? b = some o := fun b o n q => hs2.extBut b o n q
  have zlt := lt z (by simp)
  have I2 := I.laidT (fp := [z, TI, TO, i1, i2]) (h' := h2) (t' := s.toks) (xs := [x, y]) (us := [u, v]) (.cons ru (.cons rv' .nil)) (by simp [sizeLine])
   (up _ _ (Nat.ne_of_gt zlt) hT) (fun b o hb q => up b o (fun e => hb (by simp [e])) (hk b o (fun e => hb (by simp [e])) (fun e => hb (by simp [e])) (fun e => hb (by simp [e])) (fun e => hb (by simp [e])) q)) hf lt
  have hI' : IsPair h' TI (.ref i1) (.ref i2) := hk TI _ ap.TIz ap.TITO ap.TIi1 ap.TIi2 hI
  refine ⟨.ref s.heap.objs.size, _, I2, rfl, ⟨_, x, y, rfl, I.hok.fresh (Nat.le_refl _), rfl, fun zs q => by rw [I.list_inj q hqx]; exact hx, fun zs q => by rw [I.list_inj q hqy]; exact hy⟩,
   ⟨hz2, up _ _ ap.TIz hI', ⟨u, v, up _ _ ap.TOz hO'⟩, hi1'.at fun o q => up i1 o ap.i1z q, hi2'.at fun o q => up i2 o ap.i2z q⟩, fun b hb => ?_⟩
  rw [Zn (Nat.ne_of_lt (lt b hb))]
  exact (hf b hb).1
 done := by
  intro X hP hw hK hc i pins s σ H E I hf st hg
  subst hP hw hK
  obtain ⟨xs, ys, hqx, hqy, hend⟩ := hg
  obtain ⟨its, rv, p, _⟩ := I.list hqx
  obtain ⟨jts, rw', p', _⟩ := I.list hqy
  obtain ⟨hz, hI, ⟨u0, v0, hO⟩, hi1, hi2⟩ := st
  have l1 := rv.length
  have l2 := rw'.length
  refine wpAny_pyNext_zip_end (I.ok.hd hc) ap hz hI hO hi1 hi2 p.isList p'.isList ?_ fun h' hk => ⟨rfl, I.turnedL (t' := s.toks) (fun b o hb q => hk b o (fun e => hb (by simp [e])) (fun e => hb (by simp [e])) (fun e => hb (by simp [e])) (fun e => hb (by simp [e])) q) hf⟩
  rcases hend with h | h
  . exact .inl (by simp; omega)
  . exact .inr (by simp; omega)
 self := fun _ _ _ _ _ st h => wpAny_pyIter_zip st.1 h
section
variable {X : Cx} {es : List Expr} {k1 : Nat} {l r : Expr} {t : TA} {p pos q : Pos}
noncomputable def iZip (K : Fg) (t : TA) : TI := fun σ H R => t σ H fun vs H1 => ∃ a b, vs = [.ref a, .ref b] /\ (∃ xs, SqL K H1 a xs) /\ (∃ ys, SqL K H1 b ys) /\ R (Itz K a b) H1
theorem Zms (hg : Gl X "zip") (hm : X.mg "zip" = none) (ha : PA X [l, r] t) (hs : starEach [l, r] X.env = [(false, eval l X.env), (false, eval r X.env)] := by rfl) (hs2 : starEach [r] X.env = [(false, eval r X.env)] := by rfl) : PI X (.Tuple es k1 q) (.Call (.Name "zip" p) [l, r] [] pos) (iZip X.K t) := by
 intro pins s σ H R I h
 refine PyProof.Rows.Call_ (ZaQ I hg hm PyProof.Rows.boot_zip (PyProof.Rows.callWith_type1 (thn (ha pos pins s σ H _ I h) fun us s1 z0 => ?_) (by rw [hs, hs2]) (by rw [hs2]; rfl)))
 obtain ⟨vs, H1, I1, r1, q1⟩ := z0
 obtain ⟨a, b, e, ⟨xs, hq⟩, ⟨ys, hq'⟩, y⟩ := q1
 subst e
 cases r1 with
 | cons u uu =>
  cases uu with
  | cons u' uu =>
   cases uu
   cases u
   cases u'
   obtain ⟨its, rv, pl, _⟩ := I1.list hq
   obtain ⟨jts, rw', pl', _⟩ := I1.list hq'
   have la : @LT.lt Nat _ a s1.heap.objs.size := by obtain ⟨o, n, e, _⟩ := pl; exact Heap.lt_size e
   have lb : @LT.lt Nat _ b s1.heap.objs.size := by obtain ⟨o, n, e, _⟩ := pl'; exact Heap.lt_size e
   refine call_zip_2 pl.isList pl'.isList fun h' hz hI hO hi1 hi2 _ hk => wpAny_pyIter_zip hz ?_
   generalize hn : s1.heap.objs.size = n at *
   have ap : ZipApart (n + 4) (n + 2) (n + 3) n (n + 1) a b := by
    have c1 : @LT.lt Nat _ a n := la
    have c2 : @LT.lt Nat _ b n := lb
    constructor <;> (first | exact Nat.ne_of_lt (by omega) | exact Nat.ne_of_gt (by omega))
   refine ⟨_, [n + 4, n + 2, n + 3, n, n + 1], _, _, H1, rfl, I1.kept (t' := s1.toks) hk, Zjp a b _ _ _ _ _ ap, ⟨hz, hI, ⟨_, _, hO⟩, hi1, hi2⟩, ?_, y⟩
   refine mem5 (P := fun b => FpOk X pins H1 b) ?_ ?_ ?_ ?_ ?_ <;> exact I1.fpOk (by rw [hn]; omega) (I1.hok.fresh (by rw [hn]; omega))
end
end L2
namespace T
open PySem L2
inductive Kd where
 | lst | frl | tup | ftp | dic (ks : List Key) | ins (C : Addr) (fs : List Str) | exc (ns : List Str) (fr : Bool) (fs : List Str)
 deriving DecidableEq
inductive D where
 | sc (v : V) | hole | node (k : Kd) (o : Bool) (ds : List D)
mutual
noncomputable def shr : D -> D
 | .sc v => .sc v
 | .hole => .hole
 | .node k _ ds => .node k false (shrL ds)
noncomputable def shrL : List D -> List D
 | [] => []
 | d :: ds => shr d :: shrL ds
end
theorem Zf0 : ∀ ds : List D, shrL ds = ds.map shr
 | [] => rfl
 | d :: ds => by rw [shrL, Zf0 ds]; rfl
def ZcE (K : Fg) (H : Hp) (a : Addr) (vs : List V) : Kd -> Prop
 | .lst => H a = some (.lst vs)
 | .frl => SqL K H a vs
 | .tup => H a = some (.tup vs)
 | .ftp => SqT K H a vs
 | .dic ks => ks.length = vs.length /\ H a = some (.dK (ks.zip vs))
 | .ins C fs => fs.length = vs.length /\ ∃ dx, H a = some (.ins C dx (fs.zip vs))
 | .exc ns fr fs => fs.length = vs.length /\ ∃ C dx, XN K ns C /\ H a = some (.exc C dx fr (fs.zip vs))
def ZaE (K : Fg) (H : Hp) (a : Addr) (vs : List V) : Kd -> Prop
 | .lst => H a = some (.lst vs)
 | .frl => False
 | .tup => H a = some (.tup vs)
 | .ftp => False
 | .dic ks => ks.length = vs.length /\ H a = some (.dK (ks.zip vs))
 | .ins C fs => fs.length = vs.length /\ ∃ dx, H a = some (.ins C dx (fs.zip vs))
 | .exc ns fr fs => fs.length = vs.length /\ ∃ C dx, XN K ns C /\ H a = some (.exc C dx fr (fs.zip vs))
theorem ZaE.r {K : Fg} {H : Hp} {a : Addr} {vs : List V} {k : Kd} (h : ZaE K H a vs k) : ZcE K H a vs k := by
 cases k with
 | lst => exact h
 | frl => exact h.elim
 | tup => exact h
 | ftp => exact h.elim
 | dic ks => exact h
 | ins C fs => exact h
 | exc ns fr fs => exact h
theorem ZaE.at {K : Fg} {H : Hp} {a : Addr} {vs : List V} {k : Kd} (h : ZaE K H a vs k) : H a ≠ none := by
 cases k with
 | lst => rw [show H a = _ from h]; simp
 | frl => exact h.elim
 | tup => rw [show H a = _ from h]; simp
 | ftp => exact h.elim
 | dic ks => rw [h.2]; simp
 | ins C fs => obtain ⟨_, dx, e⟩ := h; rw [e]; simp
 | exc ns fr fs => obtain ⟨_, C, dx, _, e⟩ := h; rw [e]; simp
theorem ZaE.eq {K : Fg} {H H' : Hp} {a : Addr} {vs : List V} {k : Kd} (h : ZaE K H a vs k) (e : H' a = H a) : ZaE K H' a vs k := by
 cases k with
 | lst => exact e.trans h
 | frl => exact h.elim
 | tup => exact e.trans h
 | ftp => exact h.elim
 | dic ks => exact ⟨h.1, e.trans h.2⟩
 | ins C fs => obtain ⟨l, dx, q⟩ := h; exact ⟨l, dx, e.trans q⟩
 | exc ns fr fs => obtain ⟨l, C, dx, x, q⟩ := h; exact ⟨l, C, dx, x, e.trans q⟩
theorem Same.tupq' {K : Fg} {H H' : Hp} {a : Addr} {xs : List V} (e : Same H H') (h : SqT K H a xs) : SqT K H' a xs := by
 rcases h with (h | ⟨o, h⟩) | h
 . exact .inl (.inl (e _ _ h))
 . exact .inl (.inr ⟨o, e _ _ h⟩)
 . exact .inr h
theorem ZcE.same {K : Fg} {H H' : Hp} {a : Addr} {vs : List V} {k : Kd} (e : Same H H') (h : ZcE K H a vs k) : ZcE K H' a vs k := by
 cases k with
 | lst => exact e _ _ h
 | frl => exact e.seq h
 | tup => exact e _ _ h
 | ftp => exact Same.tupq' e h
 | dic ks => exact ⟨h.1, e _ _ h.2⟩
 | ins C fs => obtain ⟨l, dx, q⟩ := h; exact ⟨l, dx, e _ _ q⟩
 | exc ns fr fs => obtain ⟨l, C, dx, x, q⟩ := h; exact ⟨l, C, dx, x, e _ _ q⟩
noncomputable abbrev Bud := Addr -> Nat
noncomputable def one (a : Addr) : Bud := fun b => if b = a then 1 else 0
mutual
inductive Rep (K : Fg) (H Hs : Hp) : V -> D -> Bud -> Prop
 | sc (v : V) (m : Bud) : Rep K H Hs v (.sc v) m
 | hole (v : V) (m : Bud) : Rep K H Hs v .hole m
 | own {a : Addr} {k : Kd} {vs : List V} {ds : List D} {m m' : Bud} : ZaE K H a vs k -> RepL K H Hs vs ds m' -> (∀ b, one a b + m' b <= m b) -> Rep K H Hs (.ref a) (.node k true ds) m
 | shd {a : Addr} {k : Kd} {vs : List V} {ds : List D} {m : Bud} : ZcE K Hs a vs k -> RepL K H Hs vs ds (fun _ => 0) -> Rep K H Hs (.ref a) (.node k false ds) m
inductive RepL (K : Fg) (H Hs : Hp) : List V -> List D -> Bud -> Prop
 | nil (m : Bud) : RepL K H Hs [] [] m
 | cons {v : V} {d : D} {vs : List V} {ds : List D} {m1 m2 m : Bud} : Rep K H Hs v d m1 -> RepL K H Hs vs ds m2 -> (∀ b, m1 b + m2 b <= m b) -> RepL K H Hs (v :: vs) (d :: ds) m
end
structure Good (H Hs : Hp) (M : Bud) : Prop where
 sub : Same Hs H
 le : ∀ b, M b <= 1
 ne : ∀ b, M b = 1 -> Hs b = none
 has : ∀ b, M b = 1 -> H b ≠ none
structure Stp (H Hs : Hp) (M : Bud) (H' Hs' : Hp) (M' : Bud) : Prop where
 keep : ∀ b o, H b = some o -> M b = 0 -> H' b = some o
 own : ∀ b, M' b = 1 -> M b = 1 \/ H b = none
 grow : Same Hs Hs'
 shr : ∀ b, Hs b = none -> Hs' b ≠ none -> M b = 1 \/ H b = none
 stay : ∀ b, H b ≠ none -> H' b ≠ none
section
variable {K : Fg} {H Hs H' Hs' H1 Hs1 H2 Hs2 : Hp} {M M' M1 M2 m m1 m2 m' : Bud}
mutual
theorem Rep.mono : ∀ {v : V} {d : D} {m m' : Bud}, Rep K H Hs v d m -> (∀ b, m b <= m' b) -> Rep K H Hs v d m'
 | _, _, _, _, .sc v _, _ => .sc v _
 | _, _, _, _, .hole v _, _ => .hole v _
 | _, _, _, _, .own n r h, l => .own n r fun b => Nat.le_trans (h b) (l b)
 | _, _, _, _, .shd n r, _ => .shd n r
end
theorem RepL.mono {vs : List V} {ds : List D} {m m' : Bud} (h : RepL K H Hs vs ds m) (l : ∀ b, m b <= m' b) : RepL K H Hs vs ds m' := by
 cases h with
 | nil => exact .nil _
 | cons a b c => exact .cons a b fun x => Nat.le_trans (c x) (l x)
mutual
theorem Rep.frame (g : Same Hs Hs') : ∀ {v : V} {d : D} {m : Bud}, (∀ b, m b ≥ 1 -> H b ≠ none -> H' b = H b) -> Rep K H Hs v d m -> Rep K H' Hs' v d m
 | _, _, _, _, .sc v _ => .sc v _
 | _, _, _, _, .hole v _ => .hole v _
 | _, _, m, k, .own (a := a) (m' := m') n r h => by
  have h1 : m a ≥ 1 := by have := h a; simp only [one, if_pos] at this; omega
  refine .own (n.eq (k a h1 n.at)) (RepL.frame g (fun b hb hn => k b ?_ hn) r) h
  have := h b
  omega
 | _, _, _, k, .shd n r => .shd (n.same g) (RepL.frame g (fun b hb => absurd hb (by simp)) r)
termination_by structural _ a => a
theorem RepL.frame (g : Same Hs Hs') : ∀ {vs : List V} {ds : List D} {m : Bud}, (∀ b, m b ≥ 1 -> H b ≠ none -> H' b = H b) -> RepL K H Hs vs ds m -> RepL K H' Hs' vs ds m
 | _, _, _, _, .nil _ => .nil _
 | _, _, m, k, .cons (m1 := m1) (m2 := m2) x y h => by
  refine .cons (Rep.frame g (fun b hb => k b ?_) x) (RepL.frame g (fun b hb => k b ?_) y) h
  . have := h b; omega
  . have := h b; omega
termination_by structural _ a => a
end
theorem Good.drop (g : Good H Hs M) (l : ∀ b, M' b <= M b) : Good H Hs M' :=
 ⟨g.sub, fun b => Nat.le_trans (l b) (g.le b), fun b h => g.ne b (by have := l b; have := g.le b; omega), fun b h => g.has b (by have := l b; have := g.le b; omega)⟩
theorem Stp.drop (s : Stp H Hs M H' Hs' M1) (l : ∀ b, M2 b <= M1 b) (le : ∀ b, M1 b <= 1) : Stp H Hs M H' Hs' M2 :=
 ⟨s.keep, fun b h => s.own b (by have := l b; have := le b; omega), s.grow, s.shr, s.stay⟩
theorem Stp.refl (H Hs : Hp) (M : Bud) : Stp H Hs M H Hs M := ⟨fun _ _ h _ => h, fun _ h => .inl h, Same.refl _, fun _ h h' => absurd h h', fun _ h => h⟩
theorem Zm (g : Good H Hs M) (g1 : Good H1 Hs1 (fun b => m1 b + M1 b)) (s1 : Stp H Hs M H1 Hs1 (fun b => m1 b + M1 b)) (g2 : Good H2 Hs2 M2) (s2 : Stp H1 Hs1 M1 H2 Hs2 M2) :
 Good H2 Hs2 (fun b => m1 b + M2 b) /\ Stp H Hs M H2 Hs2 (fun b => m1 b + M2 b) /\ (∀ b, m1 b ≥ 1 -> H1 b ≠ none -> H2 b = H1 b) := by
 have d : ∀ b, m1 b = 1 -> M2 b = 0 := fun b h => by
  have l1 : m1 b + M1 b <= 1 := g1.le b
  have l2 := g2.le b
  have : M2 b ≠ 1 := fun e => by
   rcases s2.own b e with q | q
   . omega
   . exact g1.has b (by show m1 b + M1 b = 1; omega) q
  omega
 have k1 : ∀ b, m1 b ≥ 1 -> H1 b ≠ none -> H2 b = H1 b := fun b h n => by
  have l1 : m1 b + M1 b <= 1 := g1.le b
  cases q : H1 b with
  | none => exact absurd q n
  | some o => exact s2.keep b o q (by omega)
 refine ⟨⟨g2.sub, fun b => ?_, fun b h => ?_, fun b h => ?_⟩, ⟨fun b o e z => ?_, fun b h => ?_, s1.grow.trans s2.grow, fun b n n' => ?_, fun b n => s2.stay b (s1.stay b n)⟩, k1⟩
 . have l1 : m1 b + M1 b <= 1 := g1.le b
   have l2 := g2.le b
   show m1 b + M2 b <= 1
   by_cases h : m1 b = 1
   . have := d b h; omega
   . omega
 . have h : m1 b + M2 b = 1 := h
   have l1 : m1 b + M1 b <= 1 := g1.le b
   by_cases h1 : m1 b = 1
   . cases q : Hs2 b with
     | none => rfl
     | some o =>
      have n1 : Hs1 b = none := g1.ne b (by show m1 b + M1 b = 1; omega)
      rcases s2.shr b n1 (by rw [q]; simp) with z | z
      . omega
      . exact absurd z (g1.has b (by show m1 b + M1 b = 1; omega))
   . exact g2.ne b (by omega)
 . have h : m1 b + M2 b = 1 := h
   have l1 : m1 b + M1 b <= 1 := g1.le b
   by_cases h1 : m1 b = 1
   . have n := g1.has b (by show m1 b + M1 b = 1; omega)
     rw [k1 b (by omega) n]; exact n
   . exact g2.has b (by omega)
 . have e1 := s1.keep b o e z
   have : ¬ (m1 b + M1 b = 1) := fun q => by
    rcases s1.own b q with w | w
    . omega
    . rw [e] at w; cases w
   have l1 : m1 b + M1 b <= 1 := g1.le b
   exact s2.keep b o e1 (by omega)
 . have h : m1 b + M2 b = 1 := h
   have l1 : m1 b + M1 b <= 1 := g1.le b
   by_cases h1 : m1 b = 1
   . exact s1.own b (by show m1 b + M1 b = 1; omega)
   . rcases s2.own b (by omega) with q | q
     . exact s1.own b (by show m1 b + M1 b = 1; omega)
     . cases w : H b with
       | none => exact .inr rfl
       | some o => exact absurd q (s1.stay b (by rw [w]; simp))
 . cases q : Hs1 b with
   | some o => exact s1.shr b n (by rw [q]; simp)
   | none =>
    rcases s2.shr b q n' with z | z
    . have l1 : m1 b + M1 b <= 1 := g1.le b
      exact s1.own b (by show m1 b + M1 b = 1; omega)
    . cases w : H b with
      | none => exact .inr rfl
      | some o => exact absurd z (s1.stay b (by rw [w]; simp))
end
end T
namespace T
open PySem L2
inductive Rs (α : Type) where
 | ok (a : α) | exc (x : D) (δ : List D) | stuck
noncomputable abbrev M (α : Type) := List D -> Rs (α × List D)
noncomputable def M.ret {α : Type} (a : α) : M α := fun δ => .ok (a, δ)
noncomputable def M.bnd {α β : Type} (c : M α) (f : α -> M β) : M β := fun δ => match c δ with
 | .ok (a, δ') => f a δ'
 | .exc x δ' => .exc x δ'
 | .stuck => .stuck
noncomputable def lift {α : Type} : Option α -> M α
 | some a => M.ret a
 | none => fun _ => .stuck
noncomputable def stk {α : Type} : M α := fun _ => .stuck
inductive Ty where
 | int | bool | str | list | tuple | dict | own (C : Addr)
 deriving DecidableEq
inductive BF where
 | len | abs | str | int | bool | sum | min | max | list | tuple | all | any | sorted | isi (t : Ty) | dict | ord | isiX (c : Str) | isiV | xinit | xfld (f : Str) | cnt (v : V) | minL | maxL
 deriving DecidableEq
inductive BM where
 | split | join | get | index | count | find | replace | strip | startswith | endswith | isdigit | copy | lower | upper
 deriving DecidableEq
inductive MM where
 | append | extend | pop | popAt | reverse | clear | insert | update | popKey | remove
 deriving DecidableEq
inductive IK where
 | rng1 | rng2 | rng3 | val | valS | enum | zip | rev | items | values
 deriving DecidableEq
inductive Tg where
 | name (i : Nat) | tup (is : List Nat)
structure FI where
 lend : Bool
 run : List D -> Rs (D × List D)
inductive E where
 | k (v : V)
 | g (d : D)
 | v (i : Nat)
 | bin (op : Operator) (a b : E)
 | neg (a : E)
 | cmp (op : CmpOp) (a b : E)
 | chain (op op' : CmpOp) (a b c : E)
 | isN (p : Bool) (a : E)
 | isB (c p : Bool) (a : E)
 | nt (a : E)
 | and (a b : E)
 | or (a b : E)
 | ife (c a b : E)
 | ix (a i : E)
 | sl (a lo hi : E)
 | fld (a : E) (f : Str)
 | lst (es : List E)
 | tup (es : List E)
 | kl (vs : List V)
 | kt (vs : List V)
 | dct0
 | call (f : FI) (es : List E)
 | bf (f : BF) (es : List E)
 | bm (m : BM) (o : E) (es : List E)
 | mut (m : MM) (i : Nat) (ps : List E) (es : List E)
 | meth (A : Addr) (m : Str) (f : FI) (o : E) (es : List E)
 | new (A : Addr) (f : FI) (es : List E)
 | comp (k : Nat) (js : List Nat) (tg : Tg) (ik : IK) (ies : List E) (cond : List E) (elt : E)
 | fs (es : List E)
 | bor (e : E)
 | sdef (i : Nat) (k v : E)
 | dvals (i : Nat)
inductive YE where
 | meth (A : Addr) (m : Str) (f : FI) (o : E) (es : List E)
 | new (A : Addr) (f : FI) (es : List E)
inductive S where
 | asg (i : Nat) (e : E)
 | unp (is : List Nat) (e : E)
 | sub (i : Nat) (ps : List E) (ix : E) (e : E)
 | attr (i : Nat) (f : Str) (e : E)
 | ex (e : E)
 | ret (e : E)
 | retN
 | iff (c : E) (a b : List S)
 | for_ (tg : Tg) (ik : IK) (ies : List E) (body : List S)
 | while_ (c : E) (body : List S)
 | pass | brk | cnt
 | raise (e : E)
 | asgX (i : Nat) (f : FI) (es : List E)
 | asgY (i : Nat) (y : YE)
 | exY (y : YE)
 | retY (y : YE)
 | exX (f : FI) (es : List E)
 | retX (f : FI) (es : List E)
 | raise0 (ns : List Str)
 | raiseI (ns : List Str) (f : FI) (es : List E)
 | attrX (i : Nat) (f : Str) (e : E)
 | forX (tg : Tg) (ik : IK) (ies : List E) (body : List S)
 | lf (s : S)
 | ifX (c : E) (a b : List S)
 | try_ (body : List S) (c : Str) (nm : Option Nat) (suite : List S)
inductive Op where
 | late (i : Nat) | tmp (d : D)
inductive W where
 | sc (v : V) | nd (k : Kd) (ds : List D)
noncomputable def ZT (i : Nat) : M Op := fun δ => match δ[i]? with
 | some (.sc _) => .ok (.late i, δ)
 | some (.node _ _ _) => .ok (.late i, δ)
 | _ => .stuck
noncomputable def Zj (e : E) (c : M D) : M Op := match e with
 | .v i => ZT i
 | _ => c.bnd fun d => M.ret (.tmp d)
noncomputable def view : Op -> M W
 | .tmp (.sc v) => M.ret (.sc v)
 | .tmp (.node k _ ds) => M.ret (.nd k ds)
 | .tmp .hole => stk
 | .late i => fun δ => match δ[i]? with
  | some (.sc v) => .ok (.sc v, δ)
  | some (.node k false ds) => .ok (.nd k ds, δ)
  | some (.node k true ds) => .ok (.nd k (shrL ds), δ.set i (.node k true (shrL ds)))
  | _ => .stuck
noncomputable def views : List Op -> M (List W)
 | [] => M.ret []
 | p :: ps => (view p).bnd fun w => (views ps).bnd fun ws => M.ret (w :: ws)
noncomputable def valV (i : Nat) : M D := fun δ => match δ[i]? with
 | some (.sc v) => .ok (.sc v, δ)
 | some (.node k false ds) => .ok (.node k false ds, δ)
 | some (.node k true ds) => .ok (.node k false (shrL ds), δ.set i (.node k false (shrL ds)))
 | _ => .stuck
noncomputable def newL (ds : List D) : Option D := if ds.length <= sizeLine then some (.node .lst true ds) else none
noncomputable def newT (ds : List D) : Option D := if ds.length <= sizeLine then some (.node .tup true ds) else none
noncomputable def Za9 : List D -> Option (List Int)
 | [] => some []
 | .sc (.int i) :: r => (Za9 r).map (i :: ·)
 | _ => none
noncomputable def binW : Operator -> W -> W -> Option D
 | .Add, .sc (.int i), .sc (.int j) => some (.sc (.int (i + j)))
 | .Sub, .sc (.int i), .sc (.int j) => some (.sc (.int (i - j)))
 | .Mult, .sc (.int i), .sc (.int j) => if (-(2 ^ 64) < i /\ i < 2 ^ 64) \/ (-(2 ^ 64) < j /\ j < 2 ^ 64) then some (.sc (.int (i * j))) else none
 | .FloorDiv, .sc (.int i), .sc (.int j) => if 0 < j /\ j < 18446744073709551616 then some (.sc (.int (i / j))) else none
 | .Mod, .sc (.int i), .sc (.int j) => if 0 < j then some (.sc (.int (i % j))) else none
 | .Pow, .sc (.int i), .sc (.int j) => if 0 <= j /\ j <= 1000000 /\ i.natAbs < 2 ^ 64 then some (.sc (.int (i ^ j.toNat))) else none
 | .Add, .sc (.str x), .sc (.str y) => if x.length + y.length <= sizeLine then some (.sc (.str (x ++ y))) else none
 | .Add, .nd .lst xs, .nd .lst ys => newL (xs ++ ys)
 | .Mult, .nd .lst xs, .sc (.int n) => if -(2 ^ 63) <= n /\ n < 2 ^ 63 /\ xs.length * n.toNat <= sizeLine then (Za9 xs).map fun is => .node .lst true ((List.replicate n.toNat is).flatten.map fun i => .sc (.int i)) else none
 | _, _, _ => none
noncomputable def cmpI (op : CmpOp) (i j : Int) : Option Bool := match op with
 | .Lt => some (decide (i < j)) | .LtE => some (decide (i <= j)) | .Gt => some (decide (j < i)) | .GtE => some (decide (j <= i))
 | _ => none
mutual
noncomputable def py : D -> Option PyData
 | .sc .non => some .none
 | .sc (.bl b) => some (.bool b)
 | .sc (.int i) => some (.int i)
 | .sc (.str x) => some (.str x)
 | .node .lst _ ds => (pyL ds).map .list
 | .node .frl _ ds => (pyL ds).map .list
 | .node .tup _ ds => (pyL ds).map .tuple
 | .node .ftp _ ds => (pyL ds).map .tuple
 | _ => none
noncomputable def pyL : List D -> Option (List PyData)
 | [] => some []
 | d :: ds => (py d).bind fun a => (pyL ds).map (a :: ·)
end
noncomputable def toD : W -> D
 | .sc v => .sc v
 | .nd k ds => .node k false ds
noncomputable def eqPy (a b : PyData) : Option Bool := if SeqAt.shaped a = true /\ SeqAt.shaped b = true then some (PyData.eqv a b) else none
noncomputable def eqW : W -> W -> Option Bool
 | .sc u, .sc v => if scal u v = true then some (decide (u = v)) else (py (.sc u)).bind fun a => (py (.sc v)).bind fun b => eqPy a b
 | x, y => (py (toD x)).bind fun a => (py (toD y)).bind fun b => eqPy a b
noncomputable def cmpW : CmpOp -> W -> W -> Option Bool
 | .Eq, x, y => eqW x y
 | .NotEq, x, y => (eqW x y).map (!·)
 | .NotIn, .sc (.int i), .nd .ftp ds => (Za9 ds).map fun is => !decide (i ∈ is)
 | op, .sc (.int i), .sc (.int j) => cmpI op i j
 | _, _, _ => none
noncomputable def ixN' (n : Nat) (i : Int) : Option Nat := if 0 <= i then (if i < n then some i.toNat else none) else if -(n : Int) <= i then some (i + n).toNat else none
noncomputable def ixW : W -> W -> Option D
 | .nd .lst ds, .sc (.int i) => (ixN' ds.length i).bind fun j => ds[j]?
 | .nd .frl ds, .sc (.int i) => (ixN' ds.length i).bind fun j => ds[j]?
 | .nd .tup ds, .sc (.int i) => (ixN' ds.length i).bind fun j => ds[j]?
 | .nd .ftp ds, .sc (.int i) => (ixN' ds.length i).bind fun j => ds[j]?
 | .sc (.str z), .sc (.int i) => if z.length <= sizeLine then ((ixN' z.cps.toList.length i).bind fun j => z.cps.toList[j]?).map fun c => .sc (.str ⟨#[c]⟩) else none
 | _, _ => none
noncomputable def keyD : V -> Option Key
 | .int i => some (.inl i)
 | .str x => some (.inr x)
 | _ => none
noncomputable def ZH {α : Type} (k : Key) : List Key -> List α -> Option α
 | j :: ks, d :: ds => if j = k then some d else ZH k ks ds
 | _, _ => none
noncomputable def ZbM {α : Type} (k : Key) (d : α) : List Key -> List α -> Option (List Key × List α)
 | [], [] => some ([k], [d])
 | j :: ks, x :: ds => if j = k then (if (ks.any fun j => decide (j = k)) = true then none else some (j :: ks, d :: ds)) else (ZbM k d ks ds).map fun r => (j :: r.1, x :: r.2)
 | _, _ => none
noncomputable def ixD : W -> W -> Option D
 | .nd (.dic ks) ds, .sc v => (keyD v).bind fun k => ZH k ks ds
 | _, _ => none
noncomputable def ixW2 : W -> W -> Option D
 | .nd (.dic ks) ds, y => ixD (.nd (.dic ks) ds) y
 | x, y => ixW x y
noncomputable def inD (p : Bool) : W -> W -> Option Bool
 | .sc v, .nd (.dic ks) ds => (keyD v).map fun k => (ZH k ks ds).isSome == p
 | _, _ => none
noncomputable def ZV : CmpOp -> W -> W -> Option Bool
 | .In, x, y => inD true x y
 | .NotIn, x, .nd (.dic ks) ds => inD false x (.nd (.dic ks) ds)
 | op, x, y => cmpW op x y
noncomputable def Zcm (f : Str) : List Str -> List D -> Option D
 | g :: fs, d :: ds => if g = f then some d else Zcm f fs ds
 | _, _ => none
noncomputable def fldW (ok : Addr -> Str -> Bool) (f : Str) : W -> Option D
 | .nd (.ins C fs) ds => if ok C f then Zcm f fs ds else none
 | _ => none
noncomputable def truW : W -> Option Bool
 | .sc (.bl b) => some b
 | .sc (.int i) => some (decide (i ≠ 0))
 | .sc (.str x) => if x.length <= sizeLine then some (decide (x.length ≠ 0)) else none
 | .sc .non => some false
 | .nd .lst ds => some (!ds.isEmpty)
 | .nd .frl ds => some (!ds.isEmpty)
 | .nd .tup ds => some (!ds.isEmpty)
 | .nd .ftp ds => some (!ds.isEmpty)
 | .nd (.dic _) ds => some (!ds.isEmpty)
 | _ => none
noncomputable def tyW : Ty -> W -> Option Bool
 | .int, .sc (.int _) => some true | .int, .sc (.bl _) => some true | .int, .sc (.str _) => some false | .int, .sc .non => some false
 | .int, .nd .lst _ => some false | .int, .nd .tup _ => some false
 | .bool, .sc (.bl _) => some true | .bool, .sc (.int _) => some false | .bool, .sc (.str _) => some false | .bool, .sc .non => some false
 | .bool, .nd .lst _ => some false | .bool, .nd .tup _ => some false
 | .str, .sc (.str _) => some true | .str, .sc (.int _) => some false | .str, .sc (.bl _) => some false | .str, .sc .non => some false
 | .str, .nd .lst _ => some false | .str, .nd .tup _ => some false
 | .list, .nd .lst _ => some true | .list, .nd .tup _ => some false | .list, .sc (.int _) => some false | .list, .sc (.bl _) => some false | .list, .sc (.str _) => some false | .list, .sc .non => some false
 | .tuple, .nd .tup _ => some true | .tuple, .nd .lst _ => some false | .tuple, .sc (.int _) => some false | .tuple, .sc (.bl _) => some false | .tuple, .sc (.str _) => some false | .tuple, .sc .non => some false
 | _, _ => none
noncomputable def Zan : List D -> Option (List Bool)
 | [] => some []
 | .sc (.bl b) :: r => (Zan r).map (b :: ·)
 | _ => none
noncomputable def cutD (xs : List D) (lo hi : Option Int) : List D := (xs.drop (HT.sIx xs.length 0 lo)).take (HT.sIx xs.length xs.length hi - HT.sIx xs.length 0 lo)
noncomputable def slD : W -> Option Int -> Option Int -> Option D
 | .nd .lst ds, lo, hi => some (.node .lst true (cutD ds lo hi))
 | .nd .frl ds, lo, hi => some (.node .lst true (cutD ds lo hi))
 | .sc (.str z), lo, hi => if z.length <= sizeLine then some (.sc (.str (Txt.slice z lo hi))) else none
 | _, _, _ => none
noncomputable def intP : W -> Option (Option Int)
 | .sc (.int i) => some (some i)
 | _ => none
noncomputable def ZbN (e : E) (c : M Op) : M (Option Int) := match e with
 | .k .non => M.ret none
 | _ => (c.bnd view).bnd fun w => lift (intP w)
noncomputable def Zin : List D -> Option (List Str)
 | [] => some []
 | .sc (.str x) :: r => (Zin r).map (x :: ·)
 | _ => none
noncomputable def lenB : List W -> Option D
 | [.nd .lst ds] => some (.sc (.int ds.length))
 | [.nd .frl ds] => some (.sc (.int ds.length))
 | [.nd .tup ds] => some (.sc (.int ds.length))
 | [.nd .ftp ds] => some (.sc (.int ds.length))
 | [.nd (.dic _) ds] => some (.sc (.int ds.length))
 | [.sc (.str x)] => if x.length <= sizeLine then some (.sc (.int x.length)) else none
 | _ => none
noncomputable def absB : List W -> Option D
 | [.sc (.int i)] => some (.sc (.int (if i < 0 then -i else i)))
 | _ => none
noncomputable def strB : List W -> Option D
 | [.sc (.int i)] => if i.natAbs.log2 < 1920 then some (.sc (.str (Str.ofString (toString i)))) else none
 | _ => none
noncomputable def intB : List W -> Option D
 | [.sc (.int i)] => some (.sc (.int i))
 | [.sc (.bl b)] => some (.sc (.int (if b then 1 else 0)))
 | [.sc (.str z)] => match intText? z with
  | some n => if z.length <= 640 then some (.sc (.int n)) else none
  | none => none
 | _ => none
noncomputable def Zhp : List W -> Option D
 | [.nd .lst ds] => some (.node .lst true ds)
 | [.nd .frl ds] => some (.node .lst true ds)
 | [.nd .tup ds] => some (.node .lst true ds)
 | [.nd .ftp ds] => some (.node .lst true ds)
 | _ => none
noncomputable def Zmt : List W -> Option D
 | [.nd .lst ds] => some (.node .tup true ds)
 | _ => none
noncomputable def isiB (t : Ty) : List W -> Option D
 | [w] => (tyW t w).map fun b => .sc (.bl b)
 | _ => none
noncomputable def allB : List W -> Option D
 | [.nd .lst ds] => (Zan ds).map fun bs => .sc (.bl (bs.all id))
 | _ => none
noncomputable def anyB : List W -> Option D
 | [.nd .lst ds] => (Zan ds).map fun bs => .sc (.bl (bs.any id))
 | _ => none
noncomputable def sumB : List W -> Option D
 | [.nd .lst ds] => (Za9 ds).map fun is => .sc (.int is.sum)
 | _ => none
noncomputable def minB : List W -> Option D
 | [.sc (.int i), .sc (.int j)] => some (.sc (.int (if j < i then j else i)))
 | _ => none
noncomputable def maxB : List W -> Option D
 | [.sc (.int i), .sc (.int j)] => some (.sc (.int (if j > i then j else i)))
 | _ => none
noncomputable def Zoj (c : Str) : List W -> Option D
 | [.nd (.exc ns _ _) _] => some (.sc (.bl (decide (c ∈ ns))))
 | _ => none
noncomputable def Zok : List W -> Option D
 | [.nd (.exc _ _ _) _] => some (.sc (.bl true))
 | _ => none
noncomputable def Zmu : List W -> Option D
 | [.nd (.exc _ _ _) _, .sc _] => some (.sc .non)
 | _ => none
noncomputable def Zol (f : Str) : List W -> Option D
 | [.nd (.exc _ _ fs) ds] => if f ∈ Zez then Zcm f fs ds else none
 | _ => none
noncomputable def Zkg : List D -> Option (List V)
 | [] => some []
 | .sc u :: r => if Zb3 u = true then (Zkg r).map (u :: ·) else none
 | _ => none
noncomputable def cntB (v : V) : List W -> Option D
 | [.nd .lst ds] => (Zkg ds).map fun us => .sc (.int ((us.countP fun u => eqV u v : Nat) : Int))
 | _ => none
noncomputable def Zom : List W -> Option D
 | [.nd .lst ds] => (Za9 ds).bind fun is => match is with
  | [] => none
  | i :: is => some (.sc (.int (is.foldl (fun a b => if b < a then b else a) i)))
 | _ => none
noncomputable def Zon : List W -> Option D
 | [.nd .lst ds] => (Za9 ds).bind fun is => match is with
  | [] => none
  | i :: is => some (.sc (.int (is.foldl (fun a b => if b > a then b else a) i)))
 | _ => none
noncomputable def bfW : BF -> List W -> Option D
 | .len, ws => lenB ws
 | .abs, ws => absB ws
 | .str, ws => strB ws
 | .int, ws => intB ws
 | .list, ws => Zhp ws
 | .tuple, ws => Zmt ws
 | .isi t, ws => isiB t ws
 | .all, ws => allB ws
 | .any, ws => anyB ws
 | .sum, ws => sumB ws
 | .min, ws => minB ws
 | .max, ws => maxB ws
 | .isiX c, ws => Zoj c ws
 | .isiV, ws => Zok ws
 | .xinit, ws => Zmu ws
 | .xfld f, ws => Zol f ws
 | .cnt v, ws => cntB v ws
 | .minL, ws => Zom ws
 | .maxL, ws => Zon ws
 | _, _ => none
noncomputable def strW : W -> Option Str
 | .sc (.str z) => some z
 | _ => none
noncomputable def bmW : BM -> Str -> List W -> Option D
 | .split, z, [.sc (.str s)] => if s.cps.size = 1 /\ z.length + 2 <= sizeLine then some (.node .lst true ((Txt.split z s).map fun x => .sc (.str x))) else none
 | .join, z, [.nd .lst ds] => (Zin ds).bind fun ts => if JoinOk z ts = true then some (.sc (.str (Txt.join z ts))) else none
 | _, _, _ => none
noncomputable def rng (a b : Int) : List D := (List.range (b - a).toNat).map fun (k : Nat) => .sc (.int (a + k))
noncomputable def okR (i : Int) : Bool := decide (-(2 ^ 62) <= i) && decide (i < 2 ^ 62)
noncomputable def ZE : Int -> List D -> List D
 | _, [] => []
 | c, d :: ds => .node .tup false [.sc (.int c), d] :: ZE (c + 1) ds
noncomputable def zipD : List D -> List D -> List D
 | d :: ds, e :: es => .node .tup false [d, e] :: zipD ds es
 | _, _ => []
noncomputable def zipI : List W -> Option (List D)
 | [.nd k ds, .nd k' es] => if (k = .lst \/ k = .frl) /\ (k' = .lst \/ k' = .frl) then some (zipD ds es) else none
 | _ => none
noncomputable def Zkh : List W -> Option (List D)
 | [.nd k ds, .sc (.int c)] => if (k = .lst \/ k = .frl) /\ okR c = true then some (ZE c ds) else none
 | _ => none
noncomputable def Zhq : List W -> Option (List D)
 | [.sc (.int n)] => if okR n then some (rng 0 n) else none
 | _ => none
noncomputable def Zhr : List W -> Option (List D)
 | [.sc (.int a), .sc (.int b)] => if okR a && okR b then some (rng a b) else none
 | _ => none
noncomputable def rngS (a b c : Int) : List Int := (List.range (Builtin.Range.rangeSize a b c).toNat).map fun (k : Nat) => a + k * c
noncomputable def Zhs : List W -> Option (List D)
 | [.sc (.int a), .sc (.int b), .sc (.int c)] => if okR a && okR b && (decide (c ≠ 0) && decide (-1000000 <= c) && decide (c <= 1000000)) then some ((rngS a b c).map fun i => .sc (.int i)) else none
 | _ => none
noncomputable def valI : List W -> Option (List D)
 | [.nd .lst ds] => some ds
 | [.nd .frl ds] => some ds
 | [.nd .tup ds] => some ds
 | [.nd .ftp ds] => some ds
 | [.sc (.str x)] => some (x.cps.toList.map fun c => .sc (.str ⟨#[c]⟩))
 | _ => none
noncomputable def itW : IK -> List W -> Option (List D)
 | .zip, ws => zipI ws
 | .enum, ws => Zkh ws
 | .rng1, ws => Zhq ws
 | .rng2, ws => Zhr ws
 | .rng3, ws => Zhs ws
 | .val, ws => valI ws
 | _, _ => none
noncomputable def Zaq : Op -> M (W × Option (Nat × D))
 | .tmp (.sc v) => M.ret (.sc v, none)
 | .tmp (.node k _ ds) => M.ret (.nd k (shrL ds), none)
 | .tmp .hole => stk
 | .late i => fun δ => match δ[i]? with
  | some (.sc v) => .ok ((.sc v, none), δ)
  | some (.node k false ds) => .ok ((.nd k ds, none), δ)
  | some (.node k true ds) => .ok ((.nd k (shrL ds), some (i, .node k true (shrL ds))), δ.set i .hole)
  | _ => .stuck
noncomputable def Z0 : List Op -> M (List W × List (Nat × D))
 | [] => M.ret ([], [])
 | p :: ps => (Zaq p).bnd fun w => (Z0 ps).bnd fun ws => M.ret (w.1 :: ws.1, w.2.toList ++ ws.2)
noncomputable def Zar : List (Nat × D) -> M Unit
 | [] => M.ret ()
 | (i, d) :: r => fun δ => Zar r (δ.set i d)
noncomputable def walked : List E -> Nat -> Bool
 | [], _ => false
 | .v i :: r, j => i == j || walked r j
 | _ :: r, j => walked r j
noncomputable def ZaK (lend : Bool) : Op -> M D
 | .tmp d => M.ret d
 | .late i => fun δ => match δ[i]? with
  | some (.sc v) => .ok (.sc v, δ)
  | some (.node k false ds) => .ok (.node k false ds, δ)
  | some (.node k true ds) => if lend then .ok (.node k true ds, δ.set i .hole) else .ok (.node k false (shrL ds), δ.set i (.node k false (shrL ds)))
  | _ => .stuck
noncomputable def Za0 (lend : Bool) : List Op -> M (List D)
 | [] => M.ret []
 | p :: ps => (ZaK lend p).bnd fun d => (Za0 lend ps).bnd fun ds => M.ret (d :: ds)
noncomputable def ZaF : Op -> D -> M Unit
 | .tmp _, _ => M.ret ()
 | .late i, d => fun δ => match δ[i]? with
  | some .hole => .ok ((), δ.set i d)
  | _ => .ok ((), δ)
noncomputable def ZU : List Op -> List D -> M Unit
 | p :: ps, d :: ds => (ZaF p d).bnd fun _ => ZU ps ds
 | _, _ => M.ret ()
noncomputable def ZaL (fi : FI) (ps : List Op) : M D := (Za0 fi.lend ps).bnd fun ds => match fi.run ds with
 | .ok (d, ds') => (ZU ps ds').bnd fun _ => M.ret d
 | .exc _ _ => stk
 | .stuck => stk
noncomputable def Zfd (fi : FI) (ps : List Op) : M D := (Za0 fi.lend ps).bnd fun ds => match fi.run ds with
 | .ok (d, ds') => (ZU ps ds').bnd fun _ => M.ret d
 | .exc x ds' => fun δ => match ZU ps ds' δ with
  | .ok (_, δ') => .exc x δ'
  | _ => .stuck
 | .stuck => stk
noncomputable def chkI (A : Addr) (m : Str) : Op -> M Unit
 | .late i => fun δ => match δ[i]? with
  | some (.node (.ins B fs) _ _) => if B = A /\ m ∉ fs then .ok ((), δ) else .stuck
  | _ => .stuck
 | .tmp (.node (.ins B fs) _ _) => fun δ => if B = A /\ m ∉ fs then .ok ((), δ) else .stuck
 | _ => stk
noncomputable def newF (C : Addr) (fi : FI) (ps : List Op) : M D := (Za0 fi.lend ps).bnd fun ds => match fi.run (.node (.ins C []) true [] :: ds) with
 | .ok (.sc .non, d :: ds') => (ZU ps ds').bnd fun _ => M.ret d
 | .ok _ => stk
 | .exc _ _ => stk
 | .stuck => stk
noncomputable def newX (ns : List Str) (fi : FI) (ps : List Op) : M D := if 1000 < ps.length then stk else (Za0 fi.lend ps).bnd fun ds => match fi.run (.node (.exc ns true []) true [] :: ds) with
 | .ok (.sc .non, d :: ds') => (ZU ps ds').bnd fun _ => M.ret d
 | .ok _ => stk
 | .exc _ _ => stk
 | .stuck => stk
noncomputable def Zio {α : Type} : D -> M α
 | .node (.exc ns true fs) true ds => fun δ => .exc (.node (.exc ns false fs) true ds) δ
 | _ => stk
noncomputable def asgN (lock : Nat -> Bool) (i : Nat) (d : D) : M Unit := fun δ => if i < δ.length && !lock i then .ok ((), δ.set i d) else .stuck
noncomputable def Zbi (lock : Nat -> Bool) : List Nat -> List D -> M Unit
 | [], [] => M.ret ()
 | i :: is, d :: ds => (asgN lock i d).bnd fun _ => Zbi lock is ds
 | _, _ => stk
noncomputable def asgT (lock : Nat -> Bool) : Tg -> D -> M Unit
 | .name i, d => asgN lock i d
 | .tup is, .node .tup _ ds => Zbi lock is ds
 | .tup _, _ => stk
noncomputable def modS (i : Nat) (f : Kd -> List D -> Option (D × Kd × List D)) : M D := fun δ => match δ[i]? with
 | some (.node k true ds) => match f k ds with
  | some (r, k', ds') => .ok (r, δ.set i (.node k' true ds'))
  | none => .stuck
 | _ => .stuck
noncomputable def mutD : MM -> List W -> Kd -> List D -> Option (D × Kd × List D)
 | .extend, [.nd .lst es], .lst, ds => if ds.length + es.length <= sizeLine then some (.sc .non, .lst, ds ++ es) else none
 | .pop, [], .lst, ds => ds.getLast?.map fun d => (d, .lst, ds.dropLast)
 | .popAt, [.sc (.int i)], .lst, ds => if -(2 ^ 63) <= i /\ i < 2 ^ 63 then (ixN' ds.length i).bind fun j => ds[j]?.map fun d => (d, .lst, ds.eraseIdx j) else none
 | .reverse, [], .lst, ds => some (.sc .non, .lst, ds.reverse)
 | .clear, [], .lst, _ => some (.sc .non, .lst, [])
 | _, _, _, _ => none
noncomputable def appD (d : D) : Kd -> List D -> Option (D × Kd × List D)
 | .lst, ds => if ds.length < sizeLine then some (.sc .non, .lst, ds ++ [d]) else none
 | _, _ => none
noncomputable def appM (i : Nat) : List D -> M D
 | [d] => modS i (appD d)
 | _ => stk
noncomputable def chkL (i : Nat) : M Unit := fun δ => match δ[i]? with
 | some (.node .lst _ _) => .ok ((), δ)
 | _ => .stuck
noncomputable def setD (w : W) (d : D) : Kd -> List D -> Option (D × Kd × List D)
 | .lst, ds => match w with
  | .sc (.int i) => (ixN' ds.length i).map fun j => (.sc .non, .lst, ds.set j d)
  | _ => none
 | _, _ => none
noncomputable def Zbj (w : W) (d : D) : Kd -> List D -> Option (D × Kd × List D)
 | .dic ks, ds => match w with
  | .sc v => if ds.length < sizeLine then (keyD v).bind fun k => (ZbM k d ks ds).map fun r => (.sc .non, .dic r.1, r.2) else none
  | _ => none
 | k, ds => setD w d k ds
noncomputable def putN (f : Str) : List Str -> List Str
 | [] => [f]
 | g :: r => if g = f then g :: r else g :: putN f r
noncomputable def putV {α : Type} (f : Str) (d : α) : List Str -> List α -> List α
 | g :: r, x :: ds => if g = f then d :: ds else x :: putV f d r ds
 | _, _ => [d]
noncomputable def putD (ok : Addr -> Str -> Bool) (f : Str) (d : D) : Kd -> List D -> Option (D × Kd × List D)
 | .ins C fs, ds => if fs.length < 1000 /\ ok C f = true then some (.sc .non, .ins C (putN f fs), putV f d fs ds) else none
 | _, _ => none
noncomputable def putX (f : Str) (d : D) : Kd -> List D -> Option (D × Kd × List D)
 | .exc ns fr fs, ds => if fs.length < 1000 /\ f ∈ Zez then some (.sc .non, .exc ns fr (putN f fs), putV f d fs ds) else none
 | _, _ => none
structure Ctx where
 lock : Nat -> Bool
 fok : Addr -> Str -> Bool
 fuel : Nat
noncomputable def Zc2 : List Nat -> M (List D)
 | [] => M.ret []
 | j :: js => fun δ => match δ[j]? with
  | some d => ((Zc2 js).bnd fun ds => M.ret (d :: ds)) (δ.set j .hole)
  | none => .stuck
noncomputable def ZaZ : List Nat -> List D -> M Unit
 | j :: js, d :: ds => fun δ => ZaZ js ds (δ.set j d)
 | _, _ => M.ret ()
noncomputable def Z9 (asg : D -> M Unit) (cond : M Bool) (elt : M D) : List D -> List D -> M (List D)
 | [], acc => M.ret acc
 | d :: ds, acc => (asg d).bnd fun _ => cond.bnd fun b => if b then elt.bnd fun x => Z9 asg cond elt ds (acc ++ [x]) else Z9 asg cond elt ds acc
noncomputable def ZW (k : Nat) (js : List Nat) (loop : M (List D)) : M D := (Zc2 js).bnd fun caps δ => match loop (List.replicate k .hole ++ caps) with
 | .ok (acc, δ') => ((ZaZ js (δ'.drop k)).bnd fun _ => lift (newL acc)) δ
 | .exc _ _ => .stuck
 | .stuck => .stuck
noncomputable def fmtD : V -> Option Str
 | .int i => if i.natAbs.log2 < 1920 then some (Str.ofString (toString i)) else none
 | .str x => some x
 | .non => some (Str.ofString "None")
 | _ => none
noncomputable def fmtW (acc : Str) : W -> Option Str
 | .sc v => (fmtD v).bind fun z => if z.length <= sizeLine /\ (acc ++ z).length <= sizeLine then some (acc ++ z) else none
 | _ => none
noncomputable def isNW (p : Bool) : W -> D
 | .sc v => .sc (.bl (decide (v = .non) == p))
 | .nd _ _ => .sc (.bl (!p))
noncomputable def isBW (c p : Bool) : W -> Option D
 | .sc (.bl b) => some (.sc (.bl ((b == c) == p)))
 | _ => none
noncomputable def negW : W -> Option D
 | .sc (.int i) => some (.sc (.int (-i)))
 | _ => none
noncomputable def notW : W -> Option D
 | .sc (.bl t) => some (.sc (.bl (!t)))
 | _ => none
noncomputable def andM (b : M D) : W -> M D
 | .sc (.bl true) => b
 | .sc (.bl false) => M.ret (.sc (.bl false))
 | _ => stk
noncomputable def orM (b : M D) : W -> M D
 | .sc (.bl false) => b
 | .sc (.bl true) => M.ret (.sc (.bl true))
 | _ => stk
noncomputable def Zcn (c : M D) : M Bool := c.bnd fun d => lift (match d with | .sc (.bl b) => some b | _ => none)
noncomputable def tdef (e : E) (c : M D) : M Bool := (Zj e c).bnd fun p => (view p).bnd fun w => lift (truW w)
noncomputable def vdef (e : E) (c : M D) : M W := (Zj e c).bnd view
noncomputable def borV (c : M D) : M D := fun δ => match c (shrL δ) with
 | .ok (.sc v, _) => .ok (.sc v, δ)
 | _ => .stuck
noncomputable def Zb4 (i : Nat) (n : Int) (f : Kd -> List D -> Option (D × Kd × List D)) : M D := fun δ => match δ[i]? with
 | some (.node .lst true ds) => match ixN' ds.length n with
  | some j => match ds[j]? with
   | some (.node .lst true es) => match f .lst es with
    | some (r, k', es') => .ok (r, δ.set i (.node .lst true (ds.set j (.node k' true es'))))
    | none => .stuck
   | _ => .stuck
  | none => .stuck
 | _ => .stuck
noncomputable def mutK : MM -> Int -> Nat -> List E -> M D
 | .append, n, i, [.k v] => Zb4 i n (appD (.sc v))
 | .clear, n, i, [] => Zb4 i n (mutD .clear [])
 | _, _, _, _ => stk
noncomputable def chkD (i : Nat) : M Unit := fun δ => match δ[i]? with
 | some (.node k _ _) => match k with
  | .dic _ => .ok ((), δ)
  | _ => .stuck
 | _ => .stuck
noncomputable def ZdX : D -> Bool
 | .sc _ => true
 | .node _ o _ => !o
 | .hole => false
noncomputable def ZdY (dk dv : D) (kd : Kd) (ds : List D) : Option (D × Kd × List D) := match kd with
 | .dic ks => match dk with
  | .sc v => match keyD v with
   | some k => match ZH k ks ds with
    | some x => if ZdX x then some (x, .dic ks, ds) else none
    | none => if ZdX dv && decide (ds.length < sizeLine) then (ZbM k dv ks ds).map fun r => (dv, .dic r.1, r.2) else none
   | none => none
  | _ => none
 | _ => none
noncomputable def Zfe (i : Nat) (ck cv : M D) : M D := (chkD i).bnd fun _ => ck.bnd fun dk => cv.bnd fun dv => modS i (ZdY dk dv)
noncomputable def Zht (w : W) : Option D := match w with
 | .nd k ds => match k with
  | .dic _ => some (.node .lst true ds)
  | _ => none
 | _ => none
noncomputable def Zdr (i : Nat) : M D := (view (.late i)).bnd fun w => lift (Zht w)
mutual
noncomputable def evb (C : Ctx) : E -> M D × M Bool
 | .k v => let c : M D := M.ret (.sc v); (c, tdef (.k v) c)
 | .g d => let c : M D := M.ret d; (c, tdef (.g d) c)
 | .v i => (valV i, tdef (.v i) (valV i))
 | .bin op a b =>
  let c : M D := (Zj a (evb C a).1).bnd fun p => (Zj b (evb C b).1).bnd fun q => (view p).bnd fun x => (view q).bnd fun y => lift (binW op x y)
  (c, tdef (.bin op a b) c)
 | .neg a =>
  let c : M D := (vdef a (evb C a).1).bnd fun x => lift (negW x)
  (c, tdef (.neg a) c)
 | .cmp op a b =>
  let c : M D := (Zj a (evb C a).1).bnd fun p => (Zj b (evb C b).1).bnd fun q => (view p).bnd fun x => (view q).bnd fun y => lift ((ZV op x y).map fun t => .sc (.bl t))
  (c, Zcn c)
 | .chain op op' a b e =>
  let c : M D := (Zj a (evb C a).1).bnd fun p => (Zj b (evb C b).1).bnd fun q => (view p).bnd fun x => (view q).bnd fun y => (lift (cmpW op x y)).bnd fun t => if t then (Zj e (evb C e).1).bnd fun r => (view q).bnd fun y => (view r).bnd fun z => lift ((cmpW op' y z).map fun t => .sc (.bl t)) else M.ret (.sc (.bl false))
  (c, Zcn c)
 | .isN p a =>
  let c : M D := (vdef a (evb C a).1).bnd fun x => M.ret (isNW p x)
  (c, tdef (.isN p a) c)
 | .isB c p a =>
  let r : M D := (vdef a (evb C a).1).bnd fun x => lift (isBW c p x)
  (r, tdef (.isB c p a) r)
 | .nt a => ((vdef a (evb C a).1).bnd fun w => lift (notW w), (evb C a).2.bnd fun b => M.ret (!b))
 | .and a b => ((vdef a (evb C a).1).bnd (andM (evb C b).1), (evb C a).2.bnd fun t => if t then (evb C b).2 else M.ret false)
 | .or a b => ((vdef a (evb C a).1).bnd (orM (evb C b).1), (evb C a).2.bnd fun t => if t then M.ret true else (evb C b).2)
 | .ife c a b =>
  let r : M D := (evb C c).2.bnd fun t => if t then (evb C a).1 else (evb C b).1
  (r, tdef (.ife c a b) r)
 | .ix a i =>
  let c : M D := (Zj a (evb C a).1).bnd fun p => (Zj i (evb C i).1).bnd fun q => (view p).bnd fun x => (view q).bnd fun y => lift (ixW2 x y)
  (c, tdef (.ix a i) c)
 | .sl a lo hi =>
  let c : M D := (Zj a (evb C a).1).bnd fun p => (ZbN lo (Zj lo (evb C lo).1)).bnd fun l => (ZbN hi (Zj hi (evb C hi).1)).bnd fun h => (view p).bnd fun x => lift (slD x l h)
  (c, tdef (.sl a lo hi) c)
 | .fld a f =>
  let c : M D := (vdef a (evb C a).1).bnd fun x => lift (fldW C.fok f x)
  (c, tdef (.fld a f) c)
 | .lst es =>
  let c : M D := (evs C es).bnd fun ds => lift (newL ds)
  (c, tdef (.lst es) c)
 | .tup es =>
  let c : M D := (evs C es).bnd fun ds => lift (newT ds)
  (c, tdef (.tup es) c)
 | .kl vs =>
  let c : M D := lift (newL (vs.map D.sc))
  (c, tdef (.kl vs) c)
 | .kt vs =>
  let c : M D := lift (newT (vs.map D.sc))
  (c, tdef (.kt vs) c)
 | .dct0 =>
  let c : M D := M.ret (.node (.dic []) true [])
  (c, tdef .dct0 c)
 | .call f es =>
  let c : M D := (opds C es).bnd fun ps => ZaL f ps
  (c, tdef (.call f es) c)
 | .bf f es =>
  let c : M D := (opds C es).bnd fun ps => (views ps).bnd fun ws => lift (bfW f ws)
  (c, tdef (.bf f es) c)
 | .bm m o es =>
  let c : M D := (vdef o (evb C o).1).bnd fun w => (lift (strW w)).bnd fun z => (opds C es).bnd fun ps => (views ps).bnd fun ws => lift (bmW m z ws)
  (c, tdef (.bm m o es) c)
 | .mut m i ps es =>
  let c : M D := match m, ps with
   | .append, [] => (chkL i).bnd fun _ => (evs C es).bnd fun ds => appM i ds
   | m, [] => (chkL i).bnd fun _ => (opds C es).bnd fun ps => (views ps).bnd fun ws => modS i (mutD m ws)
   | m, [.k (.int n)] => mutK m n i es
   | _, _ => stk
  (c, tdef (.mut m i ps es) c)
 | .meth A m f o es =>
  let c : M D := (Zj o (evb C o).1).bnd fun p => (chkI A m p).bnd fun _ => (opds C es).bnd fun ps => ZaL f (p :: ps)
  (c, tdef (.meth A m f o es) c)
 | .new A f es =>
  let c : M D := (opds C es).bnd fun ps => newF A f ps
  (c, tdef (.new A f es) c)
 | .comp k js tg ik ies cond elt =>
  let C' : Ctx := { C with lock := fun i => decide (k <= i) }
  let loop (items : List D) : M (List D) := Z9 (asgT C'.lock tg) (tsts C' cond) (evb C' elt).1 items []
  let c : M D := (opds C ies).bnd fun ps => (Z0 ps).bnd fun h => (lift (itW ik h.1)).bnd fun items => (ZW k js (loop items)).bnd fun d => (Zar h.2).bnd fun _ => M.ret d
  (c, tdef (.comp k js tg ik ies cond elt) c)
 | .fs es =>
  let c : M D := fss C es Str.empty
  (c, tdef (.fs es) c)
 | .bor e =>
  let c : M D := borV (evb C e).1
  (c, tdef (.bor e) c)
 | .sdef i k v =>
  let c : M D := Zfe i (evb C k).1 (evb C v).1
  (c, tdef (.sdef i k v) c)
 | .dvals i => (Zdr i, tdef (.dvals i) (Zdr i))
noncomputable def fss (C : Ctx) : List E -> Str -> M D
 | [], acc => M.ret (.sc (.str acc))
 | e :: es, acc => (vdef e (evb C e).1).bnd fun w => (lift (fmtW acc w)).bnd fun acc' => fss C es acc'
noncomputable def opds (C : Ctx) : List E -> M (List Op)
 | [] => M.ret []
 | e :: es => (Zj e (evb C e).1).bnd fun p => (opds C es).bnd fun ps => M.ret (p :: ps)
noncomputable def evs (C : Ctx) : List E -> M (List D)
 | [] => M.ret []
 | e :: es => (evb C e).1.bnd fun p => (evs C es).bnd fun ps => M.ret (p :: ps)
noncomputable def tsts (C : Ctx) : List E -> M Bool
 | [] => M.ret true
 | e :: es => (evb C e).2.bnd fun b => if b then tsts C es else M.ret false
end
noncomputable abbrev ev (C : Ctx) (e : E) : M D := (evb C e).1
noncomputable abbrev tst (C : Ctx) (e : E) : M Bool := (evb C e).2
noncomputable def clmR {α : Type} : Rs (α × List D) -> Rs (α × List D)
 | .ok r => .ok r
 | _ => .stuck
noncomputable def clm {α : Type} (c : M α) : M α := fun δ => clmR (c δ)
noncomputable def makX (A : Addr) (fi : FI) (ps : List Op) : M D := (Za0 fi.lend ps).bnd fun ds => match fi.run (.node (.ins A []) true [] :: ds) with
 | .ok (.sc .non, d :: ds') => (ZU ps ds').bnd fun _ => M.ret d
 | .exc x (_ :: ds') => fun δ => match ZU ps ds' δ with
  | .ok (_, δ') => .exc x δ'
  | _ => .stuck
 | _ => stk
noncomputable def yev (C : Ctx) : YE -> M D
 | .meth A m f o es => (clm (Zj o (evb C o).1)).bnd fun p => (chkI A m p).bnd fun _ => (clm (opds C es)).bnd fun ps => Zfd f (p :: ps)
 | .new A f es => (clm (opds C es)).bnd fun ps => makX A f ps
inductive Fl where
 | nx | rt (d : D) | bk | ct
noncomputable def forL (asg : D -> M Unit) (body : M Fl) : List D -> M Fl
 | [] => M.ret .nx
 | d :: ds => (asg d).bnd fun _ => body.bnd fun f => match f with
  | .nx => forL asg body ds
  | .ct => forL asg body ds
  | .bk => M.ret .nx
  | .rt x => M.ret (.rt x)
noncomputable def Zag (c : M Bool) (body : M Fl) : Nat -> M Fl
 | 0 => stk
 | n + 1 => c.bnd fun b => if b then body.bnd fun f => match f with
  | .nx => Zag c body n
  | .ct => Zag c body n
  | .bk => M.ret .nx
  | .rt x => M.ret (.rt x)
  else M.ret .nx
noncomputable def movV (i : Nat) : M D := fun δ => match δ[i]? with
 | some (.sc v) => .ok (.sc v, δ)
 | some (.node k o ds) => .ok (.node k o ds, δ.set i .hole)
 | _ => .stuck
noncomputable def retV (C : Ctx) (e : E) : M D := match e with
 | .v i => if C.lock i then valV i else movV i
 | e => ev C e
noncomputable def seqL (c : M Fl) (r : M Fl) : M Fl := c.bnd fun f => match f with
 | .nx => r
 | f => M.ret f
noncomputable def unpM (lock : Nat -> Bool) (is : List Nat) : W -> M Unit
 | .nd .tup ds => Zbi lock is ds
 | .nd .lst ds => Zbi lock is ds
 | _ => stk
noncomputable def finB (h : List (Nat × D)) : Rs (Fl × List D) -> Rs (Fl × List D)
 | .ok (f, δ) => ((Zar h).bnd fun _ => M.ret f) δ
 | .exc x δ => (match Zar h δ with
  | .ok (_, δ') => .exc x δ'
  | _ => .stuck)
 | .stuck => .stuck
noncomputable def hits (c : Str) : D -> Bool
 | .node (.exc ns false _) true _ => decide (c ∈ ns)
 | _ => false
noncomputable def Zoo (i : Nat) : Rs (Fl × List D) -> Rs (Fl × List D)
 | .ok (f, δ) => .ok (f, δ.set i .hole)
 | .exc _ _ => .stuck
 | .stuck => .stuck
noncomputable def tryM (lock : Nat -> Bool) (body : M Fl) (c : Str) (nm : Option Nat) (suite : M Fl) : M Fl := fun δ => match body δ with
 | .ok r => .ok r
 | .stuck => .stuck
 | .exc x δ' => if hits c x then (match nm with
  | none => (match suite δ' with
   | .exc _ _ => .stuck
   | r => r)
  | some i => if i < δ'.length && !lock i then Zoo i (suite (δ'.set i x)) else .stuck) else .stuck
noncomputable def subK (i : Nat) (n : Int) (c : M D) : E -> M Fl
 | .k (.int m) => c.bnd fun d => (Zb4 i n (setD (.sc (.int m)) d)).bnd fun _ => M.ret .nx
 | _ => stk
mutual
noncomputable def ex (C : Ctx) : S -> M Fl
 | .asg i e => (ev C e).bnd fun d => (asgN C.lock i d).bnd fun _ => M.ret .nx
 | .unp is e => (vdef e (ev C e)).bnd fun w => (unpM C.lock is w).bnd fun _ => M.ret .nx
 | .sub i ps ix e => match ps with
  | [] => (ev C e).bnd fun d => (ZT i).bnd fun _ => (vdef ix (ev C ix)).bnd fun w => (modS i (Zbj w d)).bnd fun _ => M.ret .nx
  | [.k (.int n)] => subK i n (ev C e) ix
  | _ => stk
 | .attr i f e => (ev C e).bnd fun d => (ZT i).bnd fun _ => (modS i (putD C.fok f d)).bnd fun _ => M.ret .nx
 | .ex e => (ev C e).bnd fun _ => M.ret .nx
 | .ret e => (retV C e).bnd fun d => M.ret (.rt d)
 | .retN => M.ret (.rt (.sc .non))
 | .iff c a b => (tst C c).bnd fun t => if t then exs C a else exs C b
 | .for_ tg ik ies body =>
  let lk : Nat -> Bool := fun j => C.lock j || walked ies j
  (opds C ies).bnd fun ps => (Z0 ps).bnd fun h => (lift (itW ik h.1)).bnd fun items => (forL (asgT lk tg) (exs { C with lock := lk } body) items).bnd fun f => (Zar h.2).bnd fun _ => M.ret f
 | .while_ c body => Zag (tst C c) (exs C body) C.fuel
 | .pass => M.ret .nx
 | .brk => M.ret .bk
 | .cnt => M.ret .ct
 | .raise _ => stk
 | .asgY i y => (yev C y).bnd fun d => (asgN C.lock i d).bnd fun _ => M.ret .nx
 | .exY y => (yev C y).bnd fun _ => M.ret .nx
 | .retY y => (yev C y).bnd fun d => M.ret (.rt d)
 | .asgX i f es => ((clm (opds C es)).bnd fun ps => Zfd f ps).bnd fun d => (asgN C.lock i d).bnd fun _ => M.ret .nx
 | .exX f es => ((clm (opds C es)).bnd fun ps => Zfd f ps).bnd fun _ => M.ret .nx
 | .retX f es => ((clm (opds C es)).bnd fun ps => Zfd f ps).bnd fun d => M.ret (.rt d)
 | .raise0 ns => Zio (.node (.exc ns true []) true [])
 | .raiseI ns f es => ((clm (opds C es)).bnd fun ps => newX ns f ps).bnd Zio
 | .attrX i f e => (ev C e).bnd fun d => (ZT i).bnd fun _ => (modS i (putX f d)).bnd fun _ => M.ret .nx
 | .forX tg ik ies body =>
  let lk : Nat -> Bool := fun j => C.lock j || walked ies j
  (clm (opds C ies)).bnd fun ps => (Z0 ps).bnd fun h => (lift (itW ik h.1)).bnd fun items δ => finB h.2 (forL (asgT lk tg) (exs { C with lock := lk } body) items δ)
 | .try_ body c nm suite => tryM C.lock (exs C body) c nm (exs C suite)
 | .lf s => clm (ex C s)
 | .ifX c a b => (clm (tst C c)).bnd fun t => if t then exs C a else exs C b
noncomputable def exs (C : Ctx) : List S -> M Fl
 | [] => M.ret .nx
 | s :: r => seqL (ex C s) (exs C r)
end
noncomputable def ZdZ (n : Nat) : Rs (Fl × List D) -> Rs (D × List D)
 | .ok (.rt d, δ) => .ok (d, δ.take n)
 | .ok (.nx, δ) => .ok (.sc .non, δ.take n)
 | .ok _ => .stuck
 | .exc x δ => .exc x (δ.take n)
 | .stuck => .stuck
noncomputable def Zi (C : Ctx) (n N : Nat) (body : List S) (ds : List D) : Rs (D × List D) :=
 if ds.length = n then ZdZ n (exs { C with lock := fun i => decide (i < n) } body (ds ++ List.replicate (N - n) .hole)) else .stuck
end T
namespace T
open PySem L2
inductive Sep {α : Type} (R : α -> D -> Bud -> Prop) : List α -> List D -> Bud -> Prop
 | nil (m : Bud) : Sep R [] [] m
 | cons {a : α} {d : D} {as : List α} {ds : List D} {m1 m2 m : Bud} : R a d m1 -> Sep R as ds m2 -> (∀ b, m1 b + m2 b <= m b) -> Sep R (a :: as) (d :: ds) m
theorem RepL.sep {K : Fg} {H Hs : Hp} : ∀ {vs : List V} {ds : List D} {m : Bud}, RepL K H Hs vs ds m -> Sep (Rep K H Hs) vs ds m
 | _, _, _, .nil _ => .nil _
 | _, _, _, .cons a b c => .cons a b.sep c
termination_by structural a => a
theorem Sep.repL {K : Fg} {H Hs : Hp} : ∀ {vs : List V} {ds : List D} {m : Bud}, Sep (Rep K H Hs) vs ds m -> RepL K H Hs vs ds m
 | _, _, _, .nil _ => .nil _
 | _, _, _, .cons a b c => .cons a b.repL c
termination_by structural a => a
section
variable {α β : Type} {R R' : α -> D -> Bud -> Prop}
theorem Sep.length : ∀ {as : List α} {ds : List D} {m : Bud}, Sep R as ds m -> as.length = ds.length
 | _, _, _, .nil _ => rfl
 | _, _, _, .cons _ b _ => by rw [List.length_cons, List.length_cons, b.length]
termination_by structural a => a
theorem Sep.mono {as : List α} {ds : List D} {m m' : Bud} (h : Sep R as ds m) (l : ∀ b, m b <= m' b) : Sep R as ds m' := by
 cases h with
 | nil => exact .nil _
 | cons a b c => exact .cons a b fun x => Nat.le_trans (c x) (l x)
theorem Sep.imp : ∀ {as : List α} {ds : List D} {m : Bud}, (∀ a d m', (∀ b, m' b <= m b) -> R a d m' -> R' a d m') -> Sep R as ds m -> Sep R' as ds m
 | _, _, _, _, .nil _ => .nil _
 | _, _, m, f, .cons (m1 := m1) (m2 := m2) x y c => .cons (f _ _ _ (fun b => by have := c b; omega) x) (y.imp fun a d m' l => f a d m' fun b => by have := c b; have := l b; (try dsimp only at *); omega) c
termination_by structural a => a
theorem Sep.focus : ∀ {as : List α} {ds : List D} {m : Bud} {i : Nat} {d : D}, Sep R as ds m -> ds[i]? = some d -> ∃ (a : α) (m1 m2 : Bud), as[i]? = some a /\ R a d m1 /\ (∀ b, m1 b + m2 b <= m b) /\
 ∀ (R' : α -> D -> Bud -> Prop) (a' : α) (d' : D) (m' : Bud), (∀ a d m', (∀ b, m' b <= m2 b) -> R a d m' -> R' a d m') -> R' a' d' m' -> Sep R' (as.set i a') (ds.set i d') (fun b => m' b + m2 b)
 | _, _, _, _, _, .nil _, h => by simp at h
 | _, _, m, 0, _, .cons (a := a) (m1 := m1) (m2 := m2) x y c, h => by
  (simp only [List.getElem?_cons_zero, Option.some.injEq] at h)
  subst h
  exact ⟨a, m1, m2, rfl, x, c, fun R' a' d' m' f x' => .cons x' (y.imp f) fun b => Nat.le_refl _⟩
 | _, _, m, i + 1, d, .cons (a := a) (m1 := m1) (m2 := m2) x y c, h => by
  obtain ⟨a', n1, n2, e, r, l, f⟩ := Sep.focus (i := i) y (by simpa using h)
  refine ⟨a', n1, fun b => m1 b + n2 b, by simpa using e, r, fun b => by have := c b; have := l b; (try dsimp only at *); omega, fun R' a'' d'' m' g x' => ?_⟩
  have q := f R' a'' d'' m' (fun a d m' l' => g a d m' fun b => by have := l' b; (try dsimp only at *); omega) x'
  exact .cons (m2 := fun b => m' b + n2 b) (g _ _ _ (fun b => by (try dsimp only at *); omega) x) q fun b => by (try dsimp only at *); omega
theorem Sep.append : ∀ {as bs : List α} {ds es : List D} {m1 m2 : Bud}, Sep R as ds m1 -> Sep R bs es m2 -> Sep R (as ++ bs) (ds ++ es) (fun b => m1 b + m2 b)
 | _, _, _, _, _, _, .nil _, y => y.mono fun b => by (try dsimp only at *); omega
 | _, _, _, _, _, m2, .cons (m2 := n2) x y c, z => .cons (m2 := fun b => n2 b + m2 b) x (y.append z) fun b => by have := c b; omega
termination_by structural a => a
theorem Sep.get {as : List α} {ds : List D} {m : Bud} {i : Nat} {d : D} (h : Sep R as ds m) (e : ds[i]? = some d) : ∃ (a : α) (m1 : Bud), as[i]? = some a /\ R a d m1 /\ ∀ b, m1 b <= m b := by
 obtain ⟨a, m1, m2, e, r, l, _⟩ := h.focus e
 exact ⟨a, m1, e, r, fun b => by have := l b; omega⟩
theorem Sep.split : ∀ {as : List α} {ds es : List D} {m : Bud}, Sep R as (ds ++ es) m -> ∃ (a1 a2 : List α) (m1 m2 : Bud), as = a1 ++ a2 /\ Sep R a1 ds m1 /\ Sep R a2 es m2 /\ ∀ b, m1 b + m2 b <= m b
 | as, [], es, m, h => ⟨[], as, fun _ => 0, m, rfl, .nil _, h, fun b => by (try dsimp only at *); omega⟩
 | _, d :: ds, es, m, .cons (a := a) (m1 := m1) x y c => by
  obtain ⟨a1, a2, n1, n2, e, p, q, l⟩ := Sep.split (ds := ds) (es := es) y
  subst e
  exact ⟨a :: a1, a2, fun b => m1 b + n1 b, n2, rfl, .cons x p fun b => Nat.le_refl _, q, fun b => by have := c b; have := l b; (try dsimp only at *); omega⟩
theorem Sep.take {as : List α} {ds : List D} {m : Bud} (h : Sep R as ds m) (n : Nat) : Sep R (as.take n) (ds.take n) m := by
 have e : ds.take n ++ ds.drop n = ds := List.take_append_drop n ds
 rw [<- e] at h
 obtain ⟨a1, a2, m1, m2, q, p, p', l⟩ := h.split
 have hl := p.length
 have hd := h.length
 subst q
 have : (a1 ++ a2).take n = a1 := by
  by_cases hn : n <= ds.length
  . rw [List.take_left' (by rw [hl, List.length_take]; omega)]
  . have e2 : a2 = [] := by
     have := p'.length
     rw [List.length_drop] at this
     exact List.length_eq_zero_iff.mp (by (try dsimp only at *); omega)
    rw [e2, List.append_nil]
    exact List.take_of_length_le (by rw [hl, List.length_take]; omega)
 rw [this]
 exact p.mono fun b => by have := l b; omega
theorem Sep.drop {as : List α} {ds : List D} {m : Bud} (h : Sep R as ds m) (n : Nat) : Sep R (as.drop n) (ds.drop n) m := by
 have e : ds.take n ++ ds.drop n = ds := List.take_append_drop n ds
 rw [<- e] at h
 obtain ⟨a1, a2, m1, m2, q, p, p', l⟩ := h.split
 have hl := p.length
 subst q
 have : (a1 ++ a2).drop n = a2 := by
  by_cases hn : n <= ds.length
  . rw [List.drop_left' (by rw [hl, List.length_take]; omega)]
  . have e2 : a2 = [] := by
     have := p'.length
     rw [List.length_drop] at this
     exact List.length_eq_zero_iff.mp (by (try dsimp only at *); omega)
    rw [e2, List.append_nil]
    exact List.drop_of_length_le (by rw [hl, List.length_take]; omega)
 rw [this]
 exact p'.mono fun b => by have := l b; omega
end
section
variable {K : Fg} {H Hs Hs' : Hp}
mutual
theorem Rep.share (g : Same Hs Hs') : ∀ {v : V} {d : D} {m : Bud}, (∀ b, m b ≥ 1 -> H b ≠ none -> Hs' b = H b) -> Rep K H Hs v d m -> Rep K H Hs' v (shr d) (fun _ => 0)
 | _, _, _, _, .sc v _ => .sc v _
 | _, _, _, _, .hole v _ => .hole v _
 | _, _, m, k, .own (a := a) (m' := m') n r h => by
  have h1 : m a ≥ 1 := by have := h a; simp only [one, if_pos] at this; omega
  refine .shd (ZaE.r (n.eq (k a h1 n.at))) (RepL.share g (fun b hb => k b ?_) r)
  have := h b
  omega
 | _, _, _, _, .shd n r => .shd (n.same g) (RepL.share g (fun b hb => absurd hb (by simp)) r)
termination_by structural _ a => a
theorem RepL.share (g : Same Hs Hs') : ∀ {vs : List V} {ds : List D} {m : Bud}, (∀ b, m b ≥ 1 -> H b ≠ none -> Hs' b = H b) -> RepL K H Hs vs ds m -> RepL K H Hs' vs (shrL ds) (fun _ => 0)
 | _, _, _, _, .nil _ => .nil _
 | _, _, m, k, .cons x y h => by
  refine .cons (Rep.share g (fun b hb => k b ?_) x) (RepL.share g (fun b hb => k b ?_) y) fun b => Nat.le_refl _
  . have := h b; omega
  . have := h b; omega
termination_by structural _ a => a
end
noncomputable def shH (H Hs : Hp) (m : Bud) : Hp := fun b => if m b ≥ 1 then H b else Hs b
theorem ZaY {M : Bud} {m : Bud} (g : Good H Hs M) (l : ∀ b, m b <= M b) : Same Hs (shH H Hs m) := fun b o e => by
 unfold shH
 split
 . exact g.sub b o e
 . exact e
theorem Zc3 {m : Bud} : ∀ b, m b ≥ 1 -> H b ≠ none -> shH H Hs m b = H b := fun b h _ => if_pos h
theorem Good.share {m M : Bud} (g : Good H Hs (fun b => m b + M b)) : Good H (shH H Hs m) M where
 sub := fun b o e => by
  unfold shH at e
  split at e
  . exact e
  . exact g.sub b o e
 le := fun b => by have : m b + M b <= 1 := g.le b; omega
 ne := fun b h => by
  have : m b + M b <= 1 := g.le b
  unfold shH
  rw [if_neg (by (try dsimp only at *); omega)]
  exact g.ne b (by show m b + M b = 1; omega)
 has := fun b h => by
  have : m b + M b <= 1 := g.le b
  exact g.has b (by show m b + M b = 1; omega)
theorem Stp.share {m M : Bud} (g : Good H Hs (fun b => m b + M b)) : Stp H Hs (fun b => m b + M b) H (shH H Hs m) M where
 keep := fun _ _ h _ => h
 own := fun b h => .inl (by have : m b + M b <= 1 := g.le b; show m b + M b = 1; omega)
 grow := ZaY g fun b => by (try dsimp only at *); omega
 shr := fun b h h' => by
  unfold shH at h'
  split at h'
  . have : m b + M b <= 1 := g.le b
    exact .inl (by show m b + M b = 1; omega)
  . exact absurd h h'
 stay := fun _ h => h
end
def RepO (K : Fg) (H Hs : Hp) (o : Option V) (d : D) (m : Bud) : Prop := d = .hole \/ ∃ v, o = some v /\ Rep K H Hs v d m
abbrev RepS (K : Fg) (H Hs : Hp) (σ : St) (δ : List D) (m : Bud) : Prop := Sep (RepO K H Hs) σ δ m
section
variable {K : Fg} {H Hs H' Hs' : Hp}
theorem RepO.frame {o : Option V} {d : D} {m : Bud} (g : Same Hs Hs') (k : ∀ b, m b ≥ 1 -> H b ≠ none -> H' b = H b) (h : RepO K H Hs o d m) : RepO K H' Hs' o d m := by
 rcases h with h | ⟨v, e, r⟩
 . exact .inl h
 . exact .inr ⟨v, e, r.frame g k⟩
theorem RepS.frame {σ : St} {δ : List D} {m : Bud} (g : Same Hs Hs') (k : ∀ b, m b ≥ 1 -> H b ≠ none -> H' b = H b) (h : RepS K H Hs σ δ m) : RepS K H' Hs' σ δ m :=
 h.imp fun a d m' l r => RepO.frame g (fun b hb => k b (Nat.le_trans hb (l b))) r
theorem RepL.slots : ∀ {vs : List V} {ds : List D} {m : Bud}, RepL K H Hs vs ds m -> RepS K H Hs (vs.map some) ds m
 | _, _, _, .nil _ => .nil _
 | _, _, _, .cons x y c => .cons (.inr ⟨_, rfl, x⟩) (RepL.slots y) c
theorem holes (o : Nat -> Option V) : ∀ (n : Nat) (m : Bud) (σ : St), σ.length = n -> RepS K H Hs σ (List.replicate n .hole) m
 | 0, m, [], _ => .nil _
 | n + 1, m, o :: σ, h => .cons (m1 := fun _ => 0) (.inl rfl) (holes (fun _ => none) n m σ (by simpa using h)) fun b => by (try dsimp only at *); omega
inductive SlotI (K : Fg) (H Hs : Hp) (σ : St) (δ : List D) (m : Bud) (i : Nat) (d : D) : Prop
 | mk (v : V) (m1 m2 : Bud) (h0 : σ[i]? = some (some v)) (h1 : Rep K H Hs v d m1) (h2 : ∀ b, m1 b + m2 b <= m b) (h3 : ∀ (H' Hs' : Hp) (o : Option V) (d' : D) (m' : Bud), Same Hs Hs' -> (∀ b, m2 b ≥ 1 -> H b ≠ none -> H' b = H b) -> RepO K H' Hs' o d' m' -> RepS K H' Hs' (σ.set i o) (δ.set i d') (fun b => m' b + m2 b)) : SlotI K H Hs σ δ m i d
theorem RepS.slot {σ : St} {δ : List D} {m : Bud} {i : Nat} {d : D} (h : RepS K H Hs σ δ m) (e : δ[i]? = some d) (hd : d ≠ .hole) : SlotI K H Hs σ δ m i d := by
 obtain ⟨o, m1, m2, e1, r, l, f⟩ := h.focus e
 rcases r with r | ⟨v, rfl, r⟩
 . exact absurd r hd
 . exact ⟨v, m1, m2, e1, r, l, fun H' Hs' o d' m' g k x => f _ o d' m' (fun a d m'' l' q => RepO.frame g (fun b hb => k b (Nat.le_trans hb (l' b))) q) x⟩
theorem ZB {α : Type} : ∀ {l : List α} {i : Nat} {a : α}, l[i]? = some a -> l.set i a = l
 | [], _, _, h => by simp at h
 | b :: l, 0, a, h => by simp at h; subst h; rfl
 | b :: l, i + 1, a, h => by rw [List.set_cons_succ, ZB (by simpa using h)]
end
end T
namespace T
open PySem PySem.Spec L2
inductive BO {α β : Type} (c : M α) (f : α -> M β) (δ : List D) (r : β × List D) : Prop
 | mk (a : α) (δ' : List D) (h : c δ = .ok (a, δ')) (k : f a δ' = .ok r) : BO c f δ r
theorem Zb {α β : Type} {c : M α} {f : α -> M β} {δ : List D} {r : β × List D} (h : c.bnd f δ = .ok r) : BO c f δ r := by
 unfold M.bnd at h
 split at h
 . rename_i a δ' e
   exact ⟨a, δ', e, h⟩
 . cases h
 . cases h
theorem Ze {α : Type} {a : α} {δ : List D} {r : α × List D} (h : M.ret a δ = .ok r) : r = (a, δ) := by
 unfold M.ret at h
 injection h with h
 exact h.symm
theorem ZL {α : Type} {o : Option α} {δ : List D} {a : α} {δ' : List D} (h : lift o δ = .ok (a, δ')) : o = some a /\ δ' = δ := by
 cases o with
 | none => cases h
 | some x =>
  have := Ze h
  cases this
  exact ⟨rfl, rfl⟩
def RepP (K : Fg) (H Hs : Hp) (σ : St) (v : V) : Op -> Bud -> Prop
 | .late i, _ => σ[i]? = some (some v)
 | .tmp d, m => Rep K H Hs v d m
theorem RepP.frame {K : Fg} {H Hs H' Hs' : Hp} {σ : St} {v : V} {p : Op} {m : Bud} (g : Same Hs Hs') (k : ∀ b, m b ≥ 1 -> H b ≠ none -> H' b = H b) (h : RepP K H Hs σ v p m) : RepP K H' Hs' σ v p m := by
 cases p with
 | late i => exact h
 | tmp d => exact Rep.frame g k h
inductive View (K : Fg) (H Hs : Hp) : V -> W -> Bud -> Prop
 | sc (v : V) (m : Bud) : View K H Hs v (.sc v) m
 | nd {a : Addr} {k : Kd} {vs : List V} {ds : List D} {m : Bud} : ZcE K H a vs k -> RepL K H Hs vs ds m -> View K H Hs (.ref a) (.nd k ds) m
theorem View.frame {K : Fg} {H Hs Hs' : Hp} {v : V} {w : W} {m : Bud} (g : Same Hs Hs') (h : View K H Hs v w m) : View K H Hs' v w m := by
 cases h with
 | sc v m => exact .sc v m
 | nd n r => exact .nd n (r.frame g fun _ _ _ => rfl)
section
variable {K : Fg} {H Hs H' Hs' H1 Hs1 H2 Hs2 : Hp} {σ : St} {δ δ' : List D} {M M' B m : Bud}
theorem Good.re (g : Good H Hs M) (l : ∀ b, M' b <= M b := by intro b; (try dsimp only); omega) : Good H Hs M' := g.drop l
theorem Za1 {p : Op} {v : V} {w : W} (g : Good H Hs (fun b => B b + M b)) (s : RepS K H Hs σ δ M) (r : RepP K H Hs σ v p m) (e : view p δ = .ok (w, δ')) :
 ∃ Hs' M', Good H Hs' (fun b => B b + M' b) /\ Stp H Hs (fun b => B b + M b) H Hs' (fun b => B b + M' b) /\ View K H Hs' v w m /\ RepS K H Hs' σ δ' M' := by
 cases p with
 | tmp d =>
  cases d with
  | sc u =>
   have := Ze e
   cases this
   cases r
   exact ⟨Hs, M, g, Stp.refl _ _ _, .sc _ _, s⟩
  | hole => cases e
  | node k o ds =>
   have := Ze e
   cases this
   refine ⟨Hs, M, g, Stp.refl _ _ _, ?_, s⟩
   cases r with
   | own n q l => exact .nd n.r (q.mono fun b => by have := l b; omega)
   | shd n q => exact .nd (n.same g.sub) (q.mono fun b => Nat.zero_le _)
 | late i =>
  have r : σ[i]? = some (some v) := r
  unfold view at e
  dsimp only at e
  split at e
  . rename_i u hi
    cases e
    obtain ⟨v', m1, m2, e1, q, l, f⟩ := s.slot hi (by simp)
    rw [r] at e1
    cases e1
    cases q
    exact ⟨Hs, M, g, Stp.refl _ _ _, .sc _ _, s⟩
  . rename_i k ds hi
    cases e
    obtain ⟨v', m1, m2, e1, q, l, f⟩ := s.slot hi (by simp)
    rw [r] at e1
    cases e1
    cases q with
    | shd n q => exact ⟨Hs, M, g, Stp.refl _ _ _, .nd (n.same g.sub) (q.mono fun b => Nat.zero_le _), s⟩
  . rename_i k ds hi
    cases e
    obtain ⟨v', m1, m2, e1, q, l, f⟩ := s.slot hi (by simp)
    rw [r] at e1
    cases e1
    cases q with
    | @own a _ vs _ _ m' n q l' =>
     have g2 : Good H Hs (fun b => m' b + (B b + (one a b + m2 b))) := g.re fun b => by have := l b; have := l' b; omega
     have hsame := ZaY g2 (m := m') fun b => by omega
     have q2 := RepL.share hsame (Zc3 (H := H) (Hs := Hs) (m := m')) q
     refine ⟨shH H Hs m', fun b => one a b + m2 b, g2.share, ?_, .nd n.r (q2.mono fun b => Nat.zero_le _), ?_⟩
     . have s1 := Stp.share g2
       exact ⟨fun b o h z => h, fun b h => by
        rcases s1.own b h with q | q
        . left
          have : B b + M b <= 1 := g.le b
          have h1 := l b
          have h2 := l' b
          have h3 : m' b + (B b + (one a b + m2 b)) = 1 := q
          show B b + M b = 1
          omega
        . exact .inr q, s1.grow, fun b h h' => by
        rcases s1.shr b h h' with q | q
        . left
          have : B b + M b <= 1 := g.le b
          have h1 := l b
          have h2 := l' b
          have h3 : m' b + (B b + (one a b + m2 b)) = 1 := q
          show B b + M b = 1
          omega
        . exact .inr q, fun b h => h⟩
     . have z := f H (shH H Hs m') (some (.ref a)) (.node k true (shrL ds)) (one a) hsame (fun _ _ _ => rfl) (.inr ⟨_, rfl, .own n q2 fun b => by simp⟩)
       rw [ZB r] at z
       exact z
  . cases e
def Outs (K : Fg) (H Hs : Hp) (m : Bud) (d : D) (Q : VK) : Prop := ∀ (v : V) (H' : Hp) (m' : Bud), Same H H' -> (∀ b, m' b <= 1) -> (∀ b, m' b = 1 -> H' b ≠ none) -> (∀ b, H b ≠ none -> m' b <= m b) -> Rep K H' Hs v d m' -> Q v H'
theorem Outs.sc {u : V} {Q : VK} (h : Outs K H Hs m (.sc u) Q) : Q u H := h u H (fun _ => 0) (Same.refl _) (fun _ => Nat.zero_le _) (fun _ h => by simp at h) (fun _ _ => Nat.zero_le _) (.sc u _)
theorem Zf1 {H : Hp} {p : Addr} {o : HO} (h : H p = none) : Same H (upd H p o) := fun b u e => by
 rw [Zn (ZaJ e h)]
 exact e
theorem Outs.new {k : Kd} {ds : List D} {vs : List V} {o : HO} {p : Addr} {Q : VK} (h : Outs K H Hs m (.node k true ds) Q) (hm : ∀ b, m b <= 1) (hh : ∀ b, m b = 1 -> H b ≠ none) (hp : H p = none) (n : ZaE K (upd H p o) p vs k) (r : RepL K H Hs vs ds m) : Q (.ref p) (upd H p o) := by
 have hs := Zf1 (o := o) hp
 have mp : m p = 0 := by
  have := hm p
  by_cases q : m p = 1
  . exact absurd hp (hh p q)
  . omega
 refine h (.ref p) (upd H p o) (fun b => one p b + m b) hs (fun b => ?_) (fun b q => ?_) (fun b q => ?_) (.own n (r.frame (Same.refl _) fun b hb hn => ?_) fun b => Nat.le_refl _)
 . unfold one
   have := hm b
   split
   . rename_i e; subst e; omega
   . omega
 . by_cases e : b = p
   . subst e; rw [Zk]; simp
   . rw [Zn e]
     exact hh b (by simp only [one, if_neg e] at q; omega)
 . have e : b ≠ p := fun e => by subst e; exact q hp
   simp only [one, if_neg e]
   omega
 . have e : b ≠ p := fun e => by subst e; exact hn hp
   rw [Zn e]
theorem Zba {H0 Hs0 : Hp} {M0 : Bud} {d : D} {Q : VK} (st : Stp H0 Hs0 M0 H Hs (fun b => B b + M b)) (g : Good H Hs (fun b => B b + M b)) (s : RepS K H Hs σ δ M)
 (q : ∀ (v : V) (H' Hs' : Hp) (m M' : Bud), Good H' Hs' (fun b => m b + M' b) -> Stp H0 Hs0 M0 H' Hs' (fun b => m b + M' b) -> Rep K H' Hs' v d m -> RepS K H' Hs' σ δ M' -> Q v H') : Outs K H Hs B d Q := by
 intro v H' m' hs h1 h2 h3 r
 have hz : ∀ b, H b = none -> M b = 0 /\ B b = 0 := fun b hb => by
  have := g.has b
  have l : B b + M b <= 1 := g.le b
  by_cases e : B b + M b = 1
  . exact absurd hb (this e)
  . omega
 have hst : ∀ b, H b ≠ none -> H' b ≠ none := fun b hb => by
  cases e : H b with
  | none => exact absurd e hb
  | some o => rw [hs b o e]; simp
 refine q v H' Hs m' M ⟨fun b o e => hs b o (g.sub b o e), fun b => ?_, fun b h => ?_, fun b h => ?_⟩ ⟨fun b o e z => hs b o (st.keep b o e z), fun b h => ?_, st.grow, st.shr, fun b h => hst b (st.stay b h)⟩ r (s.frame (Same.refl _) fun b hb hn => ?_)
 . have l : B b + M b <= 1 := g.le b
   have := h1 b
   by_cases e : H b = none
   . have := hz b e; show m' b + M b <= 1; omega
   . have := h3 b e; show m' b + M b <= 1; omega
 . have h : m' b + M b = 1 := h
   have l : B b + M b <= 1 := g.le b
   by_cases e : H b = none
   . cases q : Hs b with
     | none => rfl
     | some o => rw [g.sub b o q] at e; cases e
   . have := h3 b e
     exact g.ne b (by show B b + M b = 1; omega)
 . have h : m' b + M b = 1 := h
   have l : B b + M b <= 1 := g.le b
   by_cases e : m' b = 1
   . exact h2 b e
   . exact hst b (g.has b (by show B b + M b = 1; omega))
 . have h : m' b + M b = 1 := h
   have l : B b + M b <= 1 := g.le b
   by_cases e : H b = none
   . right
     cases w : H0 b with
     | none => rfl
     | some o => exact absurd e (st.stay b (by rw [w]; simp))
   . have := h3 b e
     exact st.own b (by show B b + M b = 1; omega)
 . cases e : H b with
   | none => exact absurd e hn
   | some o => exact hs b o e
theorem RepL.app {vs ws : List V} {ds es : List D} {m1 m2 : Bud} (a : RepL K H Hs vs ds m1) (b : RepL K H Hs ws es m2) : RepL K H Hs (vs ++ ws) (ds ++ es) (fun b => m1 b + m2 b) := (a.sep.append b.sep).repL
theorem RepL.len {vs : List V} {ds : List D} {m : Bud} (a : RepL K H Hs vs ds m) : vs.length = ds.length := a.sep.length
end
end T
namespace T
open PySem PySem.Spec L2
inductive tG {α : Type} (K : Fg) (c : M α) (R : Hp -> Hp -> St -> α -> V -> Bud -> Prop) (σ : St) (H : Hp) (Q : VK) : Prop
 | mk (δ : List D) (Hs : Hp) (M : Bud) (a : α) (δ' : List D) (h0 : Good H Hs M) (h1 : RepS K H Hs σ δ M) (h2 : c δ = .ok (a, δ')) (h3 : ∀ (v : V) (H' Hs' : Hp) (m M' : Bud), Good H' Hs' (fun b => m b + M' b) -> Stp H Hs M H' Hs' (fun b => m b + M' b) -> R H' Hs' σ a v m -> RepS K H' Hs' σ δ' M' -> Q v H') : tG K c R σ H Q
def tM (K : Fg) (c : M D) : TE := tG K c fun H Hs _ d v m => Rep K H Hs v d m
def tP (K : Fg) (c : M Op) : TE := tG K c fun H Hs σ p v m => RepP K H Hs σ v p m
inductive tT (K : Fg) (c : M Bool) (σ : St) (H : Hp) (Q : Bool -> Hp -> Prop) : Prop
 | mk (δ : List D) (Hs : Hp) (M : Bud) (b : Bool) (δ' : List D) (h0 : Good H Hs M) (h1 : RepS K H Hs σ δ M) (h2 : c δ = .ok (b, δ')) (h3 : ∀ (H' Hs' : Hp) (M' : Bud), Good H' Hs' M' -> Stp H Hs M H' Hs' M' -> RepS K H' Hs' σ δ' M' -> Q b H') : tT K c σ H Q
def ZaW (K : Fg) (H Hs : Hp) (σ : St) : List V -> List Op -> Bud -> Prop
 | [], [], _ => True
 | v :: vs, p :: ps, m => ∃ m1 m2 : Bud, RepP K H Hs σ v p m1 /\ ZaW K H Hs σ vs ps m2 /\ ∀ b, m1 b + m2 b <= m b
 | _, _, _ => False
theorem ZaW.frame {K : Fg} {H Hs H' Hs' : Hp} {σ : St} (g : Same Hs Hs') : ∀ {vs : List V} {ps : List Op} {m : Bud}, (∀ b, m b ≥ 1 -> H b ≠ none -> H' b = H b) -> ZaW K H Hs σ vs ps m -> ZaW K H' Hs' σ vs ps m
 | [], [], _, _, h => h
 | v :: vs, p :: ps, m, k, ⟨m1, m2, a, b, l⟩ => ⟨m1, m2, a.frame g fun c hc => k c (by have := l c; omega), b.frame g fun c hc => k c (by have := l c; omega), l⟩
 | [], _ :: _, _, _, h => h.elim
 | _ :: _, [], _, _, h => h.elim
inductive tPs (K : Fg) (c : M (List Op)) (σ : St) (H : Hp) (Q : List V -> Hp -> Prop) : Prop
 | mk (δ : List D) (Hs : Hp) (M : Bud) (a : List Op) (δ' : List D) (h0 : Good H Hs M) (h1 : RepS K H Hs σ δ M) (h2 : c δ = .ok (a, δ')) (h3 : ∀ (vs : List V) (H' Hs' : Hp) (m M' : Bud), Good H' Hs' (fun b => m b + M' b) -> Stp H Hs M H' Hs' (fun b => m b + M' b) -> ZaW K H' Hs' σ vs a m -> RepS K H' Hs' σ δ' M' -> Q vs H') : tPs K c σ H Q
inductive tDs (K : Fg) (c : M (List D)) (σ : St) (H : Hp) (Q : List V -> Hp -> Prop) : Prop
 | mk (δ : List D) (Hs : Hp) (M : Bud) (a : List D) (δ' : List D) (h0 : Good H Hs M) (h1 : RepS K H Hs σ δ M) (h2 : c δ = .ok (a, δ')) (h3 : ∀ (vs : List V) (H' Hs' : Hp) (m M' : Bud), Good H' Hs' (fun b => m b + M' b) -> Stp H Hs M H' Hs' (fun b => m b + M' b) -> RepL K H' Hs' vs a m -> RepS K H' Hs' σ δ' M' -> Q vs H') : tDs K c σ H Q
section
variable {X : Cx} {e a b : Expr} {es : List Expr} {pos : Pos}
theorem PE.imp {t t' : TE} (h : PE X e t) (w : ∀ σ H Q, t' σ H Q -> t σ H Q) : PE X e t' := fun pins s σ H Q I q => h pins s σ H Q I (w σ H Q q)
theorem PT.imp {t t' : TT} (h : PT X e t) (w : ∀ σ H Q, t' σ H Q -> t σ H Q) : PT X e t' := fun pins s σ H Q I q => h pins s σ H Q I (w σ H Q q)
theorem PA.imp {t t' : TA} (h : PA X es t) (w : ∀ σ H Q, t' σ H Q -> t σ H Q) : PA X es t' := fun pos pins s σ H Q I q => h pos pins s σ H Q I (w σ H Q q)
theorem Zax {H Hs : Hp} {M : Bud} (g : Good H Hs M) : Good H Hs (fun b => (fun _ => 0) b + M b) := g.drop fun b => by simp
theorem stp0 (H Hs : Hp) (M : Bud) : Stp H Hs M H Hs (fun b => (fun _ => 0) b + M b) := by
 have e : (fun b => (fun _ => 0) b + M b) = M := by funext b; simp
 rw [e]
 exact Stp.refl H Hs M
theorem ok_k {v : V} (h : PE X e (tC v)) : PE X e (tM X.K (M.ret (.sc v))) := PE.imp h fun σ H Q z0 => by
 obtain ⟨δ, Hs, M, d, δ', g, r, e, q⟩ := z0
 have := Ze e
 cases this
 exact q v H Hs (fun _ => 0) M (Zax g) (stp0 H Hs M) (.sc v _) r
theorem Zg3 {i : Nat} (h : PE X e (tVar i)) : PE X e (tP X.K (ZT i)) := PE.imp h fun σ H Q z0 => by
 obtain ⟨δ, Hs, M, p, δ', g, r, e, q⟩ := z0
 have fin : ∀ {d : D}, δ[i]? = some d -> d ≠ .hole -> p = .late i -> δ' = δ -> tVar i σ H Q := fun hd hn e1 e2 => by
  subst e1 e2
  obtain ⟨v, m1, m2, e3, _⟩ := r.slot hd hn
  exact ⟨v, e3, q v H Hs (fun _ => 0) M (Zax g) (stp0 H Hs M) e3 r⟩
 unfold ZT at e
 split at e
 . rename_i hd
   injection e with e
   cases e
   exact fin hd (by simp) rfl rfl
 . rename_i hd
   injection e with e
   cases e
   exact fin hd (by simp) rfl rfl
 . cases e
theorem ok_v {i : Nat} (h : PE X e (tVar i)) : PE X e (tM X.K (valV i)) := PE.imp h fun σ H Q z0 => by
 obtain ⟨δ, Hs, M, d, δ', g, s, e, q⟩ := z0
 unfold valV at e
 split at e
 . rename_i u hd
   injection e with e
   cases e
   obtain ⟨v, m1, m2, e3, r, _⟩ := s.slot hd (by simp)
   cases r
   exact ⟨u, e3, q u H Hs (fun _ => 0) M (Zax g) (stp0 H Hs M) (.sc _ _) s⟩
 . rename_i k ds hd
   injection e with e
   cases e
   obtain ⟨v, m1, m2, e3, r, _⟩ := s.slot hd (by simp)
   cases r with
   | shd n r => exact ⟨_, e3, q _ H Hs (fun _ => 0) M (Zax g) (stp0 H Hs M) (.shd n r) s⟩
 . rename_i k ds hd
   injection e with e
   cases e
   obtain ⟨v, m1, m2, e3, r, l, f⟩ := s.slot hd (by simp)
   refine ⟨v, e3, ?_⟩
   have g2 : Good H Hs (fun b => m1 b + m2 b) := g.re fun b => by have := l b; omega
   have hsame := ZaY g2 (m := m1) fun b => by omega
   have r2 := Rep.share hsame (Zc3 (H := H) (Hs := Hs) (m := m1)) r
   have st := Stp.share g2
   refine q v H (shH H Hs m1) (fun _ => 0) m2 (Zax g2.share) ⟨fun b o h _ => h, fun b h => ?_, st.grow, fun b h h' => ?_, fun b h => h⟩ r2 ?_
   . have h : (fun _ => 0) b + m2 b = 1 := h
     have := l b
     have := g.le b
     left; simp at h; omega
   . rcases st.shr b h h' with z | z
     . have z : m1 b + m2 b = 1 := z
       have := l b
       have := g.le b
       left; omega
     . exact .inr z
   . have z := f H (shH H Hs m1) (some v) (.node k false (shrL ds)) (fun _ => 0) hsame (fun _ _ _ => rfl) (.inr ⟨v, rfl, r2⟩)
     rw [ZB e3] at z
     exact z.mono fun b => by simp
 . cases e
theorem Za {c : M D} (h : PE X e (tM X.K c)) : PE X e (tP X.K (c.bnd fun d => M.ret (.tmp d))) := PE.imp h fun σ H Q z0 => by
 obtain ⟨δ, Hs, M, p, δ', g, s, e, q⟩ := z0
 obtain ⟨d, δ1, e1, e2⟩ := Zb e
 have := Ze e2
 cases this
 exact ⟨δ, Hs, M, d, _, g, s, e1, fun v H' Hs' m M' g' st r s' => q v H' Hs' m M' g' st r s'⟩
theorem seq2 {K : Fg} {ca cb : M Op} {σ : St} {H Hs : Hp} {M : Bud} {δ δ1 δ2 : List D} {p q : Op} {R : V -> V -> Hp -> Prop} (g : Good H Hs M) (s : RepS K H Hs σ δ M) (e1 : ca δ = .ok (p, δ1)) (e2 : cb δ1 = .ok (q, δ2))
 (h : ∀ (x y : V) (H2 Hs2 : Hp) (m1 m2 M2 : Bud), Good H2 Hs2 (fun b => (m1 b + m2 b) + M2 b) -> Stp H Hs M H2 Hs2 (fun b => (m1 b + m2 b) + M2 b) -> RepP K H2 Hs2 σ x p m1 -> RepP K H2 Hs2 σ y q m2 -> RepS K H2 Hs2 σ δ2 M2 -> R x y H2) :
 tP K ca σ H fun x H1 => tP K cb σ H1 fun y H2 => R x y H2 := by
 refine ⟨δ, Hs, M, p, δ1, g, s, e1, fun x H1 Hs1 m1 M1 g1 st1 r1 s1 => ⟨δ1, Hs1, M1, q, δ2, g1.re, s1, e2, fun y H2 Hs2 m2 M2 g2 st2 r2 s2 => ?_⟩⟩
 obtain ⟨G, S, k⟩ := Zm g g1 st1 g2 st2
 have le : ∀ b, m1 b + (m2 b + M2 b) <= 1 := G.le
 exact h x y H2 Hs2 m1 m2 M2 G.re (S.drop (fun b => by omega) le) (r1.frame st2.grow k) r2 s2
theorem Zhu {K : Fg} {σ : St} {H Hs : Hp} {m1 m2 M : Bud} {δ δ1 δ2 : List D} {p q : Op} {x y : V} {w1 w2 : W} (g : Good H Hs (fun b => (m1 b + m2 b) + M b)) (s : RepS K H Hs σ δ M) (r1 : RepP K H Hs σ x p m1) (r2 : RepP K H Hs σ y q m2)
 (e1 : view p δ = .ok (w1, δ1)) (e2 : view q δ1 = .ok (w2, δ2)) : ∃ Hs' M', Good H Hs' (fun b => (m1 b + m2 b) + M' b) /\ Stp H Hs (fun b => (m1 b + m2 b) + M b) H Hs' (fun b => (m1 b + m2 b) + M' b) /\ View K H Hs' x w1 m1 /\ View K H Hs' y w2 m2 /\ RepS K H Hs' σ δ2 M' := by
 obtain ⟨Hs1, M1, g1, st1, v1, s1⟩ := Za1 (B := fun b => m1 b + m2 b) g s r1 e1
 obtain ⟨Hs2, M2, g2, st2, v2, s2⟩ := Za1 (B := fun b => m1 b + m2 b) g1 s1 (r2.frame st1.grow fun _ _ _ => rfl) e2
 refine ⟨Hs2, M2, g2, ?_, v1.frame st2.grow, v2, s2⟩
 have z := Zm (m1 := fun _ => 0) g (g1.re fun b => by simp) (st1.drop (fun b => by simp) g1.le) g2 st2
 exact z.2.1.drop (fun b => by simp) z.1.le
inductive r2W (K : Fg) (f : W -> W -> Option D) (x y : V) (H : Hp) (Q : VK) : Prop
 | mk (Hs : Hp) (w1 w2 : W) (m1 m2 : Bud) (d : D) (h0 : Same Hs H) (h1 : (∀ b, m1 b + m2 b <= 1)) (h2 : (∀ b, m1 b + m2 b = 1 -> H b ≠ none)) (h3 : View K H Hs x w1 m1) (h4 : View K H Hs y w2 m2) (h5 : f w1 w2 = some d) (h6 : Outs K H Hs (fun b => m1 b + m2 b) d Q) : r2W K f x y H Q
theorem op2 {K : Fg} {ca cb : M Op} {f : W -> W -> Option D} {σ : St} {H : Hp} {Q : VK} (h : tM K (ca.bnd fun p => cb.bnd fun q => (view p).bnd fun x => (view q).bnd fun y => lift (f x y)) σ H Q) : tOp (r2W K f) (tP K ca) (tP K cb) σ H Q := by
 obtain ⟨δ, Hs, M, d, δ', g, s, e, q⟩ := h
 obtain ⟨p, δ1, e1, e⟩ := Zb e
 obtain ⟨p2, δ2, e2, e⟩ := Zb e
 obtain ⟨w1, δ3, e3, e⟩ := Zb e
 obtain ⟨w2, δ4, e4, e⟩ := Zb e
 obtain ⟨e5, rfl⟩ := ZL e
 refine seq2 g s e1 e2 fun x y H2 Hs2 m1 m2 M2 g2 st2 r1 r2 s2 => ?_
 obtain ⟨Hs3, M3, g3, st3, v1, v2, s3⟩ := Zhu g2 s2 r1 r2 e3 e4
 have z := Zm (m1 := fun _ => 0) g (g2.re fun b => by simp) (st2.drop (fun b => by simp) g2.le) g3 st3
 have st : Stp H Hs M H2 Hs3 (fun b => (m1 b + m2 b) + M3 b) := z.2.1.drop (fun b => by simp) z.1.le
 exact ⟨Hs3, w1, w2, m1, m2, d, g3.sub, fun b => by have : (m1 b + m2 b) + M3 b <= 1 := g3.le b; omega, fun b hb => g3.has b (by have : (m1 b + m2 b) + M3 b <= 1 := g3.le b; show (m1 b + m2 b) + M3 b = 1; omega), v1, v2, e5, Zba st g3 s3 q⟩
theorem Zmv {op : Operator} {ca cb : M Op} (ho : OpR X (binaryOp op) (r2W X.K (binW op))) (ha : PE X a (tP X.K ca)) (hb : PE X b (tP X.K cb)) :
 PE X (.BinOp a op b pos) (tM X.K (ca.bnd fun p => cb.bnd fun q => (view p).bnd fun x => (view q).bnd fun y => lift (binW op x y))) := PE.imp (ZnR ho ha hb) fun σ H Q h => op2 h
theorem Zjq : OpR X (binaryOp .FloorDiv) (rI (fun _ j => 0 < j /\ j < 18446744073709551616) fun i j => .int (i / j)) := opI fun i j _ _ _ _ _ hc q => by
 have h1 : (0 : Int) < j := hc.1
 have h2 : j < 18446744073709551616 := hc.2
 refine PyProof.Rows.floordiv_int (by omega) (by rw [Int.fdiv_eq_ediv_of_nonneg i (by omega)]; exact q) (.inl (PyProof.noPylong_of_log2 ?_))
 by_cases h0 : j.natAbs = 0
 . rw [h0]; decide +kernel
 . have : j.natAbs.log2 < 64 := (Nat.log2_lt h0).mpr (by omega)
   omega
theorem ZcF {K : Fg} {H Hs : Hp} : ∀ {ds : List D} {vs : List V} {m : Bud} {is : List Int}, RepL K H Hs vs ds m -> Za9 ds = some is -> vs = is.map V.int
 | [], _, _, is, .nil _, h => by simp only [Za9, Option.some.injEq] at h; subst h; rfl
 | d :: ds, _, _, is, .cons x y _, h => by
  unfold Za9 at h
  split at h
  . rename_i hh; cases hh
  . rename_i i r hh
    injection hh with h1 h2
    subst h1 h2
    (simp only [Option.map_eq_some_iff] at h)
    obtain ⟨js, h, rfl⟩ := h
    cases x
    rw [ZcF y h]
    rfl
  . cases h
termination_by structural a => a
theorem ZcG {K : Fg} {H Hs : Hp} : ∀ (l : List Int), RepL K H Hs (l.map V.int) (l.map fun i => D.sc (.int i)) (fun _ => 0)
 | [] => .nil _
 | i :: l => .cons (m1 := fun _ => 0) (m2 := fun _ => 0) (.sc _ _) (ZcG l) fun b => by simp
theorem Zjr {K : Fg} {H Hs : Hp} (k : Nat) (is : List Int) : RepL K H Hs (List.replicate k (is.map V.int)).flatten ((List.replicate k is).flatten.map fun i => D.sc (.int i)) (fun _ => 0) := by
 have z := ZcG (K := K) (H := H) (Hs := Hs) (List.replicate k is).flatten
 rw [List.map_flatten, List.map_replicate] at z
 exact z
theorem Zmw (op : Operator) : OpR X (binaryOp op) (r2W X.K (binW op)) := by
 intro pins s σ H x y v u Q I rx ry h
 obtain ⟨Hs, w1, w2, m1, m2, d, hs, h1, h2, v1, v2, e, o⟩ := h
 unfold binW at e
 split at e
 . cases e; cases v1; cases v2; exact ZlR pins s σ H _ _ v u Q I rx ry ⟨_, _, rfl, rfl, o.sc⟩
 . cases e; cases v1; cases v2; exact ZlS pins s σ H _ _ v u Q I rx ry ⟨_, _, rfl, rfl, o.sc⟩
 . split at e
   . rename_i hc; cases e; cases v1; cases v2; exact ZlT pins s σ H _ _ v u Q I rx ry ⟨_, _, rfl, rfl, hc, o.sc⟩
   . cases e
 . split at e
   . rename_i hc; cases e; cases v1; cases v2; exact Zjq pins s σ H _ _ v u Q I rx ry ⟨_, _, rfl, rfl, hc, o.sc⟩
   . cases e
 . split at e
   . rename_i hc; cases e; cases v1; cases v2; exact ZlU pins s σ H _ _ v u Q I rx ry ⟨_, _, rfl, rfl, hc, o.sc⟩
   . cases e
 . split at e
   . rename_i hc; cases e; cases v1; cases v2; exact ZlV pins s σ H _ _ v u Q I rx ry ⟨_, _, rfl, rfl, hc, o.sc⟩
   . cases e
 . split at e
   . rename_i hc; cases e; cases v1; cases v2; exact Zha pins s σ H _ _ v u Q I rx ry ⟨_, _, rfl, rfl, hc, o.sc⟩
   . cases e
 . unfold newL at e
   split at e
   . rename_i hc
     cases e
     cases v1 with
     | nd n1 r1 => cases v2 with
      | nd n2 r2 =>
       have l1 := r1.len
       have l2 := r2.len
       rw [List.length_append] at hc
       exact Zmh pins s σ H _ _ v u Q I rx ry ⟨_, _, _, _, rfl, rfl, n1, n2, by omega, fun p hp => o.new h1 h2 hp (show upd H p _ p = _ from Zk) (r1.app r2)⟩
   . cases e
 . split at e
   . rename_i hc
     simp only [Option.map_eq_some_iff] at e
     obtain ⟨is, ei, rfl⟩ := e
     cases v1 with
     | nd n1 r1 =>
      cases v2
      have hl := r1.len
      have ex := ZcF r1 ei
      subst ex
      refine Zmi pins s σ H _ _ v u Q I rx ry ⟨_, _, _, rfl, rfl, n1, hc.1, hc.2.1, by rw [hl]; exact hc.2.2, fun p hp => o.new h1 h2 hp (show upd H p _ p = _ from Zk) ?_⟩
      exact (Zjr _ is).mono fun b => Nat.zero_le _
   . cases e
 . cases e
end
end T
namespace T
open PySem PySem.Spec L2
mutual
theorem Rep.den {K : Fg} {H Hs : Hp} (g : Same Hs H) : ∀ {v : V} {d : D} {m : Bud} {a : PyData}, Rep K H Hs v d m -> py d = some a -> Den K H v a
 | _, _, _, _, .sc .non _, h => by simp only [py, Option.some.injEq] at h; subst h; exact .non
 | _, _, _, _, .sc (.bl b) _, h => by simp only [py, Option.some.injEq] at h; subst h; exact .bl b
 | _, _, _, _, .sc (.int b) _, h => by simp only [py, Option.some.injEq] at h; subst h; exact .int b
 | _, _, _, _, .sc (.str b) _, h => by simp only [py, Option.some.injEq] at h; subst h; exact .str b
 | _, _, _, _, .sc (.byt b) _, h => by simp [py] at h
 | _, _, _, _, .sc (.flt b) _, h => by simp [py] at h
 | _, _, _, _, .sc (.ref b) _, h => by simp [py] at h
 | _, _, _, _, .sc (.ty b) _, h => by simp [py] at h
 | _, _, _, _, .hole v _, h => by simp [py] at h
 | _, _, _, _, .own (k := .lst) n r _, h => by
  simp only [py, Option.map_eq_some_iff] at h
  obtain ⟨x, h, rfl⟩ := h
  exact .lst (.inl (.inl n)) (RepL.den g r h)
 | _, _, _, _, .own (k := .frl) n r _, h => n.elim
 | _, _, _, _, .own (k := .tup) n r _, h => by
  simp only [py, Option.map_eq_some_iff] at h
  obtain ⟨x, h, rfl⟩ := h
  exact .tup (.inl (.inl n)) (RepL.den g r h)
 | _, _, _, _, .own (k := .ftp) n r _, h => n.elim
 | _, _, _, _, .own (k := .dic _) n r _, h => by simp [py] at h
 | _, _, _, _, .own (k := .ins _ _) n r _, h => by simp [py] at h
 | _, _, _, _, .own (k := .exc _ _ _) n r _, h => by simp [py] at h
 | _, _, _, _, .shd (k := .lst) n r, h => by
  simp only [py, Option.map_eq_some_iff] at h
  obtain ⟨x, h, rfl⟩ := h
  exact .lst (.inl (.inl (g _ _ n))) (RepL.den g r h)
 | _, _, _, _, .shd (k := .frl) n r, h => by
  simp only [py, Option.map_eq_some_iff] at h
  obtain ⟨x, h, rfl⟩ := h
  exact .lst (g.seq n) (RepL.den g r h)
 | _, _, _, _, .shd (k := .tup) n r, h => by
  simp only [py, Option.map_eq_some_iff] at h
  obtain ⟨x, h, rfl⟩ := h
  exact .tup (.inl (.inl (g _ _ n))) (RepL.den g r h)
 | _, _, _, _, .shd (k := .ftp) n r, h => by
  simp only [py, Option.map_eq_some_iff] at h
  obtain ⟨x, h, rfl⟩ := h
  exact .tup (Same.tupq' g n) (RepL.den g r h)
 | _, _, _, _, .shd (k := .dic _) n r, h => by simp [py] at h
 | _, _, _, _, .shd (k := .ins _ _) n r, h => by simp [py] at h
 | _, _, _, _, .shd (k := .exc _ _ _) n r, h => by simp [py] at h
termination_by structural _ a => a
theorem RepL.den {K : Fg} {H Hs : Hp} (g : Same Hs H) : ∀ {vs : List V} {ds : List D} {m : Bud} {as : List PyData}, RepL K H Hs vs ds m -> pyL ds = some as -> DenL K H vs as
 | _, _, _, _, .nil _, h => by simp only [pyL, Option.some.injEq] at h; subst h; exact .nil
 | _, _, _, _, .cons x y _, h => by
  simp only [pyL, Option.bind_eq_some_iff, Option.map_eq_some_iff] at h
  obtain ⟨a, h1, as, h2, rfl⟩ := h
  exact .cons (Rep.den g x h1) (RepL.den g y h2)
termination_by structural _ a => a
end
theorem View.den {K : Fg} {H Hs : Hp} (g : Same Hs H) {v : V} {w : W} {m : Bud} {a : PyData} (h : View K H Hs v w m) (e : py (toD w) = some a) : Den K H v a := by
 cases h with
 | sc v m => exact Rep.den g (.sc v m) e
 | @nd ad k vs ds m n r =>
  cases k with
  | lst =>
   simp only [toD, py, Option.map_eq_some_iff] at e
   obtain ⟨x, e, rfl⟩ := e
   exact .lst (.inl (.inl n)) (r.den g e)
  | frl =>
   simp only [toD, py, Option.map_eq_some_iff] at e
   obtain ⟨x, e, rfl⟩ := e
   exact .lst n (r.den g e)
  | tup =>
   simp only [toD, py, Option.map_eq_some_iff] at e
   obtain ⟨x, e, rfl⟩ := e
   exact .tup (.inl (.inl n)) (r.den g e)
  | ftp =>
   simp only [toD, py, Option.map_eq_some_iff] at e
   obtain ⟨x, e, rfl⟩ := e
   exact .tup n (r.den g e)
  | dic ks => simp [toD, py] at e
  | ins C fs => simp [toD, py] at e
  | exc ns fr fs => simp [toD, py] at e
section
variable {X : Cx} {e a b c : Expr} {es rest : List Expr} {pos : Pos}
theorem ZkQ {a b : PyData} {t : Bool} (h : eqPy a b = some t) : SeqAt.shaped a = true /\ SeqAt.shaped b = true /\ PyData.eqv a b = t := by
 unfold eqPy at h
 split at h
 . rename_i q
   exact ⟨q.1, q.2, Option.some.inj h⟩
 . cases h
theorem Zip {K : Fg} {H Hs : Hp} (g : Same Hs H) {x y : V} {w1 w2 : W} {m1 m2 : Bud} {t : Bool} (v1 : View K H Hs x w1 m1) (v2 : View K H Hs y w2 m2) (h : eqW w1 w2 = some t) :
 (scal x y = true /\ decide (x = y) = t) \/ ∃ d e, Den K H x d /\ Den K H y e /\ SeqAt.shaped d = true /\ SeqAt.shaped e = true /\ PyData.eqv d e = t := by
 have go : ((py (toD w1)).bind fun a => (py (toD w2)).bind fun b => eqPy a b) = some t -> ∃ d e, Den K H x d /\ Den K H y e /\ SeqAt.shaped d = true /\ SeqAt.shaped e = true /\ PyData.eqv d e = t := fun q => by
  simp only [Option.bind_eq_some_iff] at q
  obtain ⟨d, q1, e, q2, q3⟩ := q
  obtain ⟨s1, s2, s3⟩ := ZkQ q3
  exact ⟨d, e, v1.den g q1, v2.den g q2, s1, s2, s3⟩
 cases v1 with
 | sc u _ => cases v2 with
  | sc v _ =>
   have h : (if scal x y = true then some (decide (x = y)) else (py (.sc x)).bind fun a => (py (.sc y)).bind fun b => eqPy a b) = some t := h
   by_cases q : scal x y = true
   . rw [if_pos q] at h
     exact .inl ⟨q, Option.some.inj h⟩
   . rw [if_neg q] at h
     exact .inr (go h)
  | nd n r => exact .inr (go h)
 | nd n r => exact .inr (go h)
theorem Zf2 (i : Int) : ∀ is : List Int, inV (.int i) (is.map V.int) = decide (i ∈ is)
 | [] => rfl
 | j :: is => by
  have h := Zf2 i is
  unfold inV at h ⊢
  rw [List.map_cons, List.any_cons, h]
  by_cases e : j = i
  . subst e; simp [eqV]
  . have e' : ¬ i = j := fun q => e q.symm
    simp [eqV, e, e']
theorem ZeK : ∀ is : List Int, (is.map V.int).all Zb3 = true
 | [] => rfl
 | j :: is => by rw [List.map_cons, List.all_cons, ZeK is]; rfl
theorem Zjs {c : M D} {δ : List D} {r : Bool × List D} (h : Zcn c δ = .ok r) : c δ = .ok (.sc (.bl r.1), r.2) := by
 obtain ⟨d, δ1, e1, e2⟩ := Zb h
 obtain ⟨b, δ2⟩ := r
 obtain ⟨e3, rfl⟩ := ZL e2
 cases d with
 | sc v => cases v with
  | bl t => cases e3; exact e1
  | _ => cases e3
 | _ => cases e3
theorem ZkR {c : M D} {σ : St} {H : Hp} {Q : Bool -> Hp -> Prop} {K : Fg} (h : tT K (Zcn c) σ H Q) : tM K c σ H fun x H' => ∃ k, x = .bl k /\ Q k H' := by
 obtain ⟨δ, Hs, M, b, δ', g, s, e, q⟩ := h
 refine ⟨δ, Hs, M, .sc (.bl b), δ', g, s, Zjs e, fun v H' Hs' m M' g' st r s' => ?_⟩
 cases r
 exact ⟨b, rfl, q H' Hs' M' g'.re (st.drop (fun b => by omega) g'.le) s'⟩
theorem op1 {K : Fg} {ca : M Op} {f : W -> Option D} {σ : St} {H : Hp} {Q : VK} {r : V -> Hp -> VK -> Prop} (h : tM K ((ca.bnd view).bnd fun x => lift (f x)) σ H Q)
 (hr : ∀ (x : V) (H Hs : Hp) (w : W) (m : Bud) (d : D), Same Hs H -> (∀ b, m b <= 1) -> (∀ b, m b = 1 -> H b ≠ none) -> View K H Hs x w m -> f w = some d -> Outs K H Hs m d Q -> r x H Q) : tUn r (tP K ca) σ H Q := by
 obtain ⟨δ, Hs, M, d, δ', g, s, e, q⟩ := h
 obtain ⟨w, δ2, e, e5⟩ := Zb e
 obtain ⟨p, δ1, e1, e3⟩ := Zb e
 obtain ⟨e6, rfl⟩ := ZL e5
 refine ⟨δ, Hs, M, p, δ1, g, s, e1, fun x H2 Hs2 m1 M2 g2 st2 r1 s2 => ?_⟩
 obtain ⟨Hs3, M3, g3, st3, v1, s3⟩ := Za1 (B := m1) g2 s2 r1 e3
 have z := Zm (m1 := fun _ => 0) g (g2.re fun b => by simp) (st2.drop (fun b => by simp) g2.le) g3 st3
 have st : Stp H Hs M H2 Hs3 (fun b => m1 b + M3 b) := z.2.1.drop (fun b => by simp) z.1.le
 exact hr x H2 Hs3 w m1 d g3.sub (fun b => by have : m1 b + M3 b <= 1 := g3.le b; omega) (fun b hb => g3.has b (by have : m1 b + M3 b <= 1 := g3.le b; show m1 b + M3 b = 1; omega)) v1 e6 (Zba st g3 s3 q)
theorem Zea {ca : M Op} (ha : PE X a (tP X.K ca)) : PE X (.UnaryOp .USub a pos) (tM X.K ((ca.bnd view).bnd fun x => lift (negW x))) :=
 PE.imp (ZnS ZlW ha) fun σ H Q h => op1 h fun x H Hs w m d g h1 h2 v e o => by
  unfold negW at e
  split at e
  . cases e; cases v; exact ⟨_, rfl, o.sc⟩
  . cases e
theorem Zmx {K : Fg} {H Hs : Hp} {v : V} {w : W} {m : Bud} {t : Bool} (h : View K H Hs v w m) (e : truW w = some t) : TruV K v H t := by
 cases h with
 | sc v m =>
  cases v with
  | bl b => cases e; rfl
  | int i => cases e; show decide (i ≠ 0) = (i != 0); rw [Bool.eq_iff_iff]; simp
  | str x =>
   have e : (if x.length <= sizeLine then some (decide (x.length ≠ 0)) else none) = some t := e
   split at e
   . rename_i q
     cases e
     exact ⟨q, by rw [Bool.eq_iff_iff]; simp⟩
   . cases e
  | non => cases e; rfl
  | _ => cases e
 | @nd a k vs ds m n r =>
  have l : (!vs.isEmpty) = !ds.isEmpty := by
   have := r.len
   cases vs <;> cases ds <;> simp at this ⊢
  cases k with
  | lst => cases e; exact .inl ⟨vs, .inl (.inl n), by rw [l]⟩
  | frl => cases e; exact .inl ⟨vs, n, by rw [l]⟩
  | tup => cases e; exact .inr (.inl ⟨vs, .inl (.inl n), by rw [l]⟩)
  | ftp => cases e; exact .inr (.inl ⟨vs, n, by rw [l]⟩)
  | dic ks =>
   cases e
   obtain ⟨hl, n⟩ := n
   refine .inr (.inr ⟨_, n, ?_⟩)
   rw [<- l]
   cases ks <;> cases vs <;> simp at hl ⊢
  | ins C fs => cases e
  | exc ns fr fs => cases e
theorem Zas {ca : M Op} (ha : PE X e (tP X.K ca)) (he : ∀ whole, isTrue e X.env whole = (do let v <- whole; standAt e.pos; holding [v] (truthy v)) := by intro _; rfl) :
 PT X e (tT X.K (ca.bnd fun p => (view p).bnd fun w => lift (truW w))) := PT.imp (ZiX ha he) fun σ H Q h => by
 obtain ⟨δ, Hs, M, t, δ', g, s, e, q⟩ := h
 obtain ⟨p, δ1, e1, e⟩ := Zb e
 obtain ⟨w, δ2, e3, e5⟩ := Zb e
 obtain ⟨e6, rfl⟩ := ZL e5
 refine ⟨δ, Hs, M, p, δ1, g, s, e1, fun x H2 Hs2 m1 M2 g2 st2 r1 s2 => ?_⟩
 obtain ⟨Hs3, M3, g3, st3, v1, s3⟩ := Za1 (B := m1) g2 s2 r1 e3
 have z := Zm (m1 := fun _ => 0) g (g2.re fun b => by simp) (st2.drop (fun b => by simp) g2.le) g3 st3
 exact ⟨t, Zmx v1 e6, q H2 Hs3 M3 g3.re (z.2.1.drop (fun b => by simp) z.1.le) s3⟩
end
end T
namespace T
open PySem PySem.Spec L2
section
variable {X : Cx} {e a b c : Expr} {es rest : List Expr} {pos : Pos}
theorem PW.imp {t t' : TT} (h : PW X e t) (w : ∀ σ H Q, t' σ H Q -> t σ H Q) : PW X e t' := fun wh pins s σ H Q I q => h wh pins s σ H Q I (w σ H Q q)
theorem Ziq {K : Fg} {ca : M Bool} {f : Bool -> M Bool} {σ : St} {H : Hp} {Q : Bool -> Hp -> Prop} (h : tT K (ca.bnd f) σ H Q) : tT K ca σ H fun t H1 => tT K (f t) σ H1 Q := by
 obtain ⟨δ, Hs, M, b, δ', g, s, e, q⟩ := h
 obtain ⟨t, δ1, e1, e2⟩ := Zb e
 refine ⟨δ, Hs, M, t, δ1, g, s, e1, fun H1 Hs1 M1 g1 st1 s1 => ⟨δ1, Hs1, M1, b, δ', g1, s1, e2, fun H2 Hs2 M2 g2 st2 s2 => ?_⟩⟩
 have z := Zm (m1 := fun _ => 0) g (g1.re fun b => by simp) (st1.drop (fun b => by simp) g1.le) g2 st2
 exact q H2 Hs2 M2 g2 (z.2.1.drop (fun b => by simp) z.1.le) s2
theorem Zf3 {K : Fg} {t : Bool} {σ : St} {H : Hp} {Q : Bool -> Hp -> Prop} (h : tT K (M.ret t) σ H Q) : Q t H := by
 obtain ⟨δ, Hs, M, b, δ', g, s, e, q⟩ := h
 have := Ze e
 cases this
 exact q H Hs M g (Stp.refl _ _ _) s
theorem Zc4 {ca : M Bool} (ha : PT X a (tT X.K ca)) : PW X (.BoolOp .Or [a] pos) (tT X.K ca) := ZlH ha
theorem Zca {ca cb : M Bool} (ha : PT X a (tT X.K ca)) (hb : PW X (.BoolOp .Or (b :: rest) pos) (tT X.K cb)) : PW X (.BoolOp .Or (a :: b :: rest) pos) (tT X.K (ca.bnd fun t => if t then M.ret true else cb)) :=
 PW.imp (ZnI ha hb) fun σ H Q h => by
  obtain ⟨δ, Hs, M, t, δ', g, s, e, q⟩ := Ziq h
  refine ⟨δ, Hs, M, t, δ', g, s, e, fun H' Hs' M' g' st s' => ?_⟩
  have z := q H' Hs' M' g' st s'
  cases t with
  | false => exact z
  | true => exact Zf3 z
theorem Za2 {ca : M Bool} (ha : PT X a (tT X.K ca)) : PT X (.UnaryOp .Not a pos) (tT X.K (ca.bnd fun t => M.ret (!t))) :=
 PT.imp (ZlI ha) fun σ H Q h => by
  obtain ⟨δ, Hs, M, t, δ', g, s, e, q⟩ := Ziq h
  exact ⟨δ, Hs, M, t, δ', g, s, e, fun H' Hs' M' g' st s' => Zf3 (q H' Hs' M' g' st s')⟩
theorem Zir {K : Fg} {ca : M Op} {f : W -> M D} {σ : St} {H : Hp} {Q : VK} (h : tM K ((ca.bnd view).bnd f) σ H Q) : tP K ca σ H fun x H1 => ∃ (Hs : Hp) (w : W) (m : Bud), View K H1 Hs x w m /\ tM K (f w) σ H1 Q := by
 obtain ⟨δ, Hs, M, d, δ', g, s, e, q⟩ := h
 obtain ⟨w, δ2, e, e5⟩ := Zb e
 obtain ⟨p, δ1, e1, e3⟩ := Zb e
 refine ⟨δ, Hs, M, p, δ1, g, s, e1, fun x H2 Hs2 m1 M2 g2 st2 r1 s2 => ?_⟩
 obtain ⟨Hs3, M3, g3, st3, v1, s3⟩ := Za1 (B := m1) g2 s2 r1 e3
 refine ⟨Hs3, w, m1, v1, δ2, Hs3, M3, d, δ', g3.re, s3, e5, fun v H4 Hs4 m4 M4 g4 st4 r4 s4 => ?_⟩
 have z := Zm (m1 := fun _ => 0) g (g2.re fun b => by simp) (st2.drop (fun b => by simp) g2.le) g3 st3
 have st : Stp H Hs M H2 Hs3 (fun b => m1 b + M3 b) := z.2.1.drop (fun b => by simp) z.1.le
 have z := Zm (m1 := m1) (M1 := M3) g g3 st g4 st4
 exact q v H4 Hs4 m4 M4 g4 (z.2.1.drop (fun b => by omega) z.1.le) r4 s4
theorem Zis {K : Fg} {v : V} {σ : St} {H : Hp} {Q : VK} (h : tM K (M.ret (.sc v)) σ H Q) : Q v H := by
 obtain ⟨δ, Hs, M, b, δ', g, s, e, q⟩ := h
 have := Ze e
 cases this
 exact q v H Hs (fun _ => 0) M (Zax g) (stp0 _ _ _) (.sc v _) s
theorem Zeb {K : Fg} {σ : St} {H : Hp} {Q : VK} (h : tM K stk σ H Q) : False := by
 obtain ⟨δ, Hs, M, b, δ', g, s, e, q⟩ := h
 cases e
theorem Zcb {op} {ca : M D} (ha : PE X a (tM X.K ca)) : PE X (.BoolOp op [a] pos) (tM X.K ca) := ZlJ ha
theorem Zbb {ca : M Op} {cb : M D} (ha : PE X a (tP X.K ca)) (hb : PE X (.BoolOp .And (b :: rest) pos) (tM X.K cb)) : PE X (.BoolOp .And (a :: b :: rest) pos) (tM X.K ((ca.bnd view).bnd (andM cb))) :=
 PE.imp (ZlK ha hb) fun σ H Q h => by
  obtain ⟨δ, Hs, M, t, δ', g, s, e, q⟩ := Zir h
  refine ⟨δ, Hs, M, t, δ', g, s, e, fun v H' Hs' m M' g' st r s' => ?_⟩
  obtain ⟨Hs2, w, m2, v2, z⟩ := q v H' Hs' m M' g' st r s'
  cases v2 with
  | sc u _ => cases v with
   | bl t => cases t with
    | true => exact ⟨true, rfl, z⟩
    | false => exact ⟨false, rfl, Zis z⟩
   | _ => exact (Zeb z).elim
  | nd n r => exact (Zeb z).elim
theorem Zg4 {ca : M Op} (ha : PE X a (tP X.K ca)) : PE X (.UnaryOp .Not a pos) (tM X.K ((ca.bnd view).bnd fun w => lift (notW w))) :=
 PE.imp (ZlL ha) fun σ H Q h => by
  obtain ⟨δ, Hs, M, t, δ', g, s, e, q⟩ := Zir h
  refine ⟨δ, Hs, M, t, δ', g, s, e, fun v H' Hs' m M' g' st r s' => ?_⟩
  obtain ⟨Hs2, w, m2, v2, z⟩ := q v H' Hs' m M' g' st r s'
  cases v2 with
  | sc u _ => cases v with
   | bl t => exact ⟨t, rfl, Zis z⟩
   | _ => exact (Zeb z).elim
  | nd n r => exact (Zeb z).elim
theorem RepL.at {K : Fg} {H Hs : Hp} {vs : List V} {ds : List D} {m : Bud} {j : Nat} {d : D} (r : RepL K H Hs vs ds m) (e : ds[j]? = some d) : ∃ (v : V) (m1 : Bud), vs[j]? = some v /\ Rep K H Hs v d m1 /\ ∀ b, m1 b <= m b := r.sep.get e
theorem Outs.part {K : Fg} {H Hs : Hp} {m m1 : Bud} {v : V} {d : D} {Q : VK} (h : Outs K H Hs m d Q) (hm : ∀ b, m b <= 1) (hh : ∀ b, m b = 1 -> H b ≠ none) (l : ∀ b, m1 b <= m b) (r : Rep K H Hs v d m1) : Q v H :=
 h v H m1 (Same.refl _) (fun b => Nat.le_trans (l b) (hm b)) (fun b e => hh b (by have := l b; have := hm b; omega)) (fun b _ => l b) r
theorem Zit (n : Nat) (i : Int) : ixN' n i = ixN n i := rfl
theorem Zop : IxR X (r2W X.K ixW) := by
 intro value slice pins s σ H x y v u Q I rx ry h hsl
 obtain ⟨Hs, w1, w2, m1, m2, d, hs, h1, h2, v1, v2, e, o⟩ := h
 have fin : ∀ {ds : List D} {vs : List V} {i : Int}, RepL X.K H Hs vs ds m1 -> ((ixN' ds.length i).bind fun j => ds[j]?) = some d -> ∃ z, atI vs i = some z /\ Q z H := fun {ds vs i} r e => by
  simp only [Option.bind_eq_some_iff] at e
  obtain ⟨j, e1, e2⟩ := e
  obtain ⟨z, m3, e3, rz, l⟩ := r.at e2
  refine ⟨z, ?_, o.part h1 h2 (fun b => by have := l b; omega) rz⟩
  unfold atI
  rw [r.len, <- Zit, e1]
  exact e3
 unfold ixW at e
 split at e
 . cases v1 with
   | nd n r => cases v2; obtain ⟨z, e1, q⟩ := fin r e; exact Zew value slice pins s σ H _ _ v u Q I rx ry ⟨_, _, _, z, rfl, rfl, .inl (.inl n), e1, q⟩ hsl
 . cases v1 with
   | nd n r => cases v2; obtain ⟨z, e1, q⟩ := fin r e; exact Zew value slice pins s σ H _ _ v u Q I rx ry ⟨_, _, _, z, rfl, rfl, n, e1, q⟩ hsl
 . cases v1 with
   | nd n r => cases v2; obtain ⟨z, e1, q⟩ := fin r e; exact ZhV value slice pins s σ H _ _ v u Q I rx ry ⟨_, _, _, z, rfl, rfl, .inl (.inl n), e1, q⟩ hsl
 . cases v1 with
   | nd n r => cases v2; obtain ⟨z, e1, q⟩ := fin r e; exact ZhV value slice pins s σ H _ _ v u Q I rx ry ⟨_, _, _, z, rfl, rfl, n, e1, q⟩ hsl
 . split at e
   . rename_i z i hz
     cases v1; cases v2
     simp only [Option.map_eq_some_iff] at e
     obtain ⟨c, e, rfl⟩ := e
     exact Zmc value slice pins s σ H _ _ v u Q I rx ry ⟨_, _, c, rfl, rfl, hz, e, o.sc⟩ hsl
   . cases e
 . cases e
end
end T
namespace T
open PySem PySem.Spec L2
section
variable {X : Cx} {e a b c : Expr} {es rest : List Expr} {pos : Pos}
theorem tG.mono {α : Type} {K : Fg} {c : M α} {R : Hp -> Hp -> St -> α -> V -> Bud -> Prop} {σ : St} {H : Hp} {Q Q' : VK} (h : tG K c R σ H Q) (w : ∀ v H', Q v H' -> Q' v H') : tG K c R σ H Q' := by
 obtain ⟨δ, Hs, M, a, δ', g, s, e, q⟩ := h
 exact ⟨δ, Hs, M, a, δ', g, s, e, fun v H' Hs' m M' g' st r s' => w v H' (q v H' Hs' m M' g' st r s')⟩
theorem RepL.take {K : Fg} {H Hs : Hp} {vs : List V} {ds : List D} {m : Bud} (r : RepL K H Hs vs ds m) (n : Nat) : RepL K H Hs (vs.take n) (ds.take n) m := (r.sep.take n).repL
theorem RepL.drop {K : Fg} {H Hs : Hp} {vs : List V} {ds : List D} {m : Bud} (r : RepL K H Hs vs ds m) (n : Nat) : RepL K H Hs (vs.drop n) (ds.drop n) m := (r.sep.drop n).repL
def rSlW (K : Fg) : V -> Option Int -> Option Int -> Hp -> VK -> Prop := fun x lo hi H Q => ∃ (Hs : Hp) (w : W) (m : Bud) (d : D), Same Hs H /\ (∀ b, m b <= 1) /\ (∀ b, m b = 1 -> H b ≠ none) /\ View K H Hs x w m /\ slD w lo hi = some d /\ Outs K H Hs m d Q
theorem Zoq : SlR X (rSlW X.K) := by
 intro pins s σ H x v vl vu lo hi sl Q I rx hsl pl pu h
 obtain ⟨Hs, w, m, d, hs, h1, h2, v1, e, o⟩ := h
 have go : ∀ {a : Addr} {vs : List V} {ds : List D}, RepL X.K H Hs vs ds m -> d = .node .lst true (cutD ds lo hi) -> ∀ p, H p = none -> Q (.ref p) (upd H p (.lst (cutV vs lo hi))) := fun {a vs ds} r e p hp => by
  subst e
  refine o.new h1 h2 hp (vs := cutV vs lo hi) Zk ?_
  unfold cutV cutD
  rw [r.len]
  exact (r.drop _).take _
 unfold slD at e
 split at e
 . cases v1 with
   | nd n r => exact Zg2 pins s σ H _ v vl vu lo hi sl Q I rx hsl pl pu ⟨_, _, rfl, .inl (.inl n), go (a := 0) r (Option.some.inj e).symm⟩
 . cases v1 with
   | nd n r => exact Zg2 pins s σ H _ v vl vu lo hi sl Q I rx hsl pl pu ⟨_, _, rfl, n, go (a := 0) r (Option.some.inj e).symm⟩
 . split at e
   . rename_i hz
     cases e
     cases v1
     exact Zmn pins s σ H _ v vl vu lo hi sl Q I rx hsl pl pu ⟨_, rfl, hz, o.sc⟩
   . cases e
 . cases e
inductive tW (K : Fg) (c : M (Option Int)) (σ : St) (H : Hp) (Q : Option Int -> Hp -> Prop) : Prop
 | mk (δ : List D) (Hs : Hp) (M : Bud) (l : Option Int) (δ' : List D) (h0 : Good H Hs M) (h1 : RepS K H Hs σ δ M) (h2 : c δ = .ok (l, δ')) (h3 : ∀ (H' Hs' : Hp) (M' : Bud), Good H' Hs' M' -> Stp H Hs M H' Hs' M' -> RepS K H' Hs' σ δ' M' -> Q l H') : tW K c σ H Q
theorem PO.imp {o : Option Expr} {t t' : TO} (h : PO X o t) (w : ∀ σ H Q, t' σ H Q -> t σ H Q) : PO X o t' := fun pins s σ H Q I q => h pins s σ H Q I (w σ H Q q)
theorem Zec : PO X none (tW X.K (M.ret none)) := PO.imp Zk8 fun σ H Q h => by
 obtain ⟨δ, Hs, M, b, δ', g, s, e, q⟩ := h
 have := Ze e
 cases this
 exact q H Hs M g (Stp.refl _ _ _) s
theorem Zae {ca : M Op} (ha : PE X a (tP X.K ca)) : PO X (some a) (tW X.K ((ca.bnd view).bnd fun w => lift (intP w))) := PO.imp (Zk9 ha) fun σ H Q h => by
 obtain ⟨δ, Hs, M, l, δ', g, s, e, q⟩ := h
 obtain ⟨w, δ2, e, e5⟩ := Zb e
 obtain ⟨p, δ1, e1, e3⟩ := Zb e
 obtain ⟨e6, rfl⟩ := ZL e5
 refine ⟨δ, Hs, M, p, δ1, g, s, e1, fun x H2 Hs2 m1 M2 g2 st2 r1 s2 => ?_⟩
 obtain ⟨Hs3, M3, g3, st3, v1, s3⟩ := Za1 (B := m1) g2 s2 r1 e3
 have z := Zm (m1 := fun _ => 0) g (g2.re fun b => by simp) (st2.drop (fun b => by simp) g2.le) g3 st3
 have fin := q H2 Hs3 M3 g3.re (z.2.1.drop (fun b => by simp) z.1.le) s3
 cases v1 with
 | sc u _ => cases x with
  | int i => cases e6; exact ⟨i, rfl, fin⟩
  | _ => cases e6
 | nd n r => cases e6
variable {lo hi : Option Expr} {ca : M Op} {cl ch : M (Option Int)} {p2 : Pos}
theorem ZbO (ha : PE X a (tP X.K ca)) (hl : PO X lo (tW X.K cl)) (hh : PO X hi (tW X.K ch)) :
 PE X (.Subscript a (.Slice lo hi none p2) pos) (tM X.K (ca.bnd fun p => cl.bnd fun l => ch.bnd fun h => (view p).bnd fun x => lift (slD x l h))) :=
 PE.imp (Zjb Zoq ha hl hh) fun σ H Q h => by
  obtain ⟨δ, Hs, M, d, δ', g, s, e, q⟩ := h
  obtain ⟨p, δ1, e1, e⟩ := Zb e
  obtain ⟨l, δ2, e2, e⟩ := Zb e
  obtain ⟨u, δ3, e3, e⟩ := Zb e
  obtain ⟨w, δ4, e4, e⟩ := Zb e
  obtain ⟨e7, rfl⟩ := ZL e
  refine ⟨δ, Hs, M, p, δ1, g, s, e1, fun x H1 Hs1 m1 M1 g1 st1 r1 s1 => ⟨δ1, Hs1, M1, l, δ2, g1.re, s1, e2, fun H2 Hs2 M2 g2 st2 s2 => ⟨δ2, Hs2, M2, u, δ3, g2, s2, e3, fun H3 Hs3 M3 g3 st3 s3 => ?_⟩⟩⟩
  obtain ⟨G2, S2, k2⟩ := Zm g g1 st1 g2 st2
  obtain ⟨G3, S3, k3⟩ := Zm g G2 S2 g3 st3
  have r2 := RepP.frame st2.grow k2 r1
  have r3 := RepP.frame st3.grow (fun b hb hn => k3 b hb hn) r2
  obtain ⟨Hs4, M4, g4, st4, v4, s4⟩ := Za1 (B := m1) G3 s3 r3 e4
  have z := Zm (m1 := fun _ => 0) g (G3.re fun b => by simp) (S3.drop (fun b => by simp) G3.le) g4 st4
  have S4 : Stp H Hs M H3 Hs4 (fun b => m1 b + M4 b) := z.2.1.drop (fun b => by simp) z.1.le
  have le : ∀ b, m1 b + M4 b <= 1 := g4.le
  exact ⟨Hs4, w, m1, d, g4.sub, fun b => by have := le b; omega, fun b hb => g4.has b (by have := le b; show m1 b + M4 b = 1; omega), v4, e7, Zba S4 g4 s4 q⟩
theorem Zg5 {K : Fg} {H Hs : Hp} {f : Str} : ∀ {fs : List Str} {vs : List V} {ds : List D} {m : Bud} {d : D}, RepL K H Hs vs ds m -> fs.length = vs.length -> Zcm f fs ds = some d -> ∃ (v : V) (m1 : Bud), (fs.zip vs).lookup f = some v /\ Rep K H Hs v d m1 /\ ∀ b, m1 b <= m b
 | [], _, _, _, _, _, _, h => by simp [Zcm] at h
 | _ :: _, _, _, _, _, .nil _, hl, h => by simp at hl
 | g :: fs, v :: vs, d' :: ds, m, d, .cons (m1 := m1) (m2 := m2) x y c, hl, h => by
  simp only [Zcm] at h
  by_cases e : g = f
  . rw [if_pos e] at h
    cases h
    refine ⟨v, m1, ?_, x, fun b => by have := c b; omega⟩
    subst e
    simp [List.lookup]
  . rw [if_neg e] at h
    obtain ⟨v', m', h1, h2, h3⟩ := Zg5 y (by simpa using hl) h
    refine ⟨v', m', ?_, h2, fun b => by have := c b; have := h3 b; omega⟩
    rw [List.zip_cons_cons]
    have hb : (f == g) = false := beq_eq_false_iff_ne.mpr (fun q => e q.symm)
    simp only [List.lookup, hb]
    exact h1
theorem ZaA {f : Str} {ok : Addr -> Str -> Bool} (hf : ∀ C f, ok C f = true -> Cls X.K C /\ Zay X.K C f) (ha : PE X a (tP X.K ca)) (hb : attributeBase a f X.env (eval a X.env) = eval a X.env := by rfl) :
 PE X (.Attribute a f pos) (tM X.K ((ca.bnd view).bnd fun x => lift (fldW ok f x))) :=
 PE.imp (ZlY ha hb) fun σ H Q h => op1 (r := fun x H1 Q => ∃ a C dx fs v, x = .ref a /\ H1 a = some (.ins C dx fs) /\ Cls X.K C /\ Zay X.K C f /\ fs.lookup f = some v /\ Q v H1) h fun x H Hs w m d g h1 h2 v e o => by
  unfold fldW at e
  split at e
  . split at e
    . rename_i C fs ds hok
      cases v with
      | nd n r =>
       obtain ⟨hl, dx, n⟩ := n
       obtain ⟨z, m1, e1, rz, l⟩ := Zg5 r hl e
       exact ⟨_, C, dx, _, z, rfl, n, (hf C f hok).1, (hf C f hok).2, e1, o.part h1 h2 l rz⟩
    . cases e
  . cases e
theorem Zf : PA X [] (tPs X.K (M.ret [])) := PA.imp Zbd fun σ H Q h => by
 obtain ⟨δ, Hs, M, b, δ', g, s, e, q⟩ := h
 have := Ze e
 cases this
 exact q [] H Hs (fun _ => 0) M (Zax g) (stp0 _ _ _) trivial s
theorem Zd {cs : M (List Op)} (ha : PE X e (tP X.K ca)) (hr : PA X es (tPs X.K cs)) (hs : starEach (e :: es) X.env = (false, eval e X.env) :: starEach es X.env := by rfl) :
 PA X (e :: es) (tPs X.K (ca.bnd fun p => cs.bnd fun ps => M.ret (p :: ps))) := PA.imp (Zam ha hr hs) fun σ H Q h => by
 obtain ⟨δ, Hs, M, b, δ', g, s, e, q⟩ := h
 obtain ⟨p, δ1, e1, e⟩ := Zb e
 obtain ⟨ps, δ2, e2, e⟩ := Zb e
 have := Ze e
 cases this
 refine ⟨δ, Hs, M, p, δ1, g, s, e1, fun x H1 Hs1 m1 M1 g1 st1 r1 s1 => ⟨δ1, Hs1, M1, ps, _, g1.re, s1, e2, fun xs H2 Hs2 m2 M2 g2 st2 r2 s2 => ?_⟩⟩
 obtain ⟨G2, S2, k2⟩ := Zm g g1 st1 g2 st2
 exact q (x :: xs) H2 Hs2 (fun b => m1 b + m2 b) M2 (G2.re fun b => by omega) (S2.drop (fun b => by omega) G2.le) ⟨m1, m2, r1.frame st2.grow k2, r2, fun b => Nat.le_refl _⟩ s2
theorem Z7 : PA X [] (tDs X.K (M.ret [])) := PA.imp Zbd fun σ H Q h => by
 obtain ⟨δ, Hs, M, b, δ', g, s, e, q⟩ := h
 have := Ze e
 cases this
 exact q [] H Hs (fun _ => 0) M (Zax g) (stp0 _ _ _) (.nil _) s
theorem Zx {c : M D} {cs : M (List D)} (ha : PE X e (tM X.K c)) (hr : PA X es (tDs X.K cs)) (hs : starEach (e :: es) X.env = (false, eval e X.env) :: starEach es X.env := by rfl) :
 PA X (e :: es) (tDs X.K (c.bnd fun p => cs.bnd fun ps => M.ret (p :: ps))) := PA.imp (Zam ha hr hs) fun σ H Q h => by
 obtain ⟨δ, Hs, M, b, δ', g, s, e, q⟩ := h
 obtain ⟨p, δ1, e1, e⟩ := Zb e
 obtain ⟨ps, δ2, e2, e⟩ := Zb e
 have := Ze e
 cases this
 refine ⟨δ, Hs, M, p, δ1, g, s, e1, fun x H1 Hs1 m1 M1 g1 st1 r1 s1 => ⟨δ1, Hs1, M1, ps, _, g1.re, s1, e2, fun xs H2 Hs2 m2 M2 g2 st2 r2 s2 => ?_⟩⟩
 obtain ⟨G2, S2, k2⟩ := Zm g g1 st1 g2 st2
 exact q (x :: xs) H2 Hs2 (fun b => m1 b + m2 b) M2 (G2.re fun b => by omega) (S2.drop (fun b => by omega) G2.le) (.cons (r1.frame st2.grow k2) r2 fun b => Nat.le_refl _) s2
theorem Zg6 {K : Fg} {cs : M (List D)} {f : List D -> Option D} {σ : St} {H : Hp} {Q : VK} (h : tM K (cs.bnd fun ds => lift (f ds)) σ H Q) : tDs K cs σ H fun vs H1 => ∃ (Hs : Hp) (m : Bud) (ds : List D) (d : D), (∀ b, m b <= 1) /\ (∀ b, m b = 1 -> H1 b ≠ none) /\ RepL K H1 Hs vs ds m /\ f ds = some d /\ Outs K H1 Hs m d Q := by
 obtain ⟨δ, Hs, M, b, δ', g, s, e, q⟩ := h
 obtain ⟨ds, δ1, e1, e⟩ := Zb e
 obtain ⟨e2, rfl⟩ := ZL e
 refine ⟨δ, Hs, M, ds, _, g, s, e1, fun vs H1 Hs1 m1 M1 g1 st1 r1 s1 => ⟨Hs1, m1, ds, b, fun b => by have : m1 b + M1 b <= 1 := g1.le b; omega, fun b hb => g1.has b (by have : m1 b + M1 b <= 1 := g1.le b; show m1 b + M1 b = 1; omega), r1, e2, Zba st1 g1 s1 q⟩⟩
theorem Zah {cs : M (List D)} (h : PA X es (tDs X.K cs)) : PE X (.List es pos) (tM X.K (cs.bnd fun ds => lift (newL ds))) := PE.imp (ZhR h) fun σ H Q hq => by
 obtain ⟨δ, Hs, M, ds, δ', g, s, e, q⟩ := Zg6 hq
 refine ⟨δ, Hs, M, ds, δ', g, s, e, fun vs H1 Hs1 m1 M1 g1 st1 r1 s1 => ?_⟩
 obtain ⟨Hs2, m, ds, d, h1, h2, r, e, o⟩ := q vs H1 Hs1 m1 M1 g1 st1 r1 s1
 unfold newL at e
 split at e
 . rename_i hl
   cases e
   exact ⟨by rw [r.len]; exact hl, fun p hp => o.new h1 h2 hp (vs := vs) Zk r⟩
 . cases e
theorem Zmy {cs : M (List D)} {k : Nat} (h : PA X es (tDs X.K cs)) : PE X (.Tuple es k pos) (tM X.K (cs.bnd fun ds => lift (newT ds))) := PE.imp (Zma h) fun σ H Q hq => by
 obtain ⟨δ, Hs, M, ds, δ', g, s, e, q⟩ := Zg6 hq
 refine ⟨δ, Hs, M, ds, δ', g, s, e, fun vs H1 Hs1 m1 M1 g1 st1 r1 s1 => ?_⟩
 obtain ⟨Hs2, m, ds, d, h1, h2, r, e, o⟩ := q vs H1 Hs1 m1 M1 g1 st1 r1 s1
 unfold newT at e
 split at e
 . rename_i hl
   cases e
   exact ⟨by rw [r.len]; exact hl, fun p hp => o.new h1 h2 hp (vs := vs) Zk r⟩
 . cases e
end
end T
namespace T
open PySem PySem.Spec L2
def Views (K : Fg) (H Hs : Hp) : List V -> List W -> Bud -> Prop
 | [], [], _ => True
 | v :: vs, w :: ws, m => ∃ m1 m2 : Bud, View K H Hs v w m1 /\ Views K H Hs vs ws m2 /\ ∀ b, m1 b + m2 b <= m b
 | _, _, _ => False
theorem ZdE {K : Fg} {H : Hp} {σ : St} {B : Bud} : ∀ {ps : List Op} {vs : List V} {Hs : Hp} {δ δ' : List D} {M m : Bud} {ws : List W}, Good H Hs (fun b => B b + M b) -> RepS K H Hs σ δ M -> ZaW K H Hs σ vs ps m -> views ps δ = .ok (ws, δ') ->
 ∃ Hs' M', Good H Hs' (fun b => B b + M' b) /\ Stp H Hs (fun b => B b + M b) H Hs' (fun b => B b + M' b) /\ Views K H Hs' vs ws m /\ RepS K H Hs' σ δ' M'
 | [], [], Hs, δ, δ', M, m, ws, g, s, r, e => by
  have := Ze e
  cases this
  exact ⟨Hs, M, g, Stp.refl _ _ _, trivial, s⟩
 | [], _ :: _, _, _, _, _, _, _, _, _, r, _ => r.elim
 | _ :: _, [], _, _, _, _, _, _, _, _, r, _ => r.elim
 | p :: ps, v :: vs, Hs, δ, δ', M, m, ws, g, s, ⟨m1, m2, r1, r2, l⟩, e => by
  obtain ⟨w, δ1, e1, e⟩ := Zb e
  obtain ⟨ws', δ2, e2, e⟩ := Zb e
  have := Ze e
  cases this
  obtain ⟨Hs1, M1, g1, st1, v1, s1⟩ := Za1 g s r1 e1
  obtain ⟨Hs2, M2, g2, st2, v2, s2⟩ := ZdE g1 s1 (r2.frame st1.grow fun _ _ _ => rfl) e2
  have z := Zm (m1 := fun _ => 0) g (g1.re fun b => by simp) (st1.drop (fun b => by simp) g1.le) g2 st2
  exact ⟨Hs2, M2, g2, z.2.1.drop (fun b => by simp) z.1.le, ⟨m1, m2, v1.frame st2.grow, v2, l⟩, s2⟩
inductive rNW (K : Fg) (f : List W -> Option D) (vs : List V) (H : Hp) (Q : VK) : Prop
 | mk (Hs : Hp) (ws : List W) (m : Bud) (d : D) (h0 : Same Hs H) (h1 : (∀ b, m b <= 1)) (h2 : (∀ b, m b = 1 -> H b ≠ none)) (h3 : Views K H Hs vs ws m) (h4 : f ws = some d) (h5 : Outs K H Hs m d Q) : rNW K f vs H Q
theorem opN {K : Fg} {cs : M (List Op)} {f : List W -> Option D} {σ : St} {H : Hp} {Q : VK} (h : tM K (cs.bnd fun ps => (views ps).bnd fun ws => lift (f ws)) σ H Q) : tPs K cs σ H fun vs H1 => rNW K f vs H1 Q := by
 obtain ⟨δ, Hs, M, d, δ', g, s, e, q⟩ := h
 obtain ⟨ps, δ1, e1, e⟩ := Zb e
 obtain ⟨ws, δ2, e2, e⟩ := Zb e
 obtain ⟨e3, rfl⟩ := ZL e
 refine ⟨δ, Hs, M, ps, δ1, g, s, e1, fun vs H1 Hs1 m1 M1 g1 st1 r1 s1 => ?_⟩
 obtain ⟨Hs2, M2, g2, st2, v2, s2⟩ := ZdE (B := m1) g1 s1 r1 e2
 have z := Zm (m1 := fun _ => 0) g (g1.re fun b => by simp) (st1.drop (fun b => by simp) g1.le) g2 st2
 have S : Stp H Hs M H1 Hs2 (fun b => m1 b + M2 b) := z.2.1.drop (fun b => by simp) z.1.le
 have le : ∀ b, m1 b + M2 b <= 1 := g2.le
 exact ⟨Hs2, ws, m1, d, g2.sub, fun b => by have := le b; omega, fun b hb => g2.has b (by have := le b; show m1 b + M2 b = 1; omega), v2, e3, Zba S g2 s2 q⟩
theorem Views.one {K : Fg} {H Hs : Hp} {vs : List V} {w : W} {m : Bud} (h : Views K H Hs vs [w] m) : ∃ (v : V) (m1 : Bud), vs = [v] /\ View K H Hs v w m1 /\ ∀ b, m1 b <= m b := by
 cases vs with
 | nil => exact h.elim
 | cons v vs =>
  obtain ⟨m1, m2, h1, h2, l⟩ := h
  cases vs with
  | nil => exact ⟨v, m1, rfl, h1, fun b => by have := l b; omega⟩
  | cons _ _ => exact h2.elim
theorem Views.two {K : Fg} {H Hs : Hp} {vs : List V} {w w' : W} {m : Bud} (h : Views K H Hs vs [w, w'] m) : ∃ (v v' : V) (m1 m2 : Bud), vs = [v, v'] /\ View K H Hs v w m1 /\ View K H Hs v' w' m2 /\ ∀ b, m1 b + m2 b <= m b := by
 cases vs with
 | nil => exact h.elim
 | cons v vs =>
  obtain ⟨m1, m2, h1, h2, l⟩ := h
  obtain ⟨v', m3, rfl, h3, l'⟩ := Views.one h2
  exact ⟨v, v', m1, m3, rfl, h1, h3, fun b => by have := l b; have := l' b; omega⟩
section
variable {X : Cx} {e : Expr} {es : List Expr} {pos p : Pos} {x : Str} {id ty : String} {f : BF} {cs : M (List Op)}
theorem Zmz (hc : ZD X (.builtin id) (rNW X.K (bfW f))) (hg : Gl X x) (hm : X.mg x = none) (hv : bootBuiltins x = some (.builtin id)) (ha : PA X (e :: es) (tPs X.K cs)) (hn : x ≠ "__name__" := by decide) (hdb : (x == ("__debug__" : Str)) = false := by decide)
 (he : starEach (e :: es) X.env = (false, eval e X.env) :: starEach es X.env := by rfl) (hpl : (backTo pos (starEach es X.env)).any (·.1) = false := by rfl) :
 PE X (.Call (.Name x p) (e :: es) [] pos) (tM X.K (cs.bnd fun ps => (views ps).bnd fun ws => lift (bfW f ws))) := PE.imp (Zfn hc hg hm hv ha hn hdb he hpl) fun σ H Q h => opN h
theorem Zm0 (hc : ZD X (.type ty) (rNW X.K (bfW f))) (hg : Gl X x) (hm : X.mg x = none) (hv : bootBuiltins x = some (.type ty)) (ha : PA X (e :: es) (tPs X.K cs)) (hn : x ≠ "__name__" := by decide) (hdb : (x == ("__debug__" : Str)) = false := by decide)
 (he : starEach (e :: es) X.env = (false, eval e X.env) :: starEach es X.env := by rfl) (hpl : (backTo pos (starEach es X.env)).any (·.1) = false := by rfl) :
 PE X (.Call (.Name x p) (e :: es) [] pos) (tM X.K (cs.bnd fun ps => (views ps).bnd fun ws => lift (bfW f ws))) := PE.imp (ZhU hc hg hm hv ha hn hdb he hpl) fun σ H Q h => opN h
theorem ZaB : ZD X (.builtin "len") (rNW X.K (bfW .len)) := by
 intro pins s σ H xs us Q I r h
 obtain ⟨Hs, ws, m, d, hs, h1, h2, v, e, o⟩ := h
 replace e : lenB _ = _ := e
 unfold lenB at e
 split at e <;> first | (rename_i z; cases z; done) | skip
 all_goals first
  | (obtain ⟨y, m1, rfl, v, l⟩ := v.one
     cases v with
     | nd n r' =>
      have hl := r'.len
      cases e
      first
      | exact Zbe pins s σ H _ us Q I r ⟨_, _, rfl, .inl (.inl (.inl n)), by rw [hl]; exact o.sc⟩
      | exact Zbe pins s σ H _ us Q I r ⟨_, _, rfl, .inl n, by rw [hl]; exact o.sc⟩
      | exact Zbe pins s σ H _ us Q I r ⟨_, _, rfl, .inr n, by rw [hl]; exact o.sc⟩
      | exact Zbe pins s σ H _ us Q I r ⟨_, _, rfl, .inr (.inl (.inl n)), by rw [hl]; exact o.sc⟩
      | (obtain ⟨n1, n2⟩ := n
         exact Zig pins s σ H _ us Q I r ⟨_, _, rfl, n2, by rw [List.length_zip, n1, Nat.min_self, hl]; exact o.sc⟩))
  | (obtain ⟨y, m1, rfl, v, l⟩ := v.one
     split at e
     . rename_i hz
       cases e
       cases v
       exact Zfr pins s σ H _ us Q I r ⟨_, rfl, hz, o.sc⟩
     . cases e)
  | cases e
theorem Zm1 : ZD X (.type "int") (rNW X.K (bfW .int)) := by
 intro pins s σ H xs us Q I r h
 obtain ⟨Hs, ws, m, d, hs, h1, h2, v, e, o⟩ := h
 replace e : intB _ = _ := e
 unfold intB at e
 split at e <;> first | (rename_i z; cases z; done) | skip
 all_goals first
  | (obtain ⟨y, m1, rfl, v, l⟩ := v.one
     cases v
     cases e
     first
     | exact ZeA pins s σ H _ us Q I r (.inl ⟨_, rfl, o.sc⟩)
     | exact ZeA pins s σ H _ us Q I r (.inr ⟨_, rfl, o.sc⟩))
  | (obtain ⟨y, m1, rfl, v, l⟩ := v.one
     cases v
     split at e
     . rename_i n hz
       split at e
       . rename_i hl
         cases e
         exact Zfw pins s σ H _ us Q I r ⟨_, n, rfl, hz, hl, o.sc⟩
       . cases e
     . cases e)
  | cases e
theorem ZbV : ZD X (.type "list") (rNW X.K (bfW .list)) := by
 intro pins s σ H xs us Q I r h
 obtain ⟨Hs, ws, m, d, hs, h1, h2, v, e, o⟩ := h
 replace e : Zhp _ = _ := e
 unfold Zhp at e
 split at e <;> first | (rename_i z; cases z; done) | skip
 all_goals first
  | (obtain ⟨y, m1, rfl, v, l⟩ := v.one
     cases v with
     | nd n r' =>
      cases e
      have go : ∀ p, H p = none -> Q (.ref p) (upd H p (.lst _)) := fun p hp => o.new h1 h2 hp Zk (r'.mono l)
      first
      | exact Zbf pins s σ H _ us Q I r ⟨_, _, rfl, .inl (.inl (.inl n)), go⟩
      | exact Zbf pins s σ H _ us Q I r ⟨_, _, rfl, .inl n, go⟩
      | exact Zbf pins s σ H _ us Q I r ⟨_, _, rfl, .inr n, go⟩
      | exact Zbf pins s σ H _ us Q I r ⟨_, _, rfl, .inr (.inl (.inl n)), go⟩)
  | cases e
theorem Zdb {K : Fg} {H Hs : Hp} : ∀ {ds : List D} {vs : List V} {m : Bud} {is : List Bool}, RepL K H Hs vs ds m -> Zan ds = some is -> vs = is.map V.bl
 | [], _, _, is, .nil _, h => by simp only [Zan, Option.some.injEq] at h; subst h; rfl
 | d :: ds, _, _, is, .cons x y _, h => by
  unfold Zan at h
  split at h
  . rename_i hh; cases hh
  . rename_i i r hh
    injection hh with h1 h2
    subst h1 h2
    (simp only [Option.map_eq_some_iff] at h)
    obtain ⟨js, h, rfl⟩ := h
    cases x
    rw [Zdb y h]
    rfl
  . cases h
termination_by structural a => a
theorem ZeL : ∀ (is : List Int) (us : List Value), Vals (is.map V.int) us -> ∀ (i : Nat) (v : Value), us[i]? = some v -> ∃ t, v = .int (is.getD i 0) t
 | [], us, r, i, v, h => by cases r; simp at h
 | n :: is, us, r, i, v, h => by
  cases r with
  | cons r rr =>
   cases i with
   | zero =>
    simp at h
    subst h
    obtain ⟨t, rfl⟩ := r
    exact ⟨t, rfl⟩
   | succ i => exact ZeL is _ rr i v (by simpa using h)
theorem Zgk : ∀ (is : List Int), preSum (fun i => is.getD i 0) is.length = is.sum := by
 intro is
 have h : ∀ n, n <= is.length -> preSum (fun i => is.getD i 0) n = (is.take n).sum := by
  intro n
  induction n with
  | zero => intro _; simp [preSum]
  | succ n ih =>
   intro hn
   have := ih (by omega)
   show preSum (fun i => is.getD i 0) n + is.getD n 0 = _
   rw [this, PyProof.Rows.take_sum_succ is n (by omega)]
 have := h is.length (Nat.le_refl _)
 rw [List.take_length] at this
 exact this
theorem ZeZ (hc : X.calm = true) : ZD X (.builtin "sum") (fun xs H Q => ∃ (l : Addr) (is : List Int), xs = [.ref l] /\ SqL X.K H l (is.map V.int) /\ Q (.int is.sum) H) := by
 intro pins s σ H xs us Q I r h
 obtain ⟨l, is, rfl, hl, q⟩ := h
 obtain ⟨u, rfl, ru⟩ := r.one
 cases (show u = Value.ref l from ru)
 obtain ⟨its, rv, p, hz⟩ := I.list hl
 have hlt : l < s.heap.objs.size := by obtain ⟨_, e, _⟩ := p.isList; exact Heap.lt_size e
 refine call_sum_walkG (wpAny_pyIter_list p.isList ?_)
 refine ⟨s.heap.objs.size, [s.heap.objs.size, l], [s.heap.objs.size], its.toArray.size, _, _, fun i => is.getD i 0, rfl, Walks.list (A := X.A.in1) (I.ok.hd hc) _ l (Nat.ne_of_lt hlt) its.toArray,
  ⟨⟨_, Heap.get?_push_size _ rfl, rfl, rfl⟩, p.isList.push _⟩, fun b hb => ?_, fun i v hP => ?_, fun h' tk t' hk => ?_⟩
 . have e : ∀ o, (s.heap.push o).objs.size = s.heap.objs.size + 1 := fun o => by simp [Heap.push]
   rw [e]
   rcases List.mem_cons.mp hb with q | q
   . rw [q]
     exact Nat.lt_succ_self _
   . rw [List.mem_singleton.mp q]
     exact Nat.lt_succ_of_lt hlt
 . exact ZeL is its rv i v (by simpa using hP)
 . have e : preSum (fun i => is.getD i 0) its.toArray.size = is.sum := by
    rw [List.size_toArray, <- rv.length, List.length_map]
    exact Zgk is
   rw [e]
   exact ⟨.int _, H, I.kept (t' := tk) (Ze0 hk), ⟨_, rfl⟩, q⟩
theorem Zed (hc : X.calm = true) : ZD X (.builtin "sum") (rNW X.K (bfW .sum)) := by
 intro pins s σ H xs us Q I r h
 obtain ⟨Hs, ws, m, d, hs, h1, h2, v, e, o⟩ := h
 replace e : sumB _ = _ := e
 unfold sumB at e
 split at e <;> first | (rename_i z; cases z; done) | skip
 all_goals first
  | (obtain ⟨y, m1, rfl, v, l⟩ := v.one
     cases v with
     | nd n r' =>
      simp only [Option.map_eq_some_iff] at e
      obtain ⟨is, e, rfl⟩ := e
      have ei := ZcF r' e
      subst ei
      exact ZeZ hc pins s σ H _ us Q I r ⟨_, _, rfl, .inl (.inl n), o.sc⟩)
  | cases e
theorem Ziu (hc : X.calm = true) : ZD X (.builtin "all") (rNW X.K (bfW .all)) := by
 intro pins s σ H xs us Q I r h
 obtain ⟨Hs, ws, m, d, hs, h1, h2, v, e, o⟩ := h
 replace e : allB _ = _ := e
 unfold allB at e
 split at e <;> first | (rename_i z; cases z; done) | skip
 all_goals first
  | (obtain ⟨y, m1, rfl, v, l⟩ := v.one
     cases v with
     | nd n r' =>
      simp only [Option.map_eq_some_iff] at e
      obtain ⟨is, e, rfl⟩ := e
      have ei := Zdb r' e
      subst ei
      exact Zjj hc pins s σ H _ us Q I r ⟨_, _, rfl, .inl (.inl n), o.sc⟩)
  | cases e
theorem Zm2 (hc : X.calm = true) : ZD X (.builtin "any") (rNW X.K (bfW .any)) := by
 intro pins s σ H xs us Q I r h
 obtain ⟨Hs, ws, m, d, hs, h1, h2, v, e, o⟩ := h
 replace e : anyB _ = _ := e
 unfold anyB at e
 split at e <;> first | (rename_i z; cases z; done) | skip
 all_goals first
  | (obtain ⟨y, m1, rfl, v, l⟩ := v.one
     cases v with
     | nd n r' =>
      simp only [Option.map_eq_some_iff] at e
      obtain ⟨is, e, rfl⟩ := e
      have ei := Zdb r' e
      subst ei
      exact Zjk hc pins s σ H _ us Q I r ⟨_, _, rfl, .inl (.inl n), o.sc⟩)
  | cases e
theorem Zm3 (hc : X.calm = true) : ZD X (.builtin "max") (rNW X.K (bfW .max)) := by
 intro pins s σ H xs us Q I r h
 obtain ⟨Hs, ws, m, d, hs, h1, h2, v, e, o⟩ := h
 replace e : maxB _ = _ := e
 unfold maxB at e
 split at e <;> first | (rename_i z; cases z; done) | skip
 all_goals first
  | (obtain ⟨y, y', m1, m2, rfl, v, v', l⟩ := v.two
     cases v
     cases v'
     cases e
     exact ZhN hc pins s σ H _ us Q I r ⟨_, _, rfl, o.sc⟩)
  | cases e
end
end T
namespace T
open PySem PySem.Spec L2
noncomputable def kitB (a b : String) : Option Bool := if (Value.type a == Value.type b) = true then some true else if PySem.W.kitMeta b = true then (PySem.fastBuiltinMro a).map (·.contains (.type b)) else none
theorem ZbW (K : Fg) (a b : String) : PySem.W.kitOne K (.type a) (.type b) = kitB a b := rfl
noncomputable def tyS : Ty -> Option String
 | .int => some "int" | .bool => some "bool" | .str => some "str" | .list => some "list" | .tuple => some "tuple" | .dict => some "dict" | .own _ => none
theorem Zor : kitB "int" "int" = some true := by decide +kernel
theorem Zos : kitB "bool" "int" = some true := by decide +kernel
theorem Zot : kitB "str" "int" = some false := by decide +kernel
theorem Zou : kitB "NoneType" "int" = some false := by decide +kernel
theorem Zov : kitB "list" "int" = some false := by decide +kernel
theorem Zow : kitB "tuple" "int" = some false := by decide +kernel
theorem Zox : kitB "bool" "bool" = some true := by decide +kernel
theorem Zoy : kitB "int" "bool" = some false := by decide +kernel
theorem Zoz : kitB "str" "bool" = some false := by decide +kernel
theorem Zo0 : kitB "NoneType" "bool" = some false := by decide +kernel
theorem Zo1 : kitB "list" "bool" = some false := by decide +kernel
theorem Zo2 : kitB "tuple" "bool" = some false := by decide +kernel
theorem Zo3 : kitB "str" "str" = some true := by decide +kernel
theorem Zo4 : kitB "int" "str" = some false := by decide +kernel
theorem Zo5 : kitB "bool" "str" = some false := by decide +kernel
theorem Zo6 : kitB "NoneType" "str" = some false := by decide +kernel
theorem Zo7 : kitB "list" "str" = some false := by decide +kernel
theorem Zo8 : kitB "tuple" "str" = some false := by decide +kernel
theorem Zo9 : kitB "list" "list" = some true := by decide +kernel
theorem ZoA : kitB "tuple" "list" = some false := by decide +kernel
theorem ZoB : kitB "int" "list" = some false := by decide +kernel
theorem ZoC : kitB "bool" "list" = some false := by decide +kernel
theorem ZoD : kitB "str" "list" = some false := by decide +kernel
theorem ZoE : kitB "NoneType" "list" = some false := by decide +kernel
theorem ZoF : kitB "tuple" "tuple" = some true := by decide +kernel
theorem ZoG : kitB "list" "tuple" = some false := by decide +kernel
theorem ZoH : kitB "int" "tuple" = some false := by decide +kernel
theorem ZoI : kitB "bool" "tuple" = some false := by decide +kernel
theorem ZoJ : kitB "str" "tuple" = some false := by decide +kernel
theorem ZoK : kitB "NoneType" "tuple" = some false := by decide +kernel
theorem ZoL {K : Fg} {H Hs : Hp} {t : Ty} {n : String} {v : V} {w : W} {m : Bud} {b : Bool} (hn : tyS t = some n) (hv : View K H Hs v w m) (h : tyW t w = some b) : ∃ tv, TyOf K H v tv /\ PySem.W.kitOne K tv (.type n) = some b := by
 cases hv with
 | sc v _ =>
  cases t <;> cases hn <;> cases v <;> cases h <;> first
   | exact ⟨_, .int _, by rw [ZbW]; first | exact Zor | exact Zoy | exact Zo4 | exact ZoB | exact ZoH⟩
   | exact ⟨_, .bl _, by rw [ZbW]; first | exact Zos | exact Zox | exact Zo5 | exact ZoC | exact ZoI⟩
   | exact ⟨_, .str _, by rw [ZbW]; first | exact Zot | exact Zoz | exact Zo3 | exact ZoD | exact ZoJ⟩
   | exact ⟨_, .non, by rw [ZbW]; first | exact Zou | exact Zo0 | exact Zo6 | exact ZoE | exact ZoK⟩
 | @nd a k vs ds m n r =>
  cases t <;> cases hn <;> cases k <;> cases h <;> first
   | exact ⟨_, .lst n, by rw [ZbW]; first | exact Zov | exact Zo1 | exact Zo7 | exact Zo9 | exact ZoG⟩
   | exact ⟨_, .tup n, by rw [ZbW]; first | exact Zow | exact Zo2 | exact Zo8 | exact ZoA | exact ZoF⟩
section
variable {X : Cx} {a e c : Expr} {es : List Expr} {pos p : Pos} {x : Str} {n : String} {ca : M Op}
theorem Zm4 {t : Ty} (hn : tyS t = some n) (hg : Gl X "isinstance") (hm : X.mg "isinstance" = none) (ha : PE X a (tP X.K ca)) (hc : PE X c (tC (.ty n))) (hs : starEach [a, c] X.env = [(false, eval a X.env), (false, eval c X.env)] := by rfl)
 (hs1 : starEach [c] X.env = [(false, eval c X.env)] := by rfl) :
 PE X (.Call (.Name "isinstance" p) [a, c] [] pos) (tM X.K ((ca.bnd fun p => (M.ret ([] : List Op)).bnd fun ps => M.ret (p :: ps)).bnd fun ps => (views ps).bnd fun ws => lift (bfW (.isi t) ws))) :=
 PE.imp (Zfn (Zji (.ty n) (.type n) rfl fun u h => h) hg hm Zfx (Zam ha (Zam hc Zbd (by rw [hs1]; rfl)) (by rw [hs, hs1])) (by decide) (by decide) (by rw [hs, hs1]) (by rw [hs1]; rfl)) fun σ H Q h => by
  have h2 : tM X.K ((ca.bnd view).bnd fun w => lift (bfW (.isi t) [w])) σ H Q := by
   obtain ⟨δ, Hs, M, d, δ', g, s, e, q⟩ := h
   refine ⟨δ, Hs, M, d, δ', g, s, ?_, q⟩
   obtain ⟨ps, δ1, e1, e⟩ := Zb e
   obtain ⟨pp, δ2, e2, e3⟩ := Zb e1
   obtain ⟨z, δ3, e4, e5⟩ := Zb e3
   have := Ze e4
   cases this
   have := Ze e5
   cases this
   obtain ⟨ws, δ4, e6, e⟩ := Zb e
   obtain ⟨w, δ5, e7, e8⟩ := Zb e6
   obtain ⟨z, δ6, e9, e10⟩ := Zb e8
   have := Ze e9
   cases this
   have := Ze e10
   cases this
   show T.M.bnd (ca.bnd view) _ δ = _
   unfold T.M.bnd
   rw [e2]
   dsimp only
   rw [e7]
   exact e
  refine op1 (r := fun x H1 Q => ∃ x' t' b, [x, V.ty n] = [x', V.ty n] /\ TyOf X.K H1 x' t' /\ PySem.W.kitOne X.K t' (.type n) = some b /\ Q (.bl b) H1) h2 fun x H Hs w m d g h1 h2 v e o => ?_
  simp only [bfW, isiB, Option.map_eq_some_iff] at e
  obtain ⟨b, e, rfl⟩ := e
  obtain ⟨tv, h3, h4⟩ := ZoL hn v e
  exact ⟨x, tv, b, rfl, h3, h4, o.sc⟩
end
inductive spF (K : Fg) (F : List D -> Rs (D × List D)) (vs : List V) (H : Hp) (Q : VK) (E : XK) : Prop
 | mk (ds : List D) (Hs : Hp) (m : Bud) (d : D) (ds' : List D) (h0 : Good H Hs m) (h1 : RepL K H Hs vs ds m) (h2 : F ds = .ok (d, ds')) (h3 : ∀ (v : V) (H' Hs' : Hp) (m1 m' : Bud), Good H' Hs' (fun b => m1 b + m' b) -> Stp H Hs m H' Hs' (fun b => m1 b + m' b) -> Rep K H' Hs' v d m1 -> RepL K H' Hs' vs ds' m' -> Q v H') : spF K F vs H Q E
theorem ZkS {K : Fg} {H Hs : Hp} {σ : St} {B m M : Bud} {δ δ' : List D} {lend : Bool} {p : Op} {v : V} {d : D} (g : Good H Hs (fun b => B b + (m b + M b))) (s : RepS K H Hs σ δ M) (r : RepP K H Hs σ v p m) (e : ZaK lend p δ = .ok (d, δ')) :
 ∃ Hs' m' M', Good H Hs' (fun b => B b + (m' b + M' b)) /\ Stp H Hs (fun b => B b + (m b + M b)) H Hs' (fun b => B b + (m' b + M' b)) /\ Rep K H Hs' v d m' /\ RepS K H Hs' σ δ' M' /\ ∀ b, m' b + M' b <= m b + M b := by
 cases p with
 | tmp d' =>
  have := Ze e
  cases this
  exact ⟨Hs, m, M, g, Stp.refl _ _ _, r, s, fun b => Nat.le_refl _⟩
 | late i =>
  have r : σ[i]? = some (some v) := r
  have same : ∀ {d : D}, δ[i]? = some d -> d ≠ .hole -> (∀ m1, Rep K H Hs v d m1 -> Rep K H Hs v d (fun _ => 0)) -> ∃ Hs' m' M', Good H Hs' (fun b => B b + (m' b + M' b)) /\ Stp H Hs (fun b => B b + (m b + M b)) H Hs' (fun b => B b + (m' b + M' b)) /\ Rep K H Hs' v d m' /\ RepS K H Hs' σ δ M' /\ ∀ b, m' b + M' b <= m b + M b := fun {d} hi hn hz => by
   obtain ⟨v', m1, m2, e1, q, l, f⟩ := s.slot hi hn
   rw [r] at e1
   cases e1
   exact ⟨Hs, fun _ => 0, M, g.re fun b => by (try simp); (try omega), (Stp.refl H Hs _).drop (fun b => by (try simp); (try omega)) g.le, hz _ q, s, fun b => by (try simp); (try omega)⟩
  unfold ZaK at e
  dsimp only at e
  split at e
  . rename_i u hi
    cases e
    exact same hi (by simp) fun m1 q => by cases q; exact .sc _ _
  . rename_i k ds hi
    cases e
    exact same hi (by simp) fun m1 q => by cases q with | shd n q => exact .shd n q
  . rename_i k ds hi
    obtain ⟨v', m1, m2, e1, q, l, f⟩ := s.slot hi (by simp)
    rw [r] at e1
    cases e1
    split at e
    . cases e
      refine ⟨Hs, m1, m2, g.re fun b => by have := l b; omega, (Stp.refl H Hs _).drop (fun b => by have := l b; omega) g.le, q, ?_, fun b => by have := l b; omega⟩
      have z := f H Hs (some v) .hole (fun _ => 0) (Same.refl _) (fun _ _ _ => rfl) (.inl rfl)
      rw [ZB r] at z
      exact z.mono fun b => by simp
    . cases e
      have g2 : Good H Hs (fun b => m1 b + (B b + m2 b)) := g.re fun b => by have := l b; omega
      have hsame := ZaY g2 (m := m1) fun b => by omega
      have r2 := Rep.share hsame (Zc3 (H := H) (Hs := Hs) (m := m1)) q
      have st := Stp.share g2
      refine ⟨shH H Hs m1, fun _ => 0, m2, g2.share.re fun b => by simp, ⟨fun b o h _ => h, fun b h => ?_, st.grow, fun b h h' => ?_, fun b h => h⟩, r2, ?_, fun b => by have := l b; simp; omega⟩
      . have h : B b + (0 + m2 b) = 1 := h
        have l0 : B b + (m b + M b) <= 1 := g.le b
        have := l b
        left
        show B b + (m b + M b) = 1
        omega
      . rcases st.shr b h h' with z | z
        . have z : m1 b + (B b + m2 b) = 1 := z
          have l0 : B b + (m b + M b) <= 1 := g.le b
          have := l b
          left
          show B b + (m b + M b) = 1
          omega
        . exact .inr z
      . have z := f H (shH H Hs m1) (some v) (.node k false (shrL ds)) (fun _ => 0) hsame (fun _ _ _ => rfl) (.inr ⟨v, rfl, r2⟩)
        rw [ZB r] at z
        exact z.mono fun b => by simp
  . cases e
theorem ZdF {K : Fg} {H : Hp} {σ : St} {lend : Bool} : ∀ {ps : List Op} {vs : List V} {Hs : Hp} {δ δ' : List D} {B M m : Bud} {ds : List D}, Good H Hs (fun b => B b + (m b + M b)) -> RepS K H Hs σ δ M -> ZaW K H Hs σ vs ps m -> Za0 lend ps δ = .ok (ds, δ') ->
 ∃ Hs' m' M', Good H Hs' (fun b => B b + (m' b + M' b)) /\ Stp H Hs (fun b => B b + (m b + M b)) H Hs' (fun b => B b + (m' b + M' b)) /\ RepL K H Hs' vs ds m' /\ RepS K H Hs' σ δ' M'
 | [], [], Hs, δ, δ', B, M, m, ds, g, s, r, e => by
  have := Ze e
  cases this
  exact ⟨Hs, m, M, g, Stp.refl _ _ _, .nil _, s⟩
 | [], _ :: _, _, _, _, _, _, _, _, _, _, r, _ => r.elim
 | _ :: _, [], _, _, _, _, _, _, _, _, _, r, _ => r.elim
 | p :: ps, v :: vs, Hs, δ, δ', B, M, m, ds, g, s, ⟨n1, n2, r1, r2, l⟩, e => by
  obtain ⟨d, δ1, e1, e⟩ := Zb e
  obtain ⟨ds', δ2, e2, e⟩ := Zb e
  have := Ze e
  cases this
  have g0 : Good H Hs (fun b => (B b + n2 b) + (n1 b + M b)) := g.re fun b => by have := l b; omega
  obtain ⟨Hs1, m1, M1, g1, st1, q1, s1, l1⟩ := ZkS g0 s r1 e1
  have g1' : Good H Hs1 (fun b => (B b + m1 b) + (n2 b + M1 b)) := g1.re fun b => by omega
  obtain ⟨Hs2, m2, M2, g2, st2, q2, s2⟩ := ZdF g1' s1 (r2.frame st1.grow fun _ _ _ => rfl) e2
  have S0 : Stp H Hs (fun b => B b + (m b + M b)) H Hs1 (fun b => (B b + m1 b) + (n2 b + M1 b)) := by
   refine ⟨fun b o h _ => h, fun b h => ?_, st1.grow, fun b h h' => ?_, fun b h => h⟩
   . have h : (B b + m1 b) + (n2 b + M1 b) = 1 := h
     rcases st1.own b (show (B b + n2 b) + (m1 b + M1 b) = 1 by omega) with z | z
     . have z : (B b + n2 b) + (n1 b + M b) = 1 := z
       have l0 : B b + (m b + M b) <= 1 := g.le b
       have := l b
       left
       show B b + (m b + M b) = 1
       omega
     . exact .inr z
   . rcases st1.shr b h h' with z | z
     . have z : (B b + n2 b) + (n1 b + M b) = 1 := z
       have l0 : B b + (m b + M b) <= 1 := g.le b
       have := l b
       left
       show B b + (m b + M b) = 1
       omega
     . exact .inr z
  have z := Zm (m1 := fun _ => 0) g (g1'.re fun b => by simp) (S0.drop (fun b => by simp) g1'.le) g2 st2
  have S : Stp H Hs (fun b => B b + (m b + M b)) H Hs2 (fun b => (B b + m1 b) + (m2 b + M2 b)) := z.2.1.drop (fun b => by simp) z.1.le
  exact ⟨Hs2, fun b => m1 b + m2 b, M2, g2.re fun b => by dsimp only; omega, S.drop (fun b => by dsimp only; omega) g2.le, .cons (q1.frame st2.grow fun _ _ _ => rfl) q2 fun b => Nat.le_refl _, s2⟩
theorem ZdG {K : Fg} {H Hs : Hp} {σ : St} : ∀ {ps : List Op} {vs : List V} {δ δ' : List D} {M m : Bud} {ds : List D} {u : Unit}, RepS K H Hs σ δ M -> RepL K H Hs vs ds m -> (∀ i v, (.late i, v) ∈ ps.zip vs -> σ[i]? = some (some v)) -> ZU ps ds δ = .ok (u, δ') -> RepS K H Hs σ δ' (fun b => m b + M b)
 | [], vs, δ, δ', M, m, ds, u, s, r, hl, e => by
  have := Ze (show T.M.ret () δ = Rs.ok (u, δ') by unfold ZU at e; exact e)
  cases this
  exact s.mono fun b => by omega
 | p :: ps, [], δ, δ', M, m, ds, u, s, r, hl, e => by
  cases r
  have := Ze (show T.M.ret () δ = Rs.ok (u, δ') by unfold ZU at e; exact e)
  cases this
  exact s.mono fun b => by omega
 | p :: ps, v :: vs, δ, δ', M, m, ds, u, s, r, hl, e => by
  cases r with
  | @cons _ d _ ds' m1 m2 _ x y l =>
   unfold ZU at e
   obtain ⟨_, δ1, e1, e2⟩ := Zb e
   have hl' : ∀ i v, (.late i, v) ∈ ps.zip vs -> σ[i]? = some (some v) := fun i v h => hl i v (by rw [List.zip_cons_cons]; exact List.mem_cons_of_mem _ h)
   have go : ∀ {M1 : Bud}, RepS K H Hs σ δ1 M1 -> (∀ b, M1 b <= m1 b + M b) -> RepS K H Hs σ δ' (fun b => m b + M b) := fun {M1} s1 l1 =>
    (ZdG s1 y hl' e2).mono fun b => by have := l b; have := l1 b; omega
   cases p with
   | tmp d' =>
    have := Ze e1
    cases this
    exact go s fun b => by omega
   | late i =>
    have hi := hl i v (by rw [List.zip_cons_cons]; exact List.mem_cons_self)
    unfold ZaF at e1
    dsimp only at e1
    split at e1
    . rename_i hh
      cases e1
      obtain ⟨o, n1, n2, q1, q2, q3, f⟩ := s.focus hh
      have z := f (RepO K H Hs) (some v) d m1 (fun a d m' _ q => q) (.inr ⟨v, rfl, x⟩)
      rw [ZB hi] at z
      exact go z fun b => by have := q3 b; omega
    . cases e1
      exact go s fun b => by omega
theorem lates {K : Fg} {H Hs : Hp} {σ : St} : ∀ {ps : List Op} {vs : List V} {m : Bud}, ZaW K H Hs σ vs ps m -> ∀ i v, (.late i, v) ∈ ps.zip vs -> σ[i]? = some (some v)
 | [], [], _, _, i, v, h => by simp at h
 | [], _ :: _, _, r, _, _, _ => r.elim
 | _ :: _, [], _, r, _, _, _ => r.elim
 | p :: ps, w :: vs, _, ⟨m1, m2, r1, r2, _⟩, i, v, h => by
  rw [List.zip_cons_cons] at h
  rcases List.mem_cons.mp h with e | e
  . injection e with e1 e2
    subst e1 e2
    exact r1
  . exact lates r2 i v e
theorem Zf4 {K : Fg} {fi : FI} {σ : St} {H H1 Hs Hs1 : Hp} {M m1 M1 : Bud} {δ1 δ' : List D} {d : D} {ps : List Op} {vs : List V} {Q : VK} {E : XK} (g : Good H Hs M) (g1 : Good H1 Hs1 (fun b => m1 b + M1 b)) (st1 : Stp H Hs M H1 Hs1 (fun b => m1 b + M1 b))
 (r1 : ZaW K H1 Hs1 σ vs ps m1) (s1 : RepS K H1 Hs1 σ δ1 M1) (e : ZaL fi ps δ1 = .ok (d, δ'))
 (q : ∀ (v : V) (H' Hs' : Hp) (m M' : Bud), Good H' Hs' (fun b => m b + M' b) -> Stp H Hs M H' Hs' (fun b => m b + M' b) -> Rep K H' Hs' v d m -> RepS K H' Hs' σ δ' M' -> Q v H') : spF K fi.run vs H1 Q E := by
 unfold ZaL at e
 obtain ⟨ds, δ2, e2, e⟩ := Zb e
 cases hF : fi.run ds with
 | ok r =>
  obtain ⟨d', ds'⟩ := r
  rw [hF] at e
  dsimp only at e
  obtain ⟨u, δ3, e3, e⟩ := Zb e
  have := Ze e
  cases this
  obtain ⟨Hs2, m2, M2, g2, st2, q2, s2⟩ := ZdF (B := fun _ => 0) (g1.re fun b => by simp) s1 r1 e2
  have z0 := Zm (m1 := fun _ => 0) g (g1.re fun b => by simp) (st1.drop (fun b => by simp) g1.le) (g2.re fun b => by simp) (M1 := fun b => m1 b + M1 b) (M2 := fun b => m2 b + M2 b) (by
   have := st2
   exact ⟨fun b o h z => this.keep b o h (by simpa using z), fun b h => by have := this.own b (by simpa using h); simpa using this, this.grow, fun b h h' => by have := this.shr b h h'; simpa using this, this.stay⟩)
  have G2 : Good H1 Hs2 (fun b => M2 b + m2 b) := g2.re fun b => by simp; omega
  have S2 : Stp H Hs M H1 Hs2 (fun b => M2 b + m2 b) := z0.2.1.drop (fun b => by simp; omega) z0.1.le
  refine ⟨ds, Hs2, m2, _, ds', G2.re fun b => by omega, q2, hF, fun v H3 Hs3 n1 n2 g3 st3 r3 r4 => ?_⟩
  obtain ⟨G, S, k⟩ := Zm g G2 S2 g3 st3
  have s3 := RepS.frame st3.grow k s2
  have fin := ZdG s3 r4 (lates r1) e3
  exact q v H3 Hs3 n1 (fun b => n2 b + M2 b) (G.re fun b => by (try dsimp only); omega) (S.drop (fun b => by (try dsimp only); omega) G.le) r3 fin
 | exc x y => rw [hF] at e; cases e
 | stuck => rw [hF] at e; cases e
theorem ZkT {K : Fg} {fi : FI} {cs : M (List Op)} {σ : St} {H : Hp} {Q : VK} {E : XK} (h : tM K (cs.bnd fun ps => ZaL fi ps) σ H Q) : tPs K cs σ H fun vs H1 => spF K fi.run vs H1 Q E := by
 obtain ⟨δ, Hs, M, d, δ', g, s, e, q⟩ := h
 obtain ⟨ps, δ1, e1, e⟩ := Zb e
 exact ⟨δ, Hs, M, ps, δ1, g, s, e1, fun vs H1 Hs1 m1 M1 g1 st1 r1 s1 => Zf4 g g1 st1 r1 s1 e q⟩
section
variable {X : Cx} {a e c : Expr} {es : List Expr} {pos p : Pos} {x : Str} {j n : Nat} {fi : FI} {ps : List Str} {cs : M (List Op)}
theorem ZoM (G : FnAt X.prog X.w X.K X.mg X.base x j ps (spF X.K fi.run)) (hr : Room n X.A) (ha : PA X (e :: es) (tPs X.K cs)) (hj : j <= n := by decide) (hg : Gl X x := by rfl) (hdb : (x == ("__debug__" : Str)) = false := by decide)
 (he : starEach (e :: es) X.env = (false, eval e X.env) :: starEach es X.env := by rfl) (hpl : (backTo pos (starEach es X.env)).any (·.1) = false := by rfl) :
 PE X (.Call (.Name x p) (e :: es) [] pos) (tM X.K (cs.bnd fun ps => ZaL fi ps)) := PE.imp (Zog G hr ha hj hg hdb he hpl) fun σ H Q h => by
 obtain ⟨δ, Hs, M, a, δ', g, s, e, q⟩ := ZkT (E := E0) h
 refine ⟨δ, Hs, M, a, δ', g, s, e, fun vs H' Hs' m M' g' st r s' => ?_⟩
 show spF X.K fi.run (vs ++ []) H' Q E0
 rw [List.append_nil]
 exact q vs H' Hs' m M' g' st r s'
end
end T
namespace T
open PySem PySem.Spec L2
theorem modL {K : Fg} {H Hs : Hp} {σ : St} {B M : Bud} {δ : List D} {i : Nat} {k : Kd} {ds : List D} (g : Good H Hs (fun b => B b + M b)) (s : RepS K H Hs σ δ M) (hi : δ[i]? = some (.node k true ds)) :
 ∃ (p : Addr) (vs : List V) (m' m2 : Bud), σ[i]? = some (some (.ref p)) /\ ZaE K H p vs k /\ RepL K H Hs vs ds m' /\ (∀ b, one p b + m' b + m2 b <= M b) /\
  ∀ (o' : HO) (k' : Kd) (vs' : List V) (ds' : List D) (n' nr : Bud) (rv : V) (r : D), (∀ b, n' b + nr b <= m' b + B b) -> ZaE K (upd H p o') p vs' k' -> RepL K H Hs vs' ds' n' -> Rep K H Hs rv r nr ->
   Good (upd H p o') Hs (fun b => nr b + (one p b + n' b + m2 b)) /\ Stp H Hs (fun b => B b + M b) (upd H p o') Hs (fun b => nr b + (one p b + n' b + m2 b)) /\ Rep K (upd H p o') Hs rv r nr /\
   RepS K (upd H p o') Hs σ (δ.set i (.node k' true ds')) (fun b => one p b + n' b + m2 b) := by
 obtain ⟨v, m1, m2, e1, q, l, f⟩ := s.slot hi (by simp)
 cases q with
 | @own p _ vs _ _ m' n r l' =>
  have le : ∀ b, one p b + m' b + m2 b <= M b := fun b => by have := l b; have := l' b; omega
  refine ⟨p, vs, m', m2, e1, n, r, le, fun o' k' vs' ds' n' nr rv rd h1 hn hr hq => ?_⟩
  have one_p : one p p = 1 := by simp [one]
  have tot : ∀ b, nr b + (one p b + n' b + m2 b) <= B b + M b := fun b => by have := le b; have := h1 b; omega
  have zp : m' p = 0 /\ B p = 0 /\ m2 p = 0 := by
   have := le p
   have := g.le p
   try dsimp only at this
   omega
  have zp2 : n' p = 0 /\ nr p = 0 := by have := h1 p; omega
  have Hp : H p ≠ none := n.at
  have eqH : ∀ b, b ≠ p -> upd H p o' b = H b := fun b hb => Zn hb
  have hs2 : Hs p = none := g.ne p (by have := le p; have := g.le p; (try dsimp only at this ⊢); omega)
  refine ⟨⟨fun b o e => ?_, fun b => ?_, fun b h => ?_, fun b h => ?_⟩, ⟨fun b o e z => ?_, fun b h => ?_, Same.refl _, fun b h h' => absurd h h', fun b h => ?_⟩, ?_, ?_⟩
  . have hb : b ≠ p := fun q => by subst q; rw [hs2] at e; cases e
    rw [eqH b hb]
    exact g.sub b o e
  . have := g.le b
    have := tot b
    (try dsimp only at *)
    omega
  . have := g.le b
    have := tot b
    exact g.ne b (by (try dsimp only at *); omega)
  . by_cases hb : b = p
    . subst hb; rw [Zk]; simp
    . rw [eqH b hb]
      have := g.le b
      have := tot b
      exact g.has b (by (try dsimp only at *); omega)
  . have hb : b ≠ p := fun q => by
     subst q
     have := le b
     have := g.le b
     (try dsimp only at *)
     omega
    rw [eqH b hb]
    exact e
  . have := g.le b
    have := tot b
    left
    (try dsimp only at *)
    omega
  . by_cases hb : b = p
    . subst hb; rw [Zk]; simp
    . rw [eqH b hb]; exact h
  . exact hq.frame (Same.refl _) fun b hb hn' => eqH b fun q => by subst q; omega
  . have r' : RepL K (upd H p o') Hs vs' ds' n' := hr.frame (Same.refl _) fun b hb hn' => eqH b fun q => by subst q; omega
    have z := f (upd H p o') Hs (some (.ref p)) (.node k' true ds') (fun b => one p b + n' b) (Same.refl _) (fun b hb hn' => eqH b fun q => by subst q; omega) (.inr ⟨_, rfl, .own hn r' fun b => Nat.le_refl _⟩)
    rw [ZB e1] at z
    exact z.mono fun b => by (try dsimp only); omega
theorem Zc5 {i : Nat} {f : Kd -> List D -> Option (D × Kd × List D)} {δ δ' : List D} {d : D} (h : modS i f δ = .ok (d, δ')) : ∃ k ds k' ds', δ[i]? = some (.node k true ds) /\ f k ds = some (d, k', ds') /\ δ' = δ.set i (.node k' true ds') := by
 unfold modS at h
 split at h
 . rename_i k ds hi
   split at h
   . rename_i r k' ds' hf
     cases h
     exact ⟨k, ds, k', ds', hi, hf, rfl⟩
   . cases h
 . cases h
section
variable {X : Cx} {o e : Expr} {es : List Expr} {cpos apos : Pos} {i : Nat} {name : Str} {id : String}
theorem Zf5 {K : Fg} {H Hs : Hp} {σ : St} {M : Bud} {δ δ' : List D} {u : Unit} (g : Good H Hs M) (s : RepS K H Hs σ δ M) (h : chkL i δ = .ok (u, δ')) : δ' = δ /\ ∃ p, σ[i]? = some (some (.ref p)) /\ tyV K "list" (.ref p) H := by
 unfold chkL at h
 split at h
 . rename_i oo ds hi
   cases h
   obtain ⟨v, m1, m2, e1, q, l, f⟩ := s.slot hi (by simp)
   refine ⟨rfl, ?_⟩
   cases q with
   | own n r _ => exact ⟨_, e1, .inl ⟨rfl, _, .inl (.inl n)⟩⟩
   | shd n r => exact ⟨_, e1, .inl ⟨rfl, _, .inl (.inl (g.sub _ _ n))⟩⟩
 . cases h
theorem Zbc {cs : M (List D)} (ho : PE X o (tVar i)) (ha : PA X [e] (tDs X.K cs))
 (hbase : attributeBase o "append" X.env (eval o X.env) = eval o X.env := by rfl)
 (hfew : ((backTo cpos (starEach [e] X.env)).all (fun x => !x.1) && (backToKw cpos (keywordEach [] X.env)).all (fun x => x.1.isSome)
  && decide ([e].length + ([] : List Keyword).length + (if ([] : List Keyword).isEmpty then 0 else 1) < 30)) = true := by rfl)
 (hline : (apos.endLine == cpos.line) = true := by rfl) (hs : starEach [e] X.env = (false, eval e X.env) :: starEach [] X.env := by rfl) (hplain : (backTo cpos (starEach [] X.env)).any (·.1) = false := by rfl) :
 PE X (.Call (.Attribute o "append" apos) [e] [] cpos) (tM X.K ((chkL i).bnd fun _ => cs.bnd fun ds => appM i ds)) :=
 PE.imp (Zhh PySem.F.plainAttrs_list PySem.F.slot_list_append PySem.F.type_list_append ZeH ho ha hbase hfew hline hs hplain) fun σ H Q h => by
  obtain ⟨δ, Hs, M, d, δ', g, s, ea, q⟩ := h
  obtain ⟨u, δ0, e0, eb⟩ := Zb ea
  obtain ⟨ds, δ1, e1, ec⟩ := Zb eb
  obtain ⟨rfl, p0, h1, h2⟩ := Zf5 g s e0
  refine ⟨_, h1, h2, δ0, Hs, M, ds, δ1, g, s, e1, fun vs H1 Hs1 m1 M1 g1 st1 r1 s1 => ?_⟩
  unfold appM at ec
  split at ec
  . rename_i x
    obtain ⟨k, ds0, k', ds', hi, hf, rfl⟩ := Zc5 ec
    unfold appD at hf
    split at hf
    . split at hf
      . rename_i hl
        cases hf
        cases r1 with
        | @cons y _ _ _ a1 a2 _ rx r2 la =>
         cases r2
         obtain ⟨p, ws, m', m2, e2, n, rl, le, fin⟩ := modL g1 s1 hi
         have e3 : some (some (V.ref p)) = some (some (V.ref p0)) := by rw [<- e2, h1]
         cases e3
         obtain ⟨G, S, R, SS⟩ := fin (.lst (ws ++ [y])) .lst (ws ++ [y]) (ds0 ++ [x]) (fun b => m' b + a1 b) (fun _ => 0) .non (.sc .non) (fun b => by have := la b; (try dsimp only); omega) Zk (rl.app (.cons rx (.nil (fun _ => 0)) fun b => by simp)) (.sc _ _)
         have z := Zm (m1 := fun _ => 0) g (g1.re fun b => by simp) (st1.drop (fun b => by simp) g1.le) G S
         exact ⟨_, ws, y, rfl, rfl, n, by rw [rl.len]; exact hl, q _ _ Hs1 _ _ G (z.2.1.drop (fun b => by simp) z.1.le) R SS⟩
      . cases hf
    . cases hf
  . cases ec
theorem Zg7 {K : Fg} {m : MM} {σ : St} {H H1 Hs1 Hs : Hp} {M m1 M1 : Bud} {δ1 δ' : List D} {d : D} {ps : List Op} {vs : List V} {p0 : Addr} {Q : VK} {rr : V -> List V -> Hp -> VK -> Prop}
 (g : Good H Hs M) (g1 : Good H1 Hs1 (fun b => m1 b + M1 b)) (st1 : Stp H Hs M H1 Hs1 (fun b => m1 b + M1 b)) (r1 : ZaW K H1 Hs1 σ vs ps m1) (s1 : RepS K H1 Hs1 σ δ1 M1) (h1 : σ[i]? = some (some (.ref p0)))
 (e : ((views ps).bnd fun ws => modS i (mutD m ws)) δ1 = .ok (d, δ'))
 (q : ∀ (v : V) (H' Hs' : Hp) (m M' : Bud), Good H' Hs' (fun b => m b + M' b) -> Stp H Hs M H' Hs' (fun b => m b + M' b) -> Rep K H' Hs' v d m -> RepS K H' Hs' σ δ' M' -> Q v H')
 (hr : ∀ (ws : List W) (Hs2 : Hp) (ds ds' : List D) (us : List V) (m2 m' : Bud), mutD m ws .lst ds = some (d, .lst, ds') -> Views K H1 Hs2 vs ws m2 -> H1 p0 = some (.lst us) -> RepL K H1 Hs2 us ds m' ->
  (∀ (us' : List V) (n' nr : Bud) (rv : V), (∀ b, n' b + nr b <= m' b + m2 b) -> RepL K H1 Hs2 us' ds' n' -> Rep K H1 Hs2 rv d nr -> Q rv (upd H1 p0 (.lst us'))) -> rr (.ref p0) vs H1 Q) : rr (.ref p0) vs H1 Q := by
 obtain ⟨ws, δ2, e2, e⟩ := Zb e
 obtain ⟨k, ds0, k', ds', hi, hf, rfl⟩ := Zc5 e
 obtain ⟨Hs2, M2, g2, st2, v2, s2⟩ := ZdE (B := m1) g1 s1 r1 e2
 obtain ⟨p, us, m', m2, e3, n, rl, le, fin⟩ := modL g2 s2 hi
 have e4 : some (some (V.ref p)) = some (some (V.ref p0)) := by rw [<- e3, h1]
 cases e4
 have hk : k = .lst /\ k' = .lst := by
  unfold mutD at hf
  split at hf
  . split at hf
    . cases hf; exact ⟨rfl, rfl⟩
    . cases hf
  . simp only [Option.map_eq_some_iff] at hf
    obtain ⟨_, _, hf⟩ := hf
    cases hf
    exact ⟨rfl, rfl⟩
  . split at hf
    . simp only [Option.bind_eq_some_iff, Option.map_eq_some_iff] at hf
      obtain ⟨_, _, _, _, hf⟩ := hf
      cases hf
      exact ⟨rfl, rfl⟩
    . cases hf
  . cases hf; exact ⟨rfl, rfl⟩
  . cases hf; exact ⟨rfl, rfl⟩
  . cases hf
 obtain ⟨rfl, rfl⟩ := hk
 refine hr ws Hs2 ds0 ds' us m1 m' hf v2 n rl fun us' n' nr rv hle rn rd => ?_
 obtain ⟨G, S, R, SS⟩ := fin (.lst us') .lst us' ds' n' nr rv d hle Zk rn rd
 have z1 := Zm (m1 := fun _ => 0) g (g1.re fun b => by simp) (st1.drop (fun b => by simp) g1.le) g2 st2
 have S2 : Stp H Hs M H1 Hs2 (fun b => m1 b + M2 b) := z1.2.1.drop (fun b => by simp) z1.1.le
 have z := Zm (m1 := fun _ => 0) g (g2.re fun b => by simp) (S2.drop (fun b => by simp) g2.le) G S
 exact q _ _ Hs2 _ _ G (z.2.1.drop (fun b => by simp) z.1.le) R SS
end
end T
namespace L2
open PySem PySem.Spec PyProof.Rows
section
variable {prog : Program} {w : World} {A : Around} {E : Value -> Shared -> Prop} {s : Shared}
theorem Zki {it a : Addr} {us : Array Value} (ne : a ≠ it) : ∀ (m j : Nat) (s : Shared) (Q : List Value -> Shared -> Prop), s.heap.IsListIter it a j -> s.heap.IsList a us -> j + m <= us.size ->
 (∀ g, Heap.IsListIter g it a (j + m) -> Heap.SameBut it s.heap g -> Q ((us.toList.drop j).take m) { s with heap := g }) -> wpAny (model prog w) A (draw (.ref it) m) Q E s
 | 0, j, s, Q, st, _, _, q => wpAny_pure (by simpa using q s.heap st (Heap.SameBut.refl ..))
 | m + 1, j, s, Q, st, hl, le, q => by
  have lt : j < us.size := by omega
  refine wpAny_bind (wpAny_pyNext_list_item st hl (x := us[j]) (by simp [lt]) fun g1 st1 k1 => ?_)
  refine wpAny_bind (wpAny_holding (Zki ne m (j + 1) _ _ st1 (hl.extBut k1.extBut ne) (by omega) fun g2 st2 k2 => wpAny_pure ?_))
  have z := q g2 (by rw [show j + (m + 1) = j + 1 + m by omega]; exact st2) (k1.trans k2)
  rw [show us.toList.drop j = us[j] :: us.toList.drop (j + 1) by simp [List.drop_eq_getElem_cons, lt], List.take_succ_cons] at z
  exact z
theorem ZkU {a : Addr} {us : Array Value} {Q : List Value -> Shared -> Prop} (hh : A.handled = none) (hl : s.heap.IsList a us)
 (q : ∀ g, Heap.ExtBut s.heap.objs.size s.heap g -> Q us.toList { s with heap := g }) : wpAny (model prog w) A (unpackItems (.ref a) us.size none) Q E s := by
 have ne : a ≠ s.heap.objs.size := Nat.ne_of_lt (by obtain ⟨o, e, _⟩ := hl; exact Heap.lt_size e)
 unfold unpackItems
 refine wpAny_bind (?_ : wpAny _ _ _ _ _ _)
 unfold notIterableAtAll
 refine wpAny_bind (wpAny_specialOf hl.typeIs slot_list_iter.lookup (wpAny_pure ?_))
 simp only [if_false, Bool.false_eq_true]
 refine wpAny_bind (wpAny_holding (wpAny_pyIter_list hl (wpAny_bind (wpAny_holding (Zki ne us.size 0 _ _ ⟨_, Heap.get?_push_size _ rfl, rfl, rfl⟩ (hl.push _) (by omega) fun g1 st1 k1 => ?_)))))
 rw [show List.take us.size (List.drop 0 us.toList) = us.toList from by rw [List.drop_zero, List.take_of_length_le (by simp)], if_neg (by simp)]
 refine wpAny_bind (wpAny_holding (wpAny_pyNext_list_end hh st1 ((hl.push _).extBut k1.extBut ne) (by simp) fun g2 k2 => ?_))
 simp only [if_false, Bool.false_eq_true, Option.isSome_none]
 exact wpAny_pure (q g2 fun b o hb e => k2 b o hb (k1.extBut b o hb (Heap.get?_push_of_some _ e)))
theorem ZkV {env : Env} {es : List Expr} {k : Nat} {p : Pos} {a : Addr} {us : Array Value} {Q : Unit -> Shared -> Prop} (hh : A.handled = none) (hl : s.heap.IsList a us) (hn : (assignEach es env).length = us.size) (hst : (assignEach es env).findIdx? (·.1) = none)
 (q : ∀ g, Heap.ExtBut s.heap.objs.size s.heap g -> wpAny (model prog w) A (assignInOrder ((assignEach es env).map (·.2)) us.toList) Q E { s with heap := g }) : wpAny (model prog w) A (assign (.Tuple es k p) env (.ref a)) Q E s := by
 rw [assign_Tuple]
 refine wpAny_bind (wpAny_standAt ?_)
 unfold unpack
 rw [hn, hst]
 exact wpAny_bind (wpAny_holding (ZkU hh hl q))
end
noncomputable def gSeq (K : Fg) (n : Nat) (t : TGs) : TG := fun v σ H Q => ∃ a xs, v = .ref a /\ (SqT K H a xs \/ SqL K H a xs) /\ xs.length = n /\ t xs σ H Q
theorem Ziv {X : Cx} {pos : Pos} {es : List Expr} {k : Nat} {t : TGs} {n : Nat} (hc : X.calm = true) (h : PGs X es t)
 (hn : (assignEach es X.env).length = n := by rfl) (hst : (assignEach es X.env).findIdx? (·.1) = none := by rfl) : PG X (.Tuple es k pos) (gSeq X.K n t) := by
 intro pins s σ H v u Q I r hw
 obtain ⟨a, xs, e1, hq, hl, hw⟩ := hw
 rcases hq with hq | hq
 . exact ZlN hc h hn hst pins s σ H v u Q I r ⟨a, xs, e1, hq, hl, hw⟩
 . subst e1
   cases r
   obtain ⟨its, rv, ht, hz⟩ := I.list hq
   refine ZkV (I.ok.hd hc) ht.isList (by simp [hn, <- hl, rv.length]) hst fun h' hx => ?_
   have I1 : Inv X pins σ H { s with heap := h' } := I.kept (t' := s.toks) fun b o e => hx b o (Nat.ne_of_lt (Heap.lt_size e)) e
   exact h pins _ σ H xs _ Q I1 (by simpa using rv) hw
end L2
namespace T
open PySem PySem.Spec L2
def Keeps (lk : Nat -> Bool) (σ σ' : St) : Prop := ∀ i, lk i = true -> σ'[i]? = σ[i]?
theorem Keeps.refl (lk : Nat -> Bool) (σ : St) : Keeps lk σ σ := fun _ _ => rfl
theorem Keeps.trans {lk : Nat -> Bool} {σ σ1 σ2 : St} (a : Keeps lk σ σ1) (b : Keeps lk σ1 σ2) : Keeps lk σ σ2 := fun i h => (b i h).trans (a i h)
def Post (K : Fg) (lk : Nat -> Bool) (E : Ends) (σ : St) (H Hs : Hp) (M : Bud) (f : Fl) (δ' : List D) : Prop := match f with
 | .nx => ∀ (σ' : St) (H' Hs' : Hp) (M' : Bud), Keeps lk σ σ' -> Good H' Hs' M' -> Stp H Hs M H' Hs' M' -> RepS K H' Hs' σ' δ' M' -> E.nx σ' H'
 | .bk => ∀ (σ' : St) (H' Hs' : Hp) (M' : Bud), Keeps lk σ σ' -> Good H' Hs' M' -> Stp H Hs M H' Hs' M' -> RepS K H' Hs' σ' δ' M' -> E.bk σ' H'
 | .ct => ∀ (σ' : St) (H' Hs' : Hp) (M' : Bud), Keeps lk σ σ' -> Good H' Hs' M' -> Stp H Hs M H' Hs' M' -> RepS K H' Hs' σ' δ' M' -> E.ct σ' H'
 | .rt d => ∀ (v : V) (σ' : St) (H' Hs' : Hp) (m M' : Bud), Keeps lk σ σ' -> Good H' Hs' (fun b => m b + M' b) -> Stp H Hs M H' Hs' (fun b => m b + M' b) -> Rep K H' Hs' v d m -> RepS K H' Hs' σ' δ' M' -> E.rt v H'
inductive tS (K : Fg) (lk : Nat -> Bool) (c : M Fl) (E : Ends) (σ : St) (H : Hp) : Prop
 | mk (δ : List D) (Hs : Hp) (M : Bud) (f : Fl) (δ' : List D) (h0 : Good H Hs M) (h1 : RepS K H Hs σ δ M) (h2 : c δ = .ok (f, δ')) (h3 : Post K lk E σ H Hs M f δ') : tS K lk c E σ H
theorem Post.ahead {K : Fg} {lk : Nat -> Bool} {E : Ends} {σ σ1 : St} {H Hs H1 Hs1 : Hp} {M M1 : Bud} {f : Fl} {δ' : List D} (k : Keeps lk σ σ1) (g : Good H Hs M) (g1 : Good H1 Hs1 M1) (st : Stp H Hs M H1 Hs1 M1) (h : Post K lk E σ H Hs M f δ') : Post K lk E σ1 H1 Hs1 M1 f δ' := by
 have tr : ∀ {H' Hs' : Hp} {M' : Bud}, Good H' Hs' M' -> Stp H1 Hs1 M1 H' Hs' M' -> Stp H Hs M H' Hs' M' := fun {H' Hs' M'} g' st' => by
  have z := Zm (m1 := fun _ => 0) g (g1.re fun b => by simp) (st.drop (fun b => by simp) g1.le) g' st'
  exact z.2.1.drop (fun b => by simp) z.1.le
 cases f with
 | nx => exact fun σ' H' Hs' M' k' g' st' r => h σ' H' Hs' M' (k.trans k') g' (tr g' st') r
 | bk => exact fun σ' H' Hs' M' k' g' st' r => h σ' H' Hs' M' (k.trans k') g' (tr g' st') r
 | ct => exact fun σ' H' Hs' M' k' g' st' r => h σ' H' Hs' M' (k.trans k') g' (tr g' st') r
 | rt d => exact fun v σ' H' Hs' m M' k' g' st' rv r => h v σ' H' Hs' m M' (k.trans k') g' (tr g' st') rv r
section
variable {X : Cx} {e a b c o : Expr} {st : Stmt} {rest : List Stmt} {pos pos' : Pos} {lk : Nat -> Bool} {i : Nat} {x : Str}
theorem PS.imp {t t' : TS} (h : PS X st t) (w : ∀ E σ H, t' E σ H -> t E σ H) : PS X st t' := fun pins s σ H E I q => h pins s σ H E I (w E σ H q)
theorem PSs.imp {t t' : TS} (h : PSs X rest t) (w : ∀ E σ H, t' E σ H -> t E σ H) : PSs X rest t' := fun pins s σ H E I q => h pins s σ H E I (w E σ H q)
theorem Zg : PSs X [] (tS X.K lk (M.ret .nx)) := PSs.imp Zkv fun E σ H h => by
 obtain ⟨δ, Hs, M, f, δ', g, s, e, q⟩ := h
 have := Ze e
 cases this
 exact q σ H Hs M (Keeps.refl _ _) g (Stp.refl _ _ _) s
theorem Zc {c r : M Fl} (h1 : PS X st (tS X.K lk c)) (h2 : PSs X rest (tS X.K lk r)) : PSs X (st :: rest) (tS X.K lk (seqL c r)) := PSs.imp (ZiT h1 h2) fun E σ H h => by
 obtain ⟨δ, Hs, M, f, δ', g, s, e, q⟩ := h
 obtain ⟨f1, δ1, e1, e2⟩ := Zb e
 refine ⟨δ, Hs, M, f1, δ1, g, s, e1, ?_⟩
 cases f1 with
 | nx => exact fun σ' H' Hs' M' k g' st' r => ⟨δ1, Hs', M', f, δ', g', r, e2, q.ahead k g g' st'⟩
 | bk => have := Ze e2; cases this; exact q
 | ct => have := Ze e2; cases this; exact q
 | rt d => have := Ze e2; cases this; exact q
theorem Za4 : PS X st (tS X.K lk stk) := fun pins s σ H E I z0 => by obtain ⟨δ, Hs, M, f, δ', g, _, e, q⟩ := z0; cases e
theorem Zao {c : M D} (he : PE X e (tM X.K c)) (hs : swapsWith e none pos.line X.env = pure false := by rfl) : PS X (.Expr e pos) (tS X.K lk (c.bnd fun _ => M.ret .nx)) := PS.imp (Zkw he hs) fun E σ H h => by
 obtain ⟨δ, Hs, M, f, δ', g, s, e, q⟩ := h
 obtain ⟨d, δ1, e1, e2⟩ := Zb e
 have := Ze e2
 cases this
 exact ⟨δ, Hs, M, d, _, g, s, e1, fun v H' Hs' m M' g' st' r s' => q σ H' Hs' M' (Keeps.refl _ _) g'.re (st'.drop (fun b => by omega) g'.le) s'⟩
theorem Zp {c : M D} (he : PE X e (tM X.K c)) : PS X (.Return (some e) pos) (tS X.K lk (c.bnd fun d => M.ret (.rt d))) := PS.imp (ZlM he) fun E σ H h => by
 obtain ⟨δ, Hs, M, f, δ', g, s, e, q⟩ := h
 obtain ⟨d, δ1, e1, e2⟩ := Zb e
 have := Ze e2
 cases this
 exact ⟨δ, Hs, M, d, _, g, s, e1, fun v H' Hs' m M' g' st' r s' => q v σ H' Hs' m M' (Keeps.refl _ _) g' st' r s'⟩
theorem ZbA (h : PE X e (tVar i)) : PE X e (tM X.K (movV i)) := PE.imp h fun σ H Q z0 => by
 obtain ⟨δ, Hs, M, d, δ', g, s, e, q⟩ := z0
 unfold movV at e
 split at e
 . rename_i u hd
   cases e
   obtain ⟨v, m1, m2, e3, r, _⟩ := s.slot hd (by simp)
   cases r
   exact ⟨u, e3, q u H Hs (fun _ => 0) M (Zax g) (stp0 H Hs M) (.sc _ _) s⟩
 . rename_i k oo ds hd
   cases e
   obtain ⟨v, m1, m2, e3, r, l, f⟩ := s.slot hd (by simp)
   have z := f H Hs (some v) .hole (fun _ => 0) (Same.refl _) (fun _ _ _ => rfl) (.inl rfl)
   rw [ZB e3] at z
   exact ⟨v, e3, q v H Hs m1 m2 (g.re fun b => by have := l b; omega) ((Stp.refl H Hs M).drop (fun b => by have := l b; omega) g.le) r (z.mono fun b => by simp)⟩
 . cases e
theorem ZO {cc : M Bool} {ca cb : M Fl} {A B : List Stmt} (hc : PT X c (tT X.K cc)) (ha : PSs X A (tS X.K lk ca)) (hb : PSs X B (tS X.K lk cb)) : PS X (.If c A B pos) (tS X.K lk (cc.bnd fun t => if t then ca else cb)) := PS.imp (ZnN hc ha hb) fun E σ H h => by
 obtain ⟨δ, Hs, M, f, δ', g, s, e, q⟩ := h
 obtain ⟨t, δ1, e1, e2⟩ := Zb e
 refine ⟨δ, Hs, M, t, δ1, g, s, e1, fun H' Hs' M' g' st' s' => ?_⟩
 cases t with
 | true => exact ⟨δ1, Hs', M', f, δ', g', s', e2, q.ahead (Keeps.refl _ _) g g' st'⟩
 | false => exact ⟨δ1, Hs', M', f, δ', g', s', e2, q.ahead (Keeps.refl _ _) g g' st'⟩
theorem Zcc {K : Fg} {H Hs : Hp} {σ : St} {δ : List D} {m M : Bud} {v : V} {d : D} (s : RepS K H Hs σ δ M) (hi : i < δ.length) (r : Rep K H Hs v d m) : RepS K H Hs (σ.set i (some v)) (δ.set i d) (fun b => m b + M b) := by
 obtain ⟨o, m1, m2, e1, q, l, f⟩ := s.focus (List.getElem?_eq_getElem hi)
 exact (f (RepO K H Hs) (some v) d m (fun a d m' _ q => q) (.inr ⟨v, rfl, r⟩)).mono fun b => by have := l b; (try dsimp only); omega
theorem Zds {δ δ' : List D} {d : D} {u : Unit} (h : asgN lk i d δ = .ok (u, δ')) : i < δ.length /\ lk i = false /\ δ' = δ.set i d := by
 unfold asgN at h
 split at h
 . rename_i hc
   simp only [Bool.and_eq_true, decide_eq_true_eq, Bool.not_eq_true'] at hc
   cases h
   exact ⟨hc.1, hc.2, rfl⟩
 . cases h
theorem Zco {σ : St} {v : Option V} (h : lk i = false) : Keeps lk σ (σ.set i v) := fun j hj => by
 have : i ≠ j := fun q => by subst q; rw [h] at hj; cases hj
 rw [List.getElem?_set_ne this]
theorem Zm5 {c : M D} (hN : X.N.Nodup) (hi : X.N[i]? = some x) (hx : Loc X.env.scope x) (he : PE X e (tM X.K c)) (hs : swapsWith e (some (.Name x pos')) pos.line X.env = pure false := by rfl)
 (hf : X.fn x = true \/ X.env.scope.names.lookup x = some .local := by first | exact .inl rfl | exact .inr rfl | assumption) :
 PS X (.Assign [.Name x pos'] e pos) (tS X.K lk (c.bnd fun d => (asgN lk i d).bnd fun _ => M.ret .nx)) := PS.imp (ZlO hN hi hx he hs hf) fun E σ H h => by
 obtain ⟨δ, Hs, M, f, δ', g, s, e, q⟩ := h
 obtain ⟨d, δ1, e1, e2⟩ := Zb e
 obtain ⟨u, δ2, e3, e4⟩ := Zb e2
 have := Ze e4
 cases this
 obtain ⟨h1, h2, rfl⟩ := Zds e3
 exact ⟨δ, Hs, M, d, δ1, g, s, e1, fun v H' Hs' m M' g' st' r s' => q _ H' Hs' _ (Zco h2) g' st' (Zcc s' h1 r)⟩
end
end T
namespace T
open PySem PySem.Spec L2
noncomputable def gNs : List Nat -> TGs
 | [] => gNil
 | i :: is => ZjU (Zck i) (gNs is)
theorem Zdt {K : Fg} {H Hs : Hp} {lk : Nat -> Bool} : ∀ {is : List Nat} {ds : List D} {vs : List V} {σ : St} {δ δ' : List D} {m M : Bud} {u : Unit} {Q : St -> Hp -> Prop}, Zbi lk is ds δ = .ok (u, δ') -> RepL K H Hs vs ds m -> RepS K H Hs σ δ M ->
 (∀ σ', Keeps lk σ σ' -> RepS K H Hs σ' δ' (fun b => m b + M b) -> Q σ' H) -> vs.length = is.length /\ gNs is vs σ H Q
 | [], [], _, σ, δ, δ', m, M, u, Q, e, .nil _, s, q => by
  have := Ze e
  cases this
  exact ⟨rfl, rfl, q σ (Keeps.refl _ _) (s.mono fun b => by omega)⟩
 | [], _ :: _, _, _, _, _, _, _, _, _, e, _, _, _ => by cases e
 | _ :: _, [], _, _, _, _, _, _, _, _, e, _, _, _ => by cases e
 | i :: is, d :: ds, _, σ, δ, δ', m, M, u, Q, e, .cons (v := v) (vs := vs) (m1 := m1) (m2 := m2) x y l, s, q => by
  obtain ⟨u1, δ1, e1, e2⟩ := Zb e
  obtain ⟨h1, h2, rfl⟩ := Zds e1
  obtain ⟨hl, hq⟩ := Zdt (Q := Q) e2 y (Zcc s h1 x) fun σ' k r => q σ' ((Zco h2).trans k) (r.mono fun b => by have := l b; (try dsimp only); omega)
  exact ⟨by rw [List.length_cons, List.length_cons, hl], v, vs, rfl, hq⟩
section
variable {X : Cx} {e o k : Expr} {es : List Expr} {pos pos' : Pos} {lk : Nat -> Bool} {i j : Nat} {is : List Nat} {x : Str}
theorem ZcH : PGs X [] (gNs []) := Zkx
theorem ok_g (hN : X.N.Nodup) (hi : X.N[i]? = some x) (hx : Loc X.env.scope x) (hr : PGs X es (gNs is)) (hf : X.fn x = true \/ X.env.scope.names.lookup x = some .local := by first | exact .inl rfl | exact .inr rfl | assumption)
 (hs : (assignEach (.Name x pos :: es) X.env).map (·.2) = assign (.Name x pos) X.env :: (assignEach es X.env).map (·.2) := by rfl) : PGs X (.Name x pos :: es) (gNs (i :: is)) := ZiU (Zgw hN hi hx hf) hr hs
theorem ZkW {K : Fg} {H Hs : Hp} {σ : St} {δ δ' : List D} {m M : Bud} {x : V} {w : W} {u : Unit} {Q : St -> Hp -> Prop} (v : View K H Hs x w m) (s : RepS K H Hs σ δ M) (e : unpM lk is w δ = .ok (u, δ'))
 (q : ∀ σ', Keeps lk σ σ' -> RepS K H Hs σ' δ' (fun b => m b + M b) -> Q σ' H) : gSeq K is.length (gNs is) x σ H Q := by
 unfold unpM at e
 split at e
 . cases v with
   | nd n r =>
    obtain ⟨hl, hq⟩ := Zdt e r s q
    exact ⟨_, _, rfl, .inl (.inl (.inl n)), hl, hq⟩
 . cases v with
   | nd n r =>
    obtain ⟨hl, hq⟩ := Zdt e r s q
    exact ⟨_, _, rfl, .inr (.inl (.inl n)), hl, hq⟩
 . cases e
theorem Zm6 {ca : M Op} (hc : X.calm = true) (he : PE X e (tP X.K ca)) (hg : PGs X es (gNs is)) (hn : (assignEach es X.env).length = is.length := by rfl) (hst : (assignEach es X.env).findIdx? (·.1) = none := by rfl)
 (hs : swapsWithSole [.Tuple es j pos'] e pos.line X.env = pure false := by rfl) (hw : swappedStores [.Tuple es j pos'] e X.env = pure none := by rfl)
 (h1 : (assignEach [.Tuple es j pos'] X.env).map (·.2) = [assign (.Tuple es j pos') X.env] := by rfl) :
 PS X (.Assign [.Tuple es j pos'] e pos) (tS X.K lk ((ca.bnd view).bnd fun w => (unpM lk is w).bnd fun _ => M.ret .nx)) := PS.imp (Zfl he (Ziv hc hg hn hst) hs hw h1) fun E σ H h => by
 obtain ⟨δ, Hs, M, f, δ', g, s, ea, q⟩ := h
 obtain ⟨w, δ2, eb, ec⟩ := Zb ea
 obtain ⟨p, δ1, e1, e2⟩ := Zb eb
 obtain ⟨u, δ3, e3, e4⟩ := Zb ec
 have := Ze e4
 cases this
 refine ⟨δ, Hs, M, p, δ1, g, s, e1, fun x H2 Hs2 m1 M2 g2 st2 r1 s2 => ?_⟩
 obtain ⟨Hs3, M3, g3, st3, v1, s3⟩ := Za1 (B := m1) g2 s2 r1 e2
 have z := Zm (m1 := fun _ => 0) g (g2.re fun b => by simp) (st2.drop (fun b => by simp) g2.le) g3 st3
 exact ZkW v1 s3 e3 fun σ' kk r => q σ' H2 Hs3 _ kk g3 (z.2.1.drop (fun b => by simp) z.1.le) r
theorem RepL.set {K : Fg} {H Hs : Hp} {vs : List V} {ds : List D} {m m1 : Bud} {n : Nat} {v : V} {d d0 : D} (r : RepL K H Hs vs ds m) (hn : ds[n]? = some d0) (x : Rep K H Hs v d m1) : RepL K H Hs (vs.set n v) (ds.set n d) (fun b => m b + m1 b) := by
 obtain ⟨a, n1, n2, e1, q, l, f⟩ := r.sep.focus hn
 exact ((f (Rep K H Hs) v d m1 (fun a d m' _ q => q) x).mono fun b => by have := l b; (try dsimp only); omega).repL
theorem Zg8 {K : Fg} {H Hs : Hp} {σ : St} {δ δ' : List D} {M : Bud} {p : Op} (s : RepS K H Hs σ δ M) (h : ZT i δ = .ok (p, δ')) : δ' = δ /\ ∃ v, σ[i]? = some (some v) := by
 unfold ZT at h
 split at h
 . rename_i hd
   cases h
   obtain ⟨v, _, _, e, _⟩ := s.slot hd (by simp)
   exact ⟨rfl, v, e⟩
 . rename_i hd
   cases h
   obtain ⟨v, _, _, e, _⟩ := s.slot hd (by simp)
   exact ⟨rfl, v, e⟩
 . cases h
theorem Zjt {cc : M Bool} {cb : M Fl} {c : Expr} {body : List Stmt} {n : Nat} (hp : PassesOwn (model X.prog X.w) X.A X.env X.xe) (hc : PT X c (tT X.K cc)) (hb : PSs X body (tS X.K lk cb)) : PS X (.While c body [] pos) (tS X.K lk (Zag cc cb n)) :=
 PS.imp (ZiV hp hc hb) fun E σ H h => by
 obtain ⟨δ, Hs, M, f, δ', g, s, ea, q⟩ := h
 refine ⟨fun k σ1 H1 => ∃ (δ1 : List D) (Hs1 : Hp) (M1 : Bud), Good H1 Hs1 M1 /\ RepS X.K H1 Hs1 σ1 δ1 M1 /\ Zag cc cb k δ1 = .ok (f, δ') /\ Post X.K lk E σ1 H1 Hs1 M1 f δ', ⟨n, δ, Hs, M, g, s, ea, q⟩, ?_⟩
 rintro k σ1 H1 ⟨δ1, Hs1, M1, g1, s1, e1, q1⟩
 cases k with
 | zero => cases e1
 | succ k =>
  obtain ⟨t, δ2, e2, e3⟩ := Zb e1
  refine ⟨δ1, Hs1, M1, t, δ2, g1, s1, e2, fun H2 Hs2 M2 g2 st2 s2 => ?_⟩
  have q2 := q1.ahead (Keeps.refl _ _) g1 g2 st2
  cases t with
  | false =>
   dsimp only
   rw [if_neg Bool.false_ne_true]
   have := Ze e3
   cases this
   exact q2 σ1 H2 Hs2 M2 (Keeps.refl _ _) g2 (Stp.refl _ _ _) s2
  | true =>
   dsimp only
   rw [if_pos rfl]
   rw [if_pos rfl] at e3
   obtain ⟨fl, δ3, e4, e5⟩ := Zb e3
   refine ⟨fun σ' H' => ∃ (δ1 : List D) (Hs1 : Hp) (M1 : Bud), Good H' Hs1 M1 /\ RepS X.K H' Hs1 σ' δ1 M1 /\ Zag cc cb k δ1 = .ok (f, δ') /\ Post X.K lk E σ' H' Hs1 M1 f δ', fun σ' H' hN => ⟨k, Nat.lt_succ_self k, hN⟩, δ2, Hs2, M2, fl, δ3, g2, s2, e4, ?_⟩
   cases fl with
   | nx => exact fun σ3 H3 Hs3 M3 k3 g3 st3 s3 => ⟨δ3, Hs3, M3, g3, s3, e5, q2.ahead k3 g2 g3 st3⟩
   | ct => exact fun σ3 H3 Hs3 M3 k3 g3 st3 s3 => ⟨δ3, Hs3, M3, g3, s3, e5, q2.ahead k3 g2 g3 st3⟩
   | bk => have := Ze e5; cases this; exact q2
   | rt d => have := Ze e5; cases this; exact q2
end
end T
namespace T
open PySem PySem.Spec L2
structure WalkV (J : It) (vs : List V) (B : Bud) (Pp : Hp -> Hp -> Prop) : Prop where
 stay : ∀ {H Hs H' Hs' : Hp}, Pp H Hs -> Same Hs Hs' -> (∀ b, B b ≥ 1 -> H b ≠ none -> H' b = H b) -> Pp H' Hs'
 go : ∀ {H Hs : Hp} {i : Nat} {v : V}, Same Hs H -> Pp H Hs -> vs[i]? = some v -> J.go i H
 yld : ∀ {H Hs H' : Hp} {i : Nat} {x v : V}, Same Hs H -> Pp H Hs -> vs[i]? = some v -> J.yld i H x H' -> H' = H /\ x = v
 stop : ∀ {H Hs : Hp} {i : Nat}, Same Hs H -> Pp H Hs -> vs.length <= i -> J.stop i H
def Grow (H Hs H' Hs' : Hp) : Prop := (H' = H /\ Hs' = Hs) \/ ∃ A o, H A = none /\ H' = upd H A o /\ Hs' = upd Hs A o
theorem Grow.same {H Hs H' Hs' : Hp} (w : Grow H Hs H' Hs') (g : Same Hs H) : Same Hs Hs' /\ (∀ b, H b ≠ none -> H' b = H b) /\ Same Hs' H' := by
 rcases w with ⟨rfl, rfl⟩ | ⟨A, o, h, rfl, rfl⟩
 . exact ⟨Same.refl _, fun _ _ => rfl, g⟩
 . have hs : Hs A = none := by
    cases q : Hs A with
    | none => rfl
    | some u => rw [g A u q] at h; cases h
   have ne : ∀ b u, Hs b = some u -> b ≠ A := fun b u e z => by subst z; rw [hs] at e; cases e
   refine ⟨fun b u e => ?_, fun b n => Zn fun z => n (by rw [z]; exact h), fun b u e => ?_⟩
   . rw [Zn (ne b u e)]; exact e
   . by_cases z : b = A
     . subst z; rw [Zk] at e ⊢; exact e
     . rw [Zn z] at e ⊢; exact g b u e
theorem Grow.good {H Hs H' Hs' : Hp} {M : Bud} (w : Grow H Hs H' Hs') (g : Good H Hs M) : Good H' Hs' M := by
 obtain ⟨s1, s2, s3⟩ := w.same g.sub
 refine ⟨s3, g.le, fun b h => ?_, fun b h => ?_⟩
 . rcases w with ⟨rfl, rfl⟩ | ⟨A, o, n, rfl, rfl⟩
   . exact g.ne b h
   . rw [Zn fun z => g.has b h (by rw [z]; exact n)]; exact g.ne b h
 . rw [s2 b (g.has b h)]; exact g.has b h
theorem Grow.stp {H Hs H' Hs' H0 Hs0 : Hp} {M M0 : Bud} (w : Grow H Hs H' Hs') (g : Good H Hs M) (t : Stp H0 Hs0 M0 H Hs M) : Stp H0 Hs0 M0 H' Hs' M := by
 obtain ⟨s1, s2, s3⟩ := w.same g.sub
 refine ⟨fun b o e z => ?_, t.own, t.grow.trans s1, fun b n n' => ?_, fun b n => ?_⟩
 . have e1 := t.keep b o e z
   rw [s2 b (by rw [e1]; simp)]; exact e1
 . by_cases q : Hs b = none
   . rcases w with ⟨rfl, rfl⟩ | ⟨A, o, h, rfl, rfl⟩
     . exact absurd q n'
     . by_cases z : b = A
       . subst z
         cases y : H0 b with
         | none => exact .inr rfl
         | some u => exact absurd h (t.stay b (by rw [y]; simp))
       . rw [Zn z] at n'; exact absurd q n'
   . exact t.shr b n q
 . have := t.stay b n
   rw [s2 b this]; exact this
structure Walk (K : Fg) (J : It) (items : List D) (B : Bud) (Pp : Hp -> Hp -> Prop) : Prop where
 stay : ∀ {H Hs H' Hs' : Hp}, Pp H Hs -> Same Hs Hs' -> (∀ b, B b ≥ 1 -> H b ≠ none -> H' b = H b) -> Pp H' Hs'
 go : ∀ {H Hs : Hp} {i : Nat}, Same Hs H -> Pp H Hs -> i < items.length -> J.go i H
 yld : ∀ {H Hs H' : Hp} {i : Nat} {x : V} {d : D}, Same Hs H -> Pp H Hs -> items[i]? = some d -> J.yld i H x H' -> ∃ Hs', Grow H Hs H' Hs' /\ Rep K H' Hs' x d (fun _ => 0)
 stop : ∀ {H Hs : Hp} {i : Nat}, Same Hs H -> Pp H Hs -> items.length <= i -> J.stop i H
theorem WalkV.w {K : Fg} {J : It} {vs : List V} {items : List D} {B : Bud} {Pp : Hp -> Hp -> Prop} (w : WalkV J vs B Pp) : Walk K J items B (fun H Hs => Pp H Hs /\ RepL K H Hs vs items (fun _ => 0)) where
 stay := fun h g k => ⟨w.stay h.1 g k, h.2.frame g fun b hb => absurd hb (by simp)⟩
 go := fun {H Hs i} g h l => by
  have e := h.2.len
  exact w.go g h.1 (List.getElem?_eq_getElem (show i < vs.length by omega))
 yld := fun {H Hs H' i x d} g h e y => by
  obtain ⟨v, m1, ev, rv, lv⟩ := h.2.at e
  obtain ⟨rfl, rfl⟩ := w.yld g h.1 ev y
  exact ⟨Hs, .inl ⟨rfl, rfl⟩, rv.mono lv⟩
 stop := fun {H Hs i} g h l => w.stop g h.1 (by have := h.2.len; omega)
def Held (K : Fg) (H Hs : Hp) (σ : St) : List (Nat × D) -> Bud -> Prop
 | [], _ => True
 | (i, d) :: r, m => ∃ (v : V) (m1 m2 : Bud), σ[i]? = some (some v) /\ Rep K H Hs v d m1 /\ Held K H Hs σ r m2 /\ ∀ b, m1 b + m2 b <= m b
theorem Held.frame {K : Fg} {H Hs H' Hs' : Hp} {σ : St} (g : Same Hs Hs') : ∀ {hs : List (Nat × D)} {m : Bud}, (∀ b, m b ≥ 1 -> H b ≠ none -> H' b = H b) -> Held K H Hs σ hs m -> Held K H' Hs' σ hs m
 | [], _, _, h => h
 | (i, d) :: r, m, k, ⟨v, m1, m2, e, x, y, l⟩ => ⟨v, m1, m2, e, x.frame g fun b hb => k b (by have := l b; omega), y.frame g fun b hb => k b (by have := l b; omega), l⟩
theorem Held.keeps {K : Fg} {H Hs : Hp} {σ σ' : St} {lk : Nat -> Bool} (k : Keeps lk σ σ') : ∀ {hs : List (Nat × D)} {m : Bud}, (∀ p ∈ hs, lk p.1 = true) -> Held K H Hs σ hs m -> Held K H Hs σ' hs m
 | [], _, _, h => h
 | (i, d) :: r, m, hl, ⟨v, m1, m2, e, x, y, l⟩ => ⟨v, m1, m2, (k i (hl (i, d) List.mem_cons_self)).trans e, x, y.keeps k fun p hp => hl p (List.mem_cons_of_mem _ hp), l⟩
theorem ZcI {K : Fg} {H Hs : Hp} {σ : St} : ∀ {hs : List (Nat × D)} {m M : Bud} {δ δ' : List D} {u : Unit}, Zar hs δ = .ok (u, δ') -> Held K H Hs σ hs m -> RepS K H Hs σ δ M -> RepS K H Hs σ δ' (fun b => m b + M b)
 | [], m, M, δ, δ', u, e, h, s => by
  have := Ze e
  cases this
  exact s.mono fun b => by omega
 | (i, d) :: r, m, M, δ, δ', u, e, ⟨v, m1, m2, e1, x, y, l⟩, s => by
  have hi : i < δ.length := by
   have := s.length
   have := (List.getElem?_eq_some_iff.mp e1).1
   omega
  have z := Zcc s hi x
  rw [ZB e1] at z
  exact (ZcI (show Zar r (δ.set i d) = _ from e) y z).mono fun b => by have := l b; (try dsimp only); omega
inductive tI (K : Fg) (ik : IK) (cs : M (List Op)) (σ : St) (H : Hp) (R : It -> Hp -> Prop) : Prop
 | mk (δ : List D) (Hs : Hp) (M : Bud) (h : List W × List (Nat × D)) (items : List D) (δ' : List D) (h0 : Good H Hs M) (h1 : RepS K H Hs σ δ M) (h2 : (cs.bnd Z0) δ = .ok (h, δ')) (h3 : itW ik h.1 = some items) (h4 : ∀ (J : It) (Pp : Hp -> Hp -> Prop) (H' Hs' : Hp) (B M' : Bud), Good H' Hs' (fun b => B b + M' b) -> Stp H Hs M H' Hs' (fun b => B b + M' b) -> RepS K H' Hs' σ δ' M' -> Held K H' Hs' σ h.2 B -> Walk K J items B Pp -> Pp H' Hs' -> R J H') : tI K ik cs σ H R
theorem PI.imp {X : Cx} {tg it : Expr} {w w' : TI} (h : PI X tg it w) (q : ∀ σ H R, w' σ H R -> w σ H R) : PI X tg it w' := fun pins s σ H R I z => h pins s σ H R I (q σ H R z)
def HW (K : Fg) (H Hs : Hp) (B : Bud) (v : V) : W -> Prop
 | .sc u => v = u
 | .nd k ds => ∃ a vs, v = .ref a /\ RepL K H Hs vs ds (fun _ => 0) /\ (ZcE K Hs a vs k \/ (ZaE K H a vs k /\ B a ≥ 1))
theorem Zbw {K : Fg} {H Hs : Hp} {σ : St} {δ δ' : List D} {m M : Bud} {p : Op} {v : V} {w : W × Option (Nat × D)} (g : Good H Hs (fun b => m b + M b)) (s : RepS K H Hs σ δ M) (r : RepP K H Hs σ v p m) (e : Zaq p δ = .ok (w, δ')) :
 ∃ Hs' B M', Good H Hs' (fun b => B b + M' b) /\ Stp H Hs (fun b => m b + M b) H Hs' (fun b => B b + M' b) /\ RepS K H Hs' σ δ' M' /\ Held K H Hs' σ w.2.toList B /\ HW K H Hs' B v w.1 := by
 have dropM : ∀ {Hs' : Hp} {M' : Bud}, Good H Hs' M' -> Good H Hs' (fun b => (fun _ => 0) b + M' b) := fun g => g.re fun b => by simp
 cases p with
 | tmp d =>
  cases d with
  | hole => cases e
  | sc u =>
   have := Ze e
   cases this
   cases r
   exact ⟨Hs, fun _ => 0, M, g.re fun b => by simp, (Stp.refl H Hs _).drop (fun b => by simp) g.le, s, trivial, rfl⟩
  | node k o ds =>
   have := Ze e
   cases this
   have hsame := ZaY g (m := m) fun b => by omega
   have r2 := Rep.share hsame (Zc3 (H := H) (Hs := Hs) (m := m)) r
   refine ⟨shH H Hs m, fun _ => 0, M, dropM g.share, (Stp.share g).drop (fun b => by simp) g.share.le, s.frame hsame fun _ _ _ => rfl, trivial, ?_⟩
   simp only [shr] at r2
   cases r2 with
   | shd n r3 => exact ⟨_, _, rfl, r3, .inl n⟩
 | late i =>
  have r : σ[i]? = some (some v) := r
  unfold Zaq at e
  dsimp only at e
  split at e
  . rename_i u hi
    cases e
    obtain ⟨v', m1, m2, e1, q, l, f⟩ := s.slot hi (by simp)
    rw [r] at e1
    cases e1
    cases q
    exact ⟨Hs, fun _ => 0, M, g.re fun b => by simp, (Stp.refl H Hs _).drop (fun b => by simp) g.le, s, trivial, rfl⟩
  . rename_i k ds hi
    cases e
    obtain ⟨v', m1, m2, e1, q, l, f⟩ := s.slot hi (by simp)
    rw [r] at e1
    cases e1
    cases q with
    | shd n q => exact ⟨Hs, fun _ => 0, M, g.re fun b => by simp, (Stp.refl H Hs _).drop (fun b => by simp) g.le, s, trivial, _, _, rfl, q, .inl n⟩
  . rename_i k ds hi
    cases e
    obtain ⟨v', m1, m2, e1, q, l, f⟩ := s.slot hi (by simp)
    rw [r] at e1
    cases e1
    cases q with
    | @own a _ vs _ _ m' n q l' =>
     have g2 : Good H Hs (fun b => m' b + (one a b + m2 b)) := g.re fun b => by have := l b; have := l' b; omega
     have hsame := ZaY g2 (m := m') fun b => by omega
     have q2 := RepL.share hsame (Zc3 (H := H) (Hs := Hs) (m := m')) q
     have st := Stp.share g2
     have z := f H (shH H Hs m') (some (.ref a)) .hole (fun _ => 0) hsame (fun _ _ _ => rfl) (.inl rfl)
     rw [ZB r] at z
     refine ⟨shH H Hs m', one a, m2, g2.share, ⟨fun b o h _ => h, fun b h => ?_, st.grow, fun b h h' => ?_, fun b h => h⟩, z.mono fun b => by simp, ⟨_, one a, fun _ => 0, r, .own n q2 fun b => by simp, trivial, fun b => by simp⟩, _, _, rfl, q2, .inr ⟨n, by simp [one]⟩⟩
     . have h : one a b + m2 b = 1 := h
       have l0 : m b + M b <= 1 := g.le b
       have := l b
       have := l' b
       left
       show m b + M b = 1
       omega
     . rcases st.shr b h h' with z | z
       . have z : m' b + (one a b + m2 b) = 1 := z
         have l0 : m b + M b <= 1 := g.le b
         have := l b
         have := l' b
         left
         show m b + M b = 1
         omega
       . exact .inr z
  . cases e
theorem Zee (lo : Int) (n : Nat) (B : Bud) : WalkV (Itr lo n) ((List.range n).map fun (k : Nat) => V.int (lo + k)) B (fun _ _ => True) where
 stay := fun _ _ _ => trivial
 go := fun {H Hs i v} _ _ h => by
  have := (List.getElem?_eq_some_iff.mp h).1
  simp only [List.length_map, List.length_range] at this
  exact this
 yld := fun {H Hs H' i x v} _ _ h y => by
  obtain ⟨e, y⟩ := y
  have := (List.getElem?_eq_some_iff.mp h).1
  simp only [List.length_map, List.length_range] at this
  rw [List.getElem?_map, List.getElem?_range this] at h
  simp only [Option.map_some, Option.some.injEq] at h
  exact ⟨e, y.trans h⟩
 stop := fun {H Hs i} _ _ h => by
  simp only [List.length_map, List.length_range] at h
  exact h
theorem ZeM {K : Fg} {a : Addr} {vs : List V} {B : Bud} : WalkV (Itl K a) vs B (fun H Hs => SqL K Hs a vs \/ (H a = some (.lst vs) /\ B a ≥ 1)) := by
 have sq : ∀ {H Hs : Hp}, Same Hs H -> (SqL K Hs a vs \/ (H a = some (.lst vs) /\ B a ≥ 1)) -> SqL K H a vs := fun g h => by
  rcases h with h | h
  . exact g.seq h
  . exact .inl (.inl h.1)
 refine ⟨fun h g k => ?_, fun g h e => ⟨vs, _, sq g h, e⟩, fun g h e y => ?_, fun g h e => ⟨vs, sq g h, e⟩⟩
 . rcases h with h | ⟨h, hb⟩
   . exact .inl (g.seq h)
   . exact .inr ⟨(k a hb (by rw [h]; simp)).trans h, hb⟩
 . obtain ⟨e1, y⟩ := y
   have := y vs (sq g h)
   rw [e] at this
   exact ⟨e1, (Option.some.inj this).symm⟩
theorem Zf6 {K : Fg} {a : Addr} {vs : List V} {B : Bud} : WalkV (Itt K a) vs B (fun H Hs => SqT K Hs a vs \/ (H a = some (.tup vs) /\ B a ≥ 1)) := by
 have sq : ∀ {H Hs : Hp}, Same Hs H -> (SqT K Hs a vs \/ (H a = some (.tup vs) /\ B a ≥ 1)) -> SqT K H a vs := fun g h => by
  rcases h with h | h
  . exact Same.tupq' g h
  . exact .inl (.inl h.1)
 refine ⟨fun h g k => ?_, fun g h e => ⟨vs, _, sq g h, e⟩, fun g h e y => ?_, fun g h e => ⟨vs, sq g h, e⟩⟩
 . rcases h with h | ⟨h, hb⟩
   . exact .inl (Same.tupq' g h)
   . exact .inr ⟨(k a hb (by rw [h]; simp)).trans h, hb⟩
 . obtain ⟨e1, y⟩ := y
   have := y vs (sq g h)
   rw [e] at this
   exact ⟨e1, (Option.some.inj this).symm⟩
section
variable {X : Cx} {tg a b l : Expr} {ca cb : M Op} {pos p : Pos}
theorem Zhv {c : M Op} {δ δ' : List D} {h : List W × List (Nat × D)} (e : ((c.bnd fun p => (M.ret ([] : List Op)).bnd fun ps => M.ret (p :: ps)).bnd Z0) δ = .ok (h, δ')) : ∃ p δ1 w, c δ = .ok (p, δ1) /\ Zaq p δ1 = .ok (w, δ') /\ h = ([w.1], w.2.toList) := by
 obtain ⟨ps, δ1, e1, e2⟩ := Zb e
 obtain ⟨p, δ2, e3, e4⟩ := Zb e1
 obtain ⟨z, δ3, e5, e6⟩ := Zb e4
 have := Ze e5
 cases this
 have := Ze e6
 cases this
 obtain ⟨w, δ4, e7, e8⟩ := Zb e2
 obtain ⟨z, δ5, e9, e10⟩ := Zb e8
 have := Ze e9
 cases this
 have := Ze e10
 cases this
 exact ⟨p, δ1, w, e3, e7, by simp⟩
theorem Zdc {K : Fg} {H Hs : Hp} : ∀ (l : List Int), RepL K H Hs (l.map V.int) (l.map fun i => D.sc (.int i)) (fun _ => 0)
 | [] => .nil _
 | i :: l => .cons (m1 := fun _ => 0) (m2 := fun _ => 0) (.sc _ _) (Zdc l) fun b => by simp
theorem Zg9 {K : Fg} {H Hs : Hp} (lo hi : Int) : RepL K H Hs ((List.range (hi - lo).toNat).map fun (k : Nat) => V.int (lo + k)) (rng lo hi) (fun _ => 0) := by
 have z := Zdc (K := K) (H := H) (Hs := Hs) ((List.range (hi - lo).toNat).map fun (k : Nat) => lo + k)
 rw [List.map_map, List.map_map] at z
 exact z
theorem ZkX (hg : Gl X "range") (hm : X.mg "range" = none) (ha : PE X a (tP X.K ca)) (hs : starEach [a] X.env = [(false, eval a X.env)] := by rfl) :
 PI X tg (.Call (.Name "range" p) [a] [] pos) (tI X.K .rng1 (ca.bnd fun p => (M.ret ([] : List Op)).bnd fun ps => M.ret (p :: ps))) := PI.imp (ZhI hg hm (Zam ha Zbd (by rw [hs]; rfl)) hs) fun σ H R h => by
 obtain ⟨δ, Hs, M, h, items, δ', g, s, e, ei, q⟩ := h
 obtain ⟨p, δ1, w, e1, e2, rfl⟩ := Zhv e
 refine ⟨δ, Hs, M, p, δ1, g, s, e1, fun x H2 Hs2 m1 M2 g2 st2 r1 s2 => ?_⟩
 obtain ⟨Hs3, B, M3, g3, st3, s3, hh, hw⟩ := Zbw g2 s2 r1 e2
 have z := Zm (m1 := fun _ => 0) g (g2.re fun b => by simp) (st2.drop (fun b => by simp) g2.le) g3 st3
 obtain ⟨w1, w2⟩ := w
 replace ei : Zhq _ = _ := ei
 unfold Zhq at ei
 split at ei
 rotate_left
 . cases ei
 rename_i n hx
 cases hx
 split at ei
 . rename_i hok
   cases ei
   obtain rfl := hw
   simp only [okR, Bool.and_eq_true, decide_eq_true_eq] at hok
   have hz : (n - 0).toNat = n.toNat := by omega
   refine ⟨n, rfl, hok.1, hok.2, ?_⟩
   have := Zg9 (K := X.K) (H := H2) (Hs := Hs3) 0 n
   rw [hz] at this
   exact q _ _ H2 Hs3 B M3 g3 (z.2.1.drop (fun b => by simp) z.1.le) s3 hh (Zee 0 n.toNat B).w ⟨trivial, this⟩
 . cases ei
theorem ZkY (hg : Gl X "range") (hm : X.mg "range" = none) (ha : PE X a (tP X.K ca)) (hb : PE X b (tP X.K cb)) (hs : starEach [a, b] X.env = [(false, eval a X.env), (false, eval b X.env)] := by rfl) (hs2 : starEach [b] X.env = [(false, eval b X.env)] := by rfl) :
 PI X tg (.Call (.Name "range" p) [a, b] [] pos) (tI X.K .rng2 (ca.bnd fun p => (cb.bnd fun p => (M.ret ([] : List Op)).bnd fun ps => M.ret (p :: ps)).bnd fun ps => M.ret (p :: ps))) := PI.imp (ZhJ hg hm (Zam ha (Zam hb Zbd (by rw [hs2]; rfl)) (by rw [hs, hs2])) hs hs2) fun σ H R h => by
 obtain ⟨δ, Hs, M, h, items, δ', g, s, e, ei, q⟩ := h
 obtain ⟨ps, δ1, e1, e2⟩ := Zb e
 obtain ⟨p1, δ2, e3, e4⟩ := Zb e1
 obtain ⟨qs, δ3, e5, e6⟩ := Zb e4
 obtain ⟨p2, δ4, e7, e8⟩ := Zb e5
 obtain ⟨z, δ5, e9, e10⟩ := Zb e8
 have := Ze e9
 cases this
 have := Ze e10
 cases this
 have := Ze e6
 cases this
 obtain ⟨w1, δ6, e11, e12⟩ := Zb e2
 obtain ⟨ws, δ7, e13, e14⟩ := Zb e12
 obtain ⟨w2, δ8, e15, e16⟩ := Zb e13
 obtain ⟨z, δ9, e17, e18⟩ := Zb e16
 have := Ze e17
 cases this
 have := Ze e18
 cases this
 have := Ze e14
 cases this
 obtain ⟨w1, h1⟩ := w1
 obtain ⟨w2, h2⟩ := w2
 replace ei : Zhr _ = _ := ei
 unfold Zhr at ei
 split at ei
 rotate_left
 . cases ei
 rename_i lo hi hx
 cases hx
 split at ei
 . rename_i hok
   cases ei
   simp only [okR, Bool.and_eq_true, decide_eq_true_eq] at hok
   refine ⟨δ, Hs, M, p1, δ2, g, s, e3, fun x H1 Hs1 m1 M1 g1 st1 r1 s1 => ⟨δ2, Hs1, M1, p2, _, g1.re, s1, e7, fun y H2 Hs2 m2 M2 g2 st2 r2 s2 => ?_⟩⟩
   obtain ⟨G2, S2, k2⟩ := Zm g g1 st1 g2 st2
   have r1' := RepP.frame st2.grow k2 r1
   have r2b : RepP X.K H2 Hs2 σ x p1 (fun b => m1 b + m2 b) := by
    cases p1 with
    | late i => exact r1'
    | tmp d => exact Rep.mono r1' fun b => by omega
   obtain ⟨Hs3, B3, M3, g3, st3, s3, hh3, hw3⟩ := Zbw (m := fun b => m1 b + m2 b) (G2.re fun b => by (try dsimp only); omega) s2 r2b e11
   obtain rfl := hw3
   have r2' : RepP X.K H2 Hs3 σ y p2 (fun _ => 0) := by
    cases p2 with
    | late i => exact r2
    | tmp d =>
     cases d with
     | sc u => cases r2; exact .sc _ _
     | hole => cases e15
     | node k o ds => cases e15
   have nh1 : h1 = none := by
    cases p1 with
    | tmp d => cases d with
     | sc u => cases e11; rfl
     | hole => cases e11
     | node k o ds => cases e11
    | late i =>
     unfold Zaq at e11
     dsimp only at e11
     split at e11 <;> cases e11
     rfl
   have nh2 : h2 = none := by
    cases p2 with
    | tmp d => cases d with
     | sc u => cases e15; rfl
     | hole => cases e15
     | node k o ds => cases e15
    | late i =>
     unfold Zaq at e15
     dsimp only at e15
     split at e15 <;> cases e15
     rfl
   subst nh1 nh2
   obtain ⟨Hs4, B4, M4, g4, st4, s4, hh4, hw4⟩ := Zbw (m := fun _ => 0) (g3.re fun b => by simp) s3 r2' e15
   obtain rfl := hw4
   have S2' : Stp H Hs M H2 Hs2 (fun b => m1 b + m2 b + M2 b) := S2.drop (fun b => by omega) G2.le
   have G2' : Good H2 Hs2 (fun b => m1 b + m2 b + M2 b) := G2.re fun b => by omega
   have z3 := Zm (m1 := fun _ => 0) g (G2'.re fun b => by simp) (S2'.drop (fun b => by simp) G2'.le) g3 st3
   have S3 : Stp H Hs M H2 Hs3 (fun b => B3 b + M3 b) := z3.2.1.drop (fun b => by simp) z3.1.le
   have st4' : Stp H2 Hs3 (fun b => B3 b + M3 b) H2 Hs4 (fun b => B4 b + M4 b) := ⟨fun b o h _ => h, fun b h => by
    rcases st4.own b h with z | z
    . have z : 0 + M3 b = 1 := z
      have : B3 b + M3 b <= 1 := g3.le b
      left; show B3 b + M3 b = 1; omega
    . exact .inr z, st4.grow, fun b h h' => by
    rcases st4.shr b h h' with z | z
    . have z : 0 + M3 b = 1 := z
      have : B3 b + M3 b <= 1 := g3.le b
      left; show B3 b + M3 b = 1; omega
    . exact .inr z, fun b h => h⟩
   have z4 := Zm (m1 := fun _ => 0) g (g3.re fun b => by simp) (S3.drop (fun b => by simp) g3.le) g4 st4'
   exact ⟨lo, hi, rfl, ⟨hok.1.1, hok.1.2, hok.2.1, hok.2.2⟩, q _ _ H2 Hs4 B4 M4 g4 (z4.2.1.drop (fun b => by simp) z4.1.le) s4 trivial (Zee lo _ B4).w ⟨trivial, Zg9 lo hi⟩⟩
 . cases ei
theorem Zef {K : Fg} {H Hs : Hp} : ∀ (l : List Nat), RepL K H Hs (l.map fun c => V.str ⟨#[c]⟩) (l.map fun c => D.sc (.str ⟨#[c]⟩)) (fun _ => 0)
 | [] => .nil _
 | i :: l => .cons (m1 := fun _ => 0) (m2 := fun _ => 0) (.sc _ _) (Zef l) fun b => by simp
theorem Zju (x : Str) (B : Bud) : WalkV (Its x) (x.cps.toList.map fun c => V.str ⟨#[c]⟩) B (fun _ _ => True) where
 stay := fun _ _ _ => trivial
 go := fun {H Hs i v} _ _ h => by
  have := (List.getElem?_eq_some_iff.mp h).1
  have : i < x.cps.size := by simpa using this
  exact this
 yld := fun {H Hs H' i y v} _ _ h z => by
  obtain ⟨e, c, h1, h2⟩ := z
  refine ⟨e, ?_⟩
  rw [List.getElem?_map, Array.getElem?_toList, h1] at h
  simp only [Option.map_some, Option.some.injEq] at h
  exact h2.trans h
 stop := fun {H Hs i} _ _ h => by
  have h : x.cps.size <= i := by simpa using h
  exact h
theorem ZbB (hl : PE X l (tP X.K ca)) : PI X tg l (tI X.K .val (ca.bnd fun p => (M.ret ([] : List Op)).bnd fun ps => M.ret (p :: ps))) := by
 intro pins st0 σ H R I hh0
 obtain ⟨δ, Hs, M, h, items, δ', g, s, e, ei, q⟩ := hh0
 obtain ⟨p, δ1, w, e1, e2, rfl⟩ := Zhv e
 obtain ⟨w1, w2⟩ := w
 have core : ∀ (x : V) (H2 Hs2 : Hp) (m1 M2 : Bud), Good H2 Hs2 (fun b => m1 b + M2 b) -> Stp H Hs M H2 Hs2 (fun b => m1 b + M2 b) -> RepP X.K H2 Hs2 σ x p m1 -> RepS X.K H2 Hs2 σ δ1 M2 ->
  ∃ Hs3 B M3, Good H2 Hs3 (fun b => B b + M3 b) /\ Stp H Hs M H2 Hs3 (fun b => B b + M3 b) /\ RepS X.K H2 Hs3 σ δ' M3 /\ Held X.K H2 Hs3 σ w2.toList B /\ HW X.K H2 Hs3 B x w1 := fun x H2 Hs2 m1 M2 g2 st2 r1 s2 => by
  obtain ⟨Hs3, B, M3, g3, st3, s3, hh, hw⟩ := Zbw g2 s2 r1 e2
  have z := Zm (m1 := fun _ => 0) g (g2.re fun b => by simp) (st2.drop (fun b => by simp) g2.le) g3 st3
  exact ⟨Hs3, B, M3, g3, z.2.1.drop (fun b => by simp) z.1.le, s3, hh, hw⟩
 cases w1 with
 | sc u =>
  cases u with
  | str z =>
   cases ei
   refine Zmo hl pins st0 σ H R I ⟨δ, Hs, M, p, δ1, g, s, e1, fun x H2 Hs2 m1 M2 g2 st2 r1 s2 => ?_⟩
   obtain ⟨Hs3, B, M3, g3, st3, s3, hh, hw⟩ := core x H2 Hs2 m1 M2 g2 st2 r1 s2
   exact ⟨z, hw, q _ _ H2 Hs3 B M3 g3 st3 s3 hh (Zju z B).w ⟨trivial, Zef _⟩⟩
  | _ => cases ei
 | nd k ds =>
  cases k with
  | lst =>
   cases ei
   refine Zgx hl pins st0 σ H R I ⟨δ, Hs, M, p, δ1, g, s, e1, fun x H2 Hs2 m1 M2 g2 st2 r1 s2 => ?_⟩
   obtain ⟨Hs3, B, M3, g3, st3, s3, hh, a, vs, hx, hr, hn⟩ := core x H2 Hs2 m1 M2 g2 st2 r1 s2
   have hp : SqL X.K Hs3 a vs \/ (H2 a = some (.lst vs) /\ B a ≥ 1) := hn.elim (fun n => .inl (.inl (.inl n))) fun n => .inr n
   refine ⟨a, hx, ⟨vs, ?_⟩, q _ _ H2 Hs3 B M3 g3 st3 s3 hh ZeM.w ⟨hp, hr⟩⟩
   rcases hp with hp | hp
   . exact g3.sub.seq hp
   . exact .inl (.inl hp.1)
  | frl =>
   cases ei
   refine Zgx hl pins st0 σ H R I ⟨δ, Hs, M, p, δ1, g, s, e1, fun x H2 Hs2 m1 M2 g2 st2 r1 s2 => ?_⟩
   obtain ⟨Hs3, B, M3, g3, st3, s3, hh, a, vs, hx, hr, hn⟩ := core x H2 Hs2 m1 M2 g2 st2 r1 s2
   have hp : SqL X.K Hs3 a vs \/ (H2 a = some (.lst vs) /\ B a ≥ 1) := hn.elim (fun n => .inl n) fun n => n.1.elim
   refine ⟨a, hx, ⟨vs, ?_⟩, q _ _ H2 Hs3 B M3 g3 st3 s3 hh ZeM.w ⟨hp, hr⟩⟩
   rcases hp with hp | hp
   . exact g3.sub.seq hp
   . exact .inl (.inl hp.1)
  | tup =>
   cases ei
   refine ZhH hl pins st0 σ H R I ⟨δ, Hs, M, p, δ1, g, s, e1, fun x H2 Hs2 m1 M2 g2 st2 r1 s2 => ?_⟩
   obtain ⟨Hs3, B, M3, g3, st3, s3, hh, a, vs, hx, hr, hn⟩ := core x H2 Hs2 m1 M2 g2 st2 r1 s2
   have hp : SqT X.K Hs3 a vs \/ (H2 a = some (.tup vs) /\ B a ≥ 1) := hn.elim (fun n => .inl (.inl (.inl n))) fun n => .inr n
   refine ⟨a, hx, ⟨vs, ?_⟩, q _ _ H2 Hs3 B M3 g3 st3 s3 hh Zf6.w ⟨hp, hr⟩⟩
   rcases hp with hp | hp
   . exact Same.tupq' g3.sub hp
   . exact .inl (.inl hp.1)
  | ftp =>
   cases ei
   refine ZhH hl pins st0 σ H R I ⟨δ, Hs, M, p, δ1, g, s, e1, fun x H2 Hs2 m1 M2 g2 st2 r1 s2 => ?_⟩
   obtain ⟨Hs3, B, M3, g3, st3, s3, hh, a, vs, hx, hr, hn⟩ := core x H2 Hs2 m1 M2 g2 st2 r1 s2
   have hp : SqT X.K Hs3 a vs \/ (H2 a = some (.tup vs) /\ B a ≥ 1) := hn.elim (fun n => .inl n) fun n => n.1.elim
   refine ⟨a, hx, ⟨vs, ?_⟩, q _ _ H2 Hs3 B M3 g3 st3 s3 hh Zf6.w ⟨hp, hr⟩⟩
   rcases hp with hp | hp
   . exact Same.tupq' g3.sub hp
   . exact .inl (.inl hp.1)
  | dic ks => cases ei
  | ins C fs => cases ei
  | exc ns fr fs => cases ei
end
end T
namespace T
open PySem PySem.Spec L2
noncomputable def gT (K : Fg) : Tg -> TG
 | .name i => Zck i
 | .tup is => gSeq K is.length (gNs is)
theorem ZgA {K : Fg} {H Hs : Hp} {lk : Nat -> Bool} {tg : Tg} {d : D} {v : V} {σ : St} {δ δ' : List D} {M : Bud} {u : Unit} {Q : St -> Hp -> Prop} (hs : Same Hs H) (e : asgT lk tg d δ = .ok (u, δ')) (r : Rep K H Hs v d (fun _ => 0)) (s : RepS K H Hs σ δ M)
 (q : ∀ σ', Keeps lk σ σ' -> RepS K H Hs σ' δ' M -> Q σ' H) : gT K tg v σ H Q := by
 cases tg with
 | name i =>
  obtain ⟨h1, h2, rfl⟩ := Zds e
  exact q _ (Zco h2) ((Zcc s h1 r).mono fun b => by simp)
 | tup is =>
  cases d with
  | sc v => cases e
  | hole => cases e
  | node k o ds =>
   cases k with
   | tup =>
    have e : Zbi lk is ds δ = .ok (u, δ') := e
    cases r with
    | own n r l =>
     rename_i a _ _
     have := l a
     simp [one] at this
    | shd n r =>
     obtain ⟨hl, hq⟩ := Zdt (Q := Q) e r s fun σ' k z => q σ' k (z.mono fun b => by simp)
     exact ⟨_, _, rfl, .inl (.inl (.inl (hs _ _ n))), hl, hq⟩
   | _ => cases e
theorem ZkZ {a : E} {c : M D} (h : ∀ j, a ≠ .v j) : Zj a c = c.bnd fun d => M.ret (.tmp d) := by
 cases a <;> first | rfl | exact absurd rfl (h _)
theorem Zd7 : ∀ {ps : List Op} {δ δ' : List D} {h : List W × List (Nat × D)}, Z0 ps δ = .ok (h, δ') -> ∀ q ∈ h.2, .late q.1 ∈ ps
 | [], δ, δ', h, e, q, hq => by
  have := Ze (show T.M.ret (([] : List W), ([] : List (Nat × D))) δ = .ok (h, δ') from e)
  cases this
  simp at hq
 | p :: ps, δ, δ', h, e, q, hq => by
  obtain ⟨w, δ1, e1, e2⟩ := Zb e
  obtain ⟨ws, δ2, e3, e4⟩ := Zb e2
  have := Ze e4
  cases this
  rcases List.mem_append.mp hq with h | h
  . have : p = .late q.1 := by
     cases p with
     | tmp d => cases d <;> cases e1 <;> simp at h
     | late i =>
      unfold Zaq at e1
      dsimp only at e1
      split at e1 <;> cases e1 <;> simp at h
      subst h
      rfl
    rw [this]
    exact List.mem_cons_self
  . exact List.mem_cons_of_mem _ (Zd7 e3 q h)
def HWs (cs : M (List Op)) (lk : Nat -> Bool) : Prop := ∀ δ h δ', (cs.bnd Z0) δ = .ok (h, δ') -> ∀ q ∈ h.2, lk q.1 = true
def LkLe (lk lk' : Nat -> Bool) : Prop := ∀ i, lk i = true -> lk' i = true
theorem Zcp (lk f : Nat -> Bool) : LkLe lk (fun j => lk j || f j) := fun i h => by
 show (lk i || f i) = true
 rw [h]
 rfl
section
variable {X : Cx} {tg iter : Expr} {body : List Stmt} {pos : Pos} {lk lk' : Nat -> Bool} {ik : IK} {cs : M (List Op)} {tgt : Tg} {cb : M Fl}
theorem ZbC (hp : PassesOwn (model X.prog X.w) X.A X.env X.xe) (hc : X.calm = true) (hl : LkLe lk lk') (hw : HWs cs lk')
 (hi : PI X tg iter (tI X.K ik cs)) (hg : PG X tg (gT X.K tgt)) (hb : PSs X body (tS X.K lk' cb)) (hs : ∀ x, foldedSetIterable iter X.env x = pure x := by intro _; rfl) :
 PS X (.For tg iter body [] pos) (tS X.K lk (cs.bnd fun ps => (Z0 ps).bnd fun h => (lift (itW ik h.1)).bnd fun items => (forL (asgT lk' tgt) cb items).bnd fun f => (Zar h.2).bnd fun _ => M.ret f)) :=
 PS.imp (ZlQ hp hc hi hg hb hs) fun E σ H h => by
 obtain ⟨δ, Hs, M, f, δ', g, s, ea, q⟩ := h
 obtain ⟨ps, δ1, e1, eb⟩ := Zb ea
 obtain ⟨hh, δ2, e2, ec⟩ := Zb eb
 obtain ⟨items, δ3, e3, ed⟩ := Zb ec
 obtain ⟨e3', rfl⟩ := ZL e3
 obtain ⟨f1, δ4, e4, ee⟩ := Zb ed
 obtain ⟨u, δ5, e5, e6⟩ := Zb ee
 have := Ze e6
 cases this
 have e12 : (cs.bnd Z0) δ = .ok (hh, δ3) := by
  show T.M.bnd cs Z0 δ = _
  unfold T.M.bnd
  rw [e1]
  exact e2
 have locked := hw _ _ _ e12
 refine ⟨δ, Hs, M, hh, items, δ3, g, s, e12, e3', fun J Pp H1 Hs1 B M1 g1 st1 s1 held wk pp => ?_⟩
 have kl : ∀ {σ1 σ2 : St}, Keeps lk' σ1 σ2 -> Keeps lk σ1 σ2 := fun k i h => k i (hl i h)
 refine ⟨fun i m σ2 H2 => m = items.length - i /\ i <= items.length /\ Keeps lk' σ σ2 /\ ∃ (δ2 : List D) (Hs2 : Hp) (M2 : Bud), Good H2 Hs2 (fun b => B b + M2 b) /\ Stp H Hs M H2 Hs2 (fun b => B b + M2 b) /\ RepS X.K H2 Hs2 σ2 δ2 M2 /\ Held X.K H2 Hs2 σ2 hh.2 B /\ Pp H2 Hs2 /\ forL (asgT lk' tgt) cb (items.drop i) δ2 = .ok (f, δ4),
  ⟨items.length, by simp, Nat.zero_le _, Keeps.refl _ _, δ3, Hs1, M1, g1, st1, s1, held, pp, by rw [List.drop_zero]; exact e4⟩, ?_⟩
 rintro i m σ2 H2 ⟨rfl, hle, k2, δ2, Hs2, M2, g2, st2, s2, held2, pp2, e7⟩
 have fin_nx : ∀ {σ3 : St} {H3 Hs3 : Hp} {M3 : Bud}, f = .nx -> Keeps lk' σ σ3 -> Good H3 Hs3 (fun b => B b + M3 b) -> Stp H Hs M H3 Hs3 (fun b => B b + M3 b) -> RepS X.K H3 Hs3 σ3 δ4 M3 -> Held X.K H3 Hs3 σ3 hh.2 B -> E.nx σ3 H3 := fun {σ3 H3 Hs3 M3} ef k3 g3 st3 s3 held3 => by
  subst ef
  exact q σ3 H3 Hs3 _ (kl k3) g3 st3 (ZcI e5 held3 s3)
 by_cases hlt : i < items.length
 . right
   have hd : items[i]? = some (items[i]'(by omega)) := List.getElem?_eq_getElem (by omega)
   have hdrop : items.drop i = items[i]'(by omega) :: items.drop (i + 1) := List.drop_eq_getElem_cons (by omega)
   rw [hdrop] at e7
   obtain ⟨u1, δ5', e8, e9⟩ := Zb e7
   obtain ⟨fl, δ6, e10, e11⟩ := Zb e9
   refine ⟨wk.go g2.sub pp2 hlt, fun σ3 H3 => Keeps lk' σ σ3 /\ ∃ (δ2 : List D) (Hs2 : Hp) (M2 : Bud), Good H3 Hs2 (fun b => B b + M2 b) /\ Stp H Hs M H3 Hs2 (fun b => B b + M2 b) /\ RepS X.K H3 Hs2 σ3 δ2 M2 /\ Held X.K H3 Hs2 σ3 hh.2 B /\ Pp H3 Hs2 /\ forL (asgT lk' tgt) cb (items.drop (i + 1)) δ2 = .ok (f, δ4),
    fun σ3 H3 ⟨k3, z⟩ => ⟨items.length - (i + 1), by omega, rfl, hlt, k3, z⟩, fun x H' y => ?_⟩
   obtain ⟨Hs3, gr, rv⟩ := wk.yld g2.sub pp2 hd y
   obtain ⟨sm, fr, _⟩ := gr.same g2.sub
   have pp2 := wk.stay pp2 sm fun b _ n => fr b n
   have s2 := RepS.frame sm (fun b _ n => fr b n) s2
   have held2 := held2.frame sm fun b _ n => fr b n
   have st2 := gr.stp g2 st2
   have g2 := gr.good g2
   clear gr sm fr y
   generalize Hs3 = Hs2 at *
   refine ZgA (Hs := Hs2) g2.sub e8 rv s2 fun σ3 k3 s3 => ?_
   refine ⟨δ5', Hs2, M2, fl, δ6, g2.re, s3, e10, ?_⟩
   have held3 : Held X.K H' Hs2 σ3 hh.2 B := held2.keeps k3 locked
   have nxt : ∀ {σ4 : St} {H4 Hs4 : Hp} {M4 : Bud}, Keeps lk' σ3 σ4 -> Good H4 Hs4 M4 -> Stp H' Hs2 M2 H4 Hs4 M4 ->
    Keeps lk' σ σ4 /\ Good H4 Hs4 (fun b => B b + M4 b) /\ Stp H Hs M H4 Hs4 (fun b => B b + M4 b) /\ Held X.K H4 Hs4 σ4 hh.2 B /\ Pp H4 Hs4 := fun {σ4 H4 Hs4 M4} k4 g4 st4 => by
    obtain ⟨G, S, kk⟩ := Zm g g2 st2 g4 st4
    exact ⟨k2.trans (k3.trans k4), G, S, (held3.keeps k4 locked).frame st4.grow kk, wk.stay pp2 st4.grow kk⟩
   cases fl with
   | nx =>
    refine fun σ4 H4 Hs4 M4 k4 g4 st4 s4 => ?_
    obtain ⟨a1, a2, a3, a4, a6⟩ := nxt k4 g4 st4
    exact ⟨a1, δ6, Hs4, M4, a2, a3, s4, a4, a6, e11⟩
   | ct =>
    refine fun σ4 H4 Hs4 M4 k4 g4 st4 s4 => ?_
    obtain ⟨a1, a2, a3, a4, a6⟩ := nxt k4 g4 st4
    exact ⟨a1, δ6, Hs4, M4, a2, a3, s4, a4, a6, e11⟩
   | bk =>
    refine fun σ4 H4 Hs4 M4 k4 g4 st4 s4 => ?_
    obtain ⟨a1, a2, a3, a4, a6⟩ := nxt k4 g4 st4
    have := Ze e11
    cases this
    exact fin_nx rfl a1 a2 a3 s4 a4
   | rt d =>
    refine fun v σ4 H4 Hs4 m4 M4 k4 g4 st4 rd s4 => ?_
    obtain ⟨a1, a2, a3, a4, a6⟩ := nxt k4 g4 st4
    have := Ze e11
    cases this
    exact q v σ4 H4 Hs4 m4 (fun b => B b + M4 b) (kl a1) (a2.re fun b => by (try dsimp only); omega) (a3.drop (fun b => by (try dsimp only); omega) a2.le) rd (ZcI e5 a4 s4)
 . left
   have e0 : items.drop i = [] := List.drop_of_length_le (by omega)
   rw [e0] at e7
   have := Ze e7
   cases this
   exact ⟨wk.stop g2.sub pp2 (by omega), fin_nx rfl k2 g2 st2 s2 held2⟩
end
theorem RepS.toL {K : Fg} {H Hs : Hp} : ∀ {vs : List V} {ds : List D} {m : Bud}, RepS K H Hs (vs.map some) ds m -> RepL K H Hs vs ds m
 | [], _, _, h => by cases h; exact .nil _
 | v :: vs, _, _, h => by
  cases h with
  | cons x y l =>
   refine .cons ?_ (RepS.toL y) l
   rcases x with rfl | ⟨w, e, r⟩
   . exact .hole _ _
   . cases e
     exact r
end T
namespace T
open PySem PySem.Spec L2
section
variable {P : Program} {w : World} {K : Fg} {mg : Str -> Option Value} {base : Heap}
theorem Zhw {N : List Str} {vs : List V} {σ' : St} {n : Nat} (hn : vs.length = n) (k : Keeps (fun i => decide (i < n)) (L2.start N vs) σ') : σ'.take n = vs.map some := by
 apply List.ext_getElem?
 intro i
 by_cases hi : i < n
 . rw [List.getElem?_take_of_lt hi, k i (by simpa using hi)]
   unfold L2.start
   rw [List.getElem?_append_left (by rw [List.length_map]; omega)]
 . rw [List.getElem?_eq_none (by rw [List.length_take]; omega), List.getElem?_eq_none (by rw [List.length_map]; omega)]
theorem Ziw {N : List Str} {vs : List V} {ds : List D} {H Hs : Hp} {m : Bud} (r : RepL K H Hs vs ds m) : RepS K H Hs (L2.start N vs) (ds ++ List.replicate (N.length - ds.length) .hole) m := by
 unfold L2.start
 rw [r.len]
 have z := Sep.append (RepL.slots r) (holes (K := K) (H := H) (Hs := Hs) (fun _ => none) (N.length - ds.length) (fun _ => 0) (List.replicate (N.length - ds.length) none) (by simp))
 exact z.mono fun b => by simp
theorem Zm7 {dV : Value} {x qual : Str} {st : Stmt} {f : Addr} {fd : FuncData} {N ps : List Str} {k : Nat} {C : Ctx} {body : List S} (F : FunV dV K x qual st f fd) (Sc : FnScope N ps (Zu st))
 (hb : ∀ (cdv : Value) (A : Around) (outer : List Env) (s : Shared) (H : Hp) (E : XK), Room k (A.deeper (PyProof.Rows.envOfC qual (Zu st) s.heap.objs.size f cdv)) ->
  PSs (cxOf CX0 P w K mg base N qual (Zu st) f cdv A outer s H E).nox (Zaz st) (tS K (fun i => decide (i < ps.length)) (exs { C with lock := fun i => decide (i < ps.length) } body))) :
 FnOk P w K mg base CX0 (k + 1) f fd ps (spF K (Zi C ps.length N.length body)) := by
 refine F.ok Sc (fun vs H Q E h => ?_) (fun cdv A outer s H vs Q E hr h => ⟨_, hb cdv A outer s H E hr, ?_⟩)
 . obtain ⟨ds, Hs, m, d, ds', g, r, e, q⟩ := h
   unfold Zi at e
   split at e
   . rename_i hl
     rw [r.len]
     exact hl
   . cases e
 . obtain ⟨ds, Hs, m, d, ds', g, r, e, q⟩ := h
   unfold Zi at e
   split at e
   . rename_i hl
     have hv : vs.length = ps.length := by rw [r.len]; exact hl
     have hr0 := Ziw (N := N) r
     rw [hl] at hr0
     cases he : exs { C with lock := fun i => decide (i < ps.length) } body (ds ++ List.replicate (N.length - ps.length) .hole) with
     | ok z =>
      obtain ⟨fl, δ'⟩ := z
      rw [he] at e
      refine ⟨_, Hs, m, fl, δ', g, hr0, he, ?_⟩
      have back : ∀ {σ' : St} {H' Hs' : Hp} {M' : Bud}, Keeps (fun i => decide (i < ps.length)) (L2.start N vs) σ' -> RepS K H' Hs' σ' δ' M' -> RepL K H' Hs' vs (δ'.take ps.length) M' := fun k' s' => by
       have z := s'.take ps.length
       rw [Zhw hv k'] at z
       exact RepS.toL z
      cases fl with
      | nx =>
       cases e
       exact fun σ' H' Hs' M' k' g' st' s' => q .non H' Hs' (fun _ => 0) M' (Zax g') (st'.drop (fun b => by simp) g'.le) (.sc _ _) (back k' s')
      | rt dd =>
       cases e
       exact fun v σ' H' Hs' m1 M' k' g' st' rv s' => q v H' Hs' m1 M' g' st' rv (back k' s')
      | bk => cases e
      | ct => cases e
     | exc x y => rw [he] at e; cases e
     | stuck => rw [he] at e; cases e
   . cases e
theorem Zdu {dV : Value} {x qual : Str} {st : Stmt} {f : Addr} {fd : FuncData} {N ps : List Str} {k n nN : Nat} {C : Ctx} {body : List S} (F : FunV dV K x qual st f fd) (Sc : FnScope N ps (Zu st)) (hn : ps.length = n) (hN : N.length = nN)
 (hb : ∀ (cdv : Value) (A : Around) (outer : List Env) (s : Shared) (H : Hp) (E : XK), Room k (A.deeper (PyProof.Rows.envOfC qual (Zu st) s.heap.objs.size f cdv)) ->
  PSs (cxOf CX0 P w K mg base N qual (Zu st) f cdv A outer s H E).nox (Zaz st) (tS K (fun i => decide (i < n)) (exs { C with lock := fun i => decide (i < n) } body))) :
 FnOk P w K mg base CX0 (k + 1) f fd ps (spF K (Zi C n nN body)) := by
 subst hn hN
 exact Zm7 F Sc hb
end
end T
namespace T
open PySem PySem.Spec L2
theorem Zeg {K : Fg} {H Hs : Hp} {σ : St} : ∀ {js : List Nat} {δ δ' : List D} {caps : List D} {M : Bud}, Zc2 js δ = .ok (caps, δ') -> RepS K H Hs σ δ M -> ∃ mc M', RepS K H Hs (Zbh js σ) caps mc /\ RepS K H Hs σ δ' M' /\ (∀ b, mc b + M' b <= M b) /\ ∀ j ∈ js, j < σ.length
 | [], δ, δ', caps, M, e, s => by
  have := Ze e
  cases this
  exact ⟨fun _ => 0, M, .nil _, s, fun b => by simp, fun j hj => by simp at hj⟩
 | j :: js, δ, δ', caps, M, e, s => by
  unfold Zc2 at e
  split at e
  . rename_i d hd
    obtain ⟨ds, δ1, e1, e2⟩ := Zb e
    have := Ze e2
    cases this
    obtain ⟨o, m1, m2, q1, q2, l, f⟩ := s.focus hd
    have z := f (RepO K H Hs) o .hole (fun _ => 0) (fun a d m' _ q => q) (.inl rfl)
    rw [ZB q1] at z
    obtain ⟨mc, M', h1, h2, h3, h4⟩ := Zeg e1 z
    refine ⟨fun b => m1 b + mc b, M', ?_, h2, fun b => by have := l b; have := h3 b; dsimp only at *; omega, fun i hi => ?_⟩
    . rw [Zd6]
      have ho : (σ[j]?).join = o := by rw [q1]; rfl
      rw [ho]
      exact .cons q2 h1 fun b => Nat.le_refl _
    . rcases List.mem_cons.mp hi with rfl | hi
      . exact (List.getElem?_eq_some_iff.mp q1).1
      . exact h4 i hi
  . cases e
theorem ZaS (caps : List D) : ZaZ [] caps = M.ret () := by cases caps <;> rfl
theorem Zf7 (j : Nat) (js : List Nat) (d : D) (ds δ : List D) : ZaZ (j :: js) (d :: ds) δ = ZaZ js ds (δ.set j d) := rfl
theorem Zhx {K : Fg} {H Hs : Hp} {σ : St} (js : List Nat) : ∀ (caps δ δ' : List D) (mc M : Bud) (u : Unit), (∀ j ∈ js, j < σ.length) -> ZaZ js caps δ = .ok (u, δ') -> RepS K H Hs (Zbh js σ) caps mc -> RepS K H Hs σ δ M -> RepS K H Hs σ δ' (fun b => mc b + M b) := by
 induction js with
 | nil =>
  intro caps δ δ' mc M u hj e c s
  rw [ZaS] at e
  have := Ze e
  cases this
  exact s.mono fun b => by omega
 | cons j js ih =>
  intro caps δ δ' mc M u hj e c s
  rw [Zd6] at c
  cases c with
  | @cons _ d _ ds m1 m2 _ x y l =>
   rw [Zf7] at e
   have hlt := hj j List.mem_cons_self
   have hlt2 : j < δ.length := by rw [<- s.length]; exact hlt
   obtain ⟨o, n1, n2, q1, q2, l2, f⟩ := s.focus (List.getElem?_eq_getElem hlt2)
   have ho : (σ[j]?).join = o := by rw [q1]; rfl
   rw [ho] at x
   have z := f (RepO K H Hs) o d m1 (fun a d m' _ q => q) x
   rw [ZB q1] at z
   have fin := ih ds (δ.set j d) δ' m2 _ u (fun i hi => hj i (List.mem_cons_of_mem _ hi)) e y z
   exact fin.mono fun b => by have := l b; have := l2 b; (try dsimp only); omega
theorem Zjv {H Hs H0 Hs0 : Hp} {M0 N : Bud} {A : Addr} {o : HO} (hA0 : H0 A = none) (hA : Hs A = none) (g : Good H Hs (fun b => one A b + N b)) (st : Stp H0 Hs0 M0 H Hs (fun b => one A b + N b)) : Good (upd H A o) Hs (fun b => one A b + N b) /\ Stp H0 Hs0 M0 (upd H A o) Hs (fun b => one A b + N b) /\ ∀ b, N b ≥ 1 -> upd H A o b = H b := by
 have hn : N A = 0 := by have : one A A + N A <= 1 := g.le A; simp [one] at this; omega
 have ne : ∀ b, b ≠ A -> upd H A o b = H b := fun b hb => Zn hb
 refine ⟨⟨fun b u e => ?_, g.le, g.ne, fun b h => ?_⟩, ⟨fun b u e z => ?_, st.own, st.grow, st.shr, fun b h => ?_⟩, fun b hb => ne b fun q => by subst q; omega⟩
 . have hb : b ≠ A := fun q => by subst q; rw [hA] at e; cases e
   rw [ne b hb]
   exact g.sub b u e
 . by_cases hb : b = A
   . subst hb; rw [Zk]; simp
   . rw [ne b hb]; exact g.has b h
 . have hb : b ≠ A := fun q => by subst q; rw [hA0] at e; cases e
   rw [ne b hb]
   exact st.keep b u e z
 . by_cases hb : b = A
   . subst hb; rw [Zk]; simp
   . rw [ne b hb]; exact st.stay b h
theorem ZgB {K : Fg} {k : Nat} {js : List Nat} {ik : IK} {cs : M (List Op)} {tgt : Tg} {cc : M Bool} {celt : M D} {σ : St} {H : Hp} {Q : VK}
 (h : tM K (cs.bnd fun ps => (Z0 ps).bnd fun h => (lift (itW ik h.1)).bnd fun items => (ZW k js (Z9 (asgT (fun i => decide (k <= i)) tgt) cc celt items [])).bnd fun d => (Zar h.2).bnd fun _ => M.ret d) σ H Q) :
 Zfc k js (tI K ik cs) (gT K tgt) (tT K cc) (tM K celt) σ H Q := by
 obtain ⟨δ, Hs, M, d, δ', g, s, ea, q⟩ := h
 obtain ⟨ps, δ1, e1, eb⟩ := Zb ea
 obtain ⟨hh, δ2, e2, ec⟩ := Zb eb
 obtain ⟨items, δ3, e3, ed⟩ := Zb ec
 obtain ⟨e3', rfl⟩ := ZL e3
 obtain ⟨dd, δ4, e4, ee⟩ := Zb ed
 obtain ⟨u, δ5, e5, e6⟩ := Zb ee
 have := Ze e6
 cases this
 have e12 : (cs.bnd Z0) δ = .ok (hh, δ3) := by
  show T.M.bnd cs Z0 δ = _
  unfold T.M.bnd
  rw [e1]
  exact e2
 refine ⟨δ, Hs, M, hh, items, δ3, g, s, e12, e3', fun J Pp H1 Hs1 B M1 g1 st1 s1 held wk pp A hA => ?_⟩
 unfold ZW at e4
 obtain ⟨caps, δ6, e7, e8⟩ := Zb e4
 obtain ⟨mc, M2, c1, c2, c3, c4⟩ := Zeg e7 s1
 have hA0 : H A = none := by
  cases q : H A with
  | none => rfl
  | some o => exact absurd hA (st1.stay A (by rw [q]; simp))
 cases hL : Z9 (asgT (fun i => decide (k <= i)) tgt) cc celt items [] (List.replicate k .hole ++ caps) with
 | exc x y => rw [hL] at e8; cases e8
 | stuck => rw [hL] at e8; cases e8
 | ok r =>
 obtain ⟨accF, δF⟩ := r
 rw [hL] at e8
 obtain ⟨u2, δ7, e9, e10⟩ := Zb e8
 obtain ⟨e11, rfl⟩ := ZL e10
 have hs1A : Hs1 A = none := by
  cases q : Hs1 A with
  | none => rfl
  | some o => rw [g1.sub A o q] at hA; cases hA
 have zA : B A = 0 /\ M1 A = 0 := by
  have l : B A + M1 A <= 1 := g1.le A
  have : B A + M1 A ≠ 1 := fun e => g1.has A e hA
  omega
 have z2 : mc A = 0 /\ M2 A = 0 := by have := c3 A; omega
 have fr : ∀ b, b ≠ A -> upd H1 A (.lst []) b = H1 b := fun b hb => Zn hb
 have g2 : Good (upd H1 A (.lst [])) Hs1 (fun b => (one A b + (B b + M2 b)) + mc b) := by
  refine ⟨fun b o e => ?_, fun b => ?_, fun b hb => ?_, fun b hb => ?_⟩
  . have hb : b ≠ A := fun q => by subst q; rw [hs1A] at e; cases e
    rw [fr b hb]; exact g1.sub b o e
  . have l : B b + M1 b <= 1 := g1.le b
    have := c3 b
    unfold one
    (try dsimp only)
    split
    . rename_i e; subst e; omega
    . omega
  . by_cases e : b = A
    . subst e; exact hs1A
    . have hb : (one A b + (B b + M2 b)) + mc b = 1 := hb
      simp only [one, if_neg e] at hb
      have l : B b + M1 b <= 1 := g1.le b
      have := c3 b
      exact g1.ne b (by show B b + M1 b = 1; omega)
  . by_cases e : b = A
    . subst e; rw [Zk]; simp
    . rw [fr b e]
      have hb : (one A b + (B b + M2 b)) + mc b = 1 := hb
      simp only [one, if_neg e] at hb
      have l : B b + M1 b <= 1 := g1.le b
      have := c3 b
      exact g1.has b (by show B b + M1 b = 1; omega)
 have st2 : Stp H Hs M (upd H1 A (.lst [])) Hs1 (fun b => (one A b + (B b + M2 b)) + mc b) := by
  refine ⟨fun b o e z => ?_, fun b hb => ?_, st1.grow, st1.shr, fun b hb => ?_⟩
  . have hb : b ≠ A := fun q => by subst q; rw [hA0] at e; cases e
    rw [fr b hb]; exact st1.keep b o e z
  . by_cases e : b = A
    . subst e; exact .inr hA0
    . have hb : (one A b + (B b + M2 b)) + mc b = 1 := hb
      simp only [one, if_neg e] at hb
      have l : B b + M1 b <= 1 := g1.le b
      have := c3 b
      exact st1.own b (by show B b + M1 b = 1; omega)
  . by_cases e : b = A
    . subst e; rw [Zk]; simp
    . rw [fr b e]; exact st1.stay b hb
 have keepA : ∀ (N : Bud), N A = 0 -> ∀ b, N b ≥ 1 -> H1 b ≠ none -> upd H1 A (.lst []) b = H1 b := fun N hN b hb _ => fr b fun q => by subst q; omega
 refine ⟨fun i m σ2 ys H2 => m = items.length - i /\ i <= items.length /\ Keeps (fun i => decide (k <= i)) (ZaR k js σ) σ2 /\ ∃ (δ2 : List D) (Hs2 : Hp) (N ma : Bud) (acc : List D), Good H2 Hs2 (fun b => (one A b + (B b + M2 b + ma b)) + N b) /\ Stp H Hs M H2 Hs2 (fun b => (one A b + (B b + M2 b + ma b)) + N b) /\ RepS K H2 Hs2 σ2 δ2 N /\
  RepL K H2 Hs2 ys acc ma /\ RepS K H2 Hs2 σ δ6 M2 /\ Held K H2 Hs2 σ hh.2 B /\ Pp H2 Hs2 /\ Z9 (asgT (fun i => decide (k <= i)) tgt) cc celt (items.drop i) acc δ2 = .ok (accF, δF),
  ⟨items.length, by simp, Nat.zero_le _, Keeps.refl _ _, List.replicate k .hole ++ caps, Hs1, mc, fun _ => 0, [], g2.re fun b => by (try dsimp only); omega, st2.drop (fun b => by (try dsimp only); omega) g2.le, ?_, .nil _, c2.frame (Same.refl _) (keepA M2 z2.2), held.frame (Same.refl _) (keepA B zA.1), wk.stay pp (Same.refl _) (keepA B zA.1), by rw [List.drop_zero]; exact hL⟩, ?_⟩
 . have z := Sep.append (holes (K := K) (H := H1) (Hs := Hs1) (fun _ => none) k (fun _ => 0) (List.replicate k none) (by simp)) c1
   exact RepS.frame (Same.refl _) (keepA mc z2.1) (z.mono fun b => by simp)
 rintro i m σ2 ys H2 ⟨rfl, hle, k2, δ2, Hs2, N, ma, acc, g3, st3, s3, ra, so, held2, pp2, e13⟩ hD
 have hsA : Hs2 A = none := g3.ne A (by have := g3.le A; (try dsimp only at this ⊢); simp only [one, if_pos] at this ⊢; omega)
 by_cases hlt : i < items.length
 . right
   have hd : items[i]? = some (items[i]'(by omega)) := List.getElem?_eq_getElem (by omega)
   have hdrop : items.drop i = items[i]'(by omega) :: items.drop (i + 1) := List.drop_eq_getElem_cons (by omega)
   rw [hdrop] at e13
   obtain ⟨u3, δ8, e14, e15⟩ := Zb e13
   obtain ⟨t, δ9, e16, e17⟩ := Zb e15
   refine ⟨wk.go g3.sub pp2 hlt, fun x H' y => ?_⟩
   obtain ⟨Hs3, gr, rv⟩ := wk.yld g3.sub pp2 hd y
   obtain ⟨sm, fr, _⟩ := gr.same g3.sub
   have pp2 := wk.stay pp2 sm fun b _ n => fr b n
   have s3 := RepS.frame sm (fun b _ n => fr b n) s3
   have so := RepS.frame sm (fun b _ n => fr b n) so
   have ra := ra.frame sm fun b _ n => fr b n
   have held2 := held2.frame sm fun b _ n => fr b n
   have hD : H' A = some (.lst ys) := (fr A (by rw [hD]; simp)).trans hD
   have st3 := gr.stp g3 st3
   have g3 := gr.good g3
   clear gr sm fr y hsA
   generalize Hs3 = Hs2 at *
   generalize H' = H2 at *
   refine ZgA (Hs := Hs2) g3.sub e14 rv s3 fun σ3 k3 s4 => ?_
   refine ⟨δ8, Hs2, N, t, δ9, g3.re fun b => by (try dsimp only); omega, s4, e16, fun H4 Hs4 M4 g4 st4 s5 => ?_⟩
   obtain ⟨G, S, kk⟩ := Zm (m1 := fun b => one A b + (B b + M2 b + ma b)) g g3 st3 g4 st4
   have kA : H4 A = some (.lst ys) := by rw [<- hD]; exact kk A (by simp [one]) (by rw [hD]; simp)
   have ra4 := ra.frame st4.grow fun b hb => kk b (by (try dsimp only); omega)
   have so4 := RepS.frame st4.grow (fun b hb => kk b (by (try dsimp only); omega)) so
   have held4 := held2.frame st4.grow fun b hb => kk b (by (try dsimp only); omega)
   have pp4 := wk.stay pp2 st4.grow fun b hb => kk b (by (try dsimp only); omega)
   have lmeas : items.length - (i + 1) < items.length - i := by omega
   cases t with
   | false =>
    dsimp only
    rw [if_neg Bool.false_ne_true]
    exact ⟨kA, _, lmeas, rfl, hlt, k2.trans k3, δ9, Hs4, M4, ma, acc, G, S, s5, ra4, so4, held4, pp4, e17⟩
   | true =>
    dsimp only
    rw [if_pos rfl]
    rw [if_pos rfl] at e17
    obtain ⟨xd, δ10, e18, e19⟩ := Zb e17
    refine ⟨δ9, Hs4, M4, xd, δ10, g4, s5, e18, fun yv H5 Hs5 m5 M5 g5 st5 r5 s6 => ?_⟩
    obtain ⟨G5, S5, kk5⟩ := Zm (m1 := fun b => one A b + (B b + M2 b + ma b)) g G S g5 st5
    have kA5 : H5 A = some (.lst ys) := by rw [<- kA]; exact kk5 A (by simp [one]) (by rw [kA]; simp)
    have hsz : ys.length < sizeLine := by
     have e20 : accF.length <= sizeLine := by
      unfold newL at e11
      split at e11
      . rename_i hz; exact hz
      . cases e11
     have grow : ∀ (its acc : List D) (δ : List D) (r : List D × List D), Z9 (asgT (fun i => decide (k <= i)) tgt) cc celt its acc δ = .ok r -> acc.length <= r.1.length := by
      intro its
      induction its with
      | nil => intro acc δ r e; have := Ze e; subst this; exact Nat.le_refl _
      | cons a its ih =>
       intro acc δ r e
       obtain ⟨_, _, _, f1⟩ := Zb e
       obtain ⟨tt, _, _, f2⟩ := Zb f1
       cases tt with
       | false => exact ih _ _ _ f2
       | true =>
        rw [if_pos rfl] at f2
        obtain ⟨_, _, _, f3⟩ := Zb f2
        have := ih _ _ _ f3
        rw [List.length_append, List.length_singleton] at this
        omega
     have := grow _ _ _ _ e19
     dsimp only at this
     rw [List.length_append, List.length_singleton] at this
     have := ra.len
     omega
    have hsA5 : Hs5 A = none := G5.ne A (by have := G5.le A; (try dsimp only at this ⊢); simp only [one, if_pos] at this ⊢; omega)
    have G5' : Good H5 Hs5 (fun b => one A b + (B b + M2 b + ma b + (m5 b + M5 b))) := G5.re fun b => by (try dsimp only); omega
    obtain ⟨G6, S6, k6⟩ := Zjv (o := .lst (ys ++ [yv])) hA0 hsA5 G5' (S5.drop (fun b => by (try dsimp only); omega) G5.le)
    have fr6 : ∀ (R : Bud), (∀ b, R b <= B b + M2 b + ma b + (m5 b + M5 b)) -> ∀ b, R b ≥ 1 -> H5 b ≠ none -> upd H5 A (.lst (ys ++ [yv])) b = H5 b := fun R hR b hb _ => k6 b (by have := hR b; omega)
    refine ⟨kA5, hsz, _, lmeas, rfl, hlt, k2.trans k3, δ10, Hs5, M5, fun b => ma b + m5 b, acc ++ [xd], G6.re fun b => by (try dsimp only); omega, S6.drop (fun b => by (try dsimp only); omega) G6.le, RepS.frame (Same.refl _) (fr6 M5 fun b => by omega) s6, ?_, ?_, ?_, ?_, e19⟩
    . exact RepL.frame (Same.refl _) (fr6 _ fun b => by (try dsimp only); omega) ((ra4.frame st5.grow fun b hb => kk5 b (by (try dsimp only); omega)).app (.cons r5 (.nil (fun _ => 0)) fun b => by simp))
    . exact RepS.frame (Same.refl _) (fr6 M2 fun b => by omega) (RepS.frame st5.grow (fun b hb => kk5 b (by (try dsimp only); omega)) so4)
    . exact (held4.frame st5.grow fun b hb => kk5 b (by (try dsimp only); omega)).frame (Same.refl _) (fr6 B fun b => by omega)
    . exact wk.stay (wk.stay pp4 st5.grow fun b hb => kk5 b (by (try dsimp only); omega)) (Same.refl _) (fr6 B fun b => by omega)
 . left
   have e0 : items.drop i = [] := List.drop_of_length_le (by omega)
   rw [e0] at e13
   have := Ze e13
   cases this
   refine ⟨wk.stop g3.sub pp2 (by omega), ?_⟩
   have hdrop : σ2.drop k = Zbh js σ := by
    have hl2 : σ2.length = δF.length := s3.length
    apply List.ext_getElem?
    intro j
    rw [List.getElem?_drop, k2 (k + j) (by simp)]
    unfold ZaR
    rw [List.getElem?_append_right (by simp)]
    simp
   have sd := s3.drop k
   rw [hdrop] at sd
   have so' := Zhx js _ _ _ _ _ _ c4 e9 sd so
   unfold newL at e11
   split at e11
   . cases e11
     have rD : Rep K H2 Hs2 (.ref A) (.node .lst true accF) (fun b => one A b + ma b) := .own hD ra fun b => Nat.le_refl _
     exact q _ H2 Hs2 (fun b => one A b + ma b) (fun b => B b + (N b + M2 b)) (g3.re fun b => by (try dsimp only); omega) (st3.drop (fun b => by (try dsimp only); omega) g3.le) rD (ZcI e5 held2 so')
   . cases e11
section
variable {X : Cx} {elt tg iter : Expr} {ifs : List Expr} {scope : Scope} {pos spos pos' : Pos} {k : Nat} {js : List Nat} {N' : List Str} {ik : IK} {cs : M (List Op)} {tgt : Tg} {cc : M Bool} {celt : M D} {lk : Nat -> Bool} {i : Nat} {x : Str} {sc : Scope} {N : List Str}
theorem PIf.imp {t t' : TT} (h : PIf X ifs t) (w : ∀ σ H Q, t' σ H Q -> t σ H Q) : PIf X ifs t' := fun pins s σ H Q I q => h pins s σ H Q I (w σ H Q q)
theorem ZaH : PIf X [] (tT X.K (M.ret true)) := PIf.imp ZkH fun σ H Q h => Zf3 h
theorem Zix {c : Expr} {ct : M Bool} (h : PT X c (tT X.K ct)) : PIf X [c] (tT X.K (ct.bnd fun b => if b then M.ret true else M.ret false)) := PIf.imp (ZkI h) fun σ H Q h => by
 obtain ⟨δ, Hs, M, b, δ', g, s, e, q⟩ := h
 obtain ⟨t, δ1, e1, e2⟩ := Zb e
 refine ⟨δ, Hs, M, t, δ1, g, s, e1, fun H' Hs' M' g' st s' => ?_⟩
 cases t with
 | true => have := Ze e2; cases this; exact q H' Hs' M' g' st s'
 | false => have := Ze e2; cases this; exact q H' Hs' M' g' st s'
theorem ZaM (hc : X.calm = true) (S : CompScope X k js N' scope) (hi : PI X tg iter (tI X.K ik cs))
 (hin : ∀ (cl : List (Str × Addr)) (C : Addr) (s₀ : Shared) (H₀ : Hp) (ex : List Addr), PG (cxC X N' scope cl C s₀ H₀ ex) tg (gT X.K tgt) /\ PIf (cxC X N' scope cl C s₀ H₀ ex) ifs (tT X.K cc) /\ PE (cxC X N' scope cl C s₀ H₀ ex) elt (tM X.K celt))
 (hs : ∀ x, foldedSetIterable iter X.env x = pure x := by intro _; rfl) :
 PE X (.ListComp elt [⟨tg, iter, ifs, 0⟩] scope pos) (tM X.K (cs.bnd fun ps => (Z0 ps).bnd fun h => (lift (itW ik h.1)).bnd fun items => (ZW k js (Z9 (asgT (fun i => decide (k <= i)) tgt) cc celt items [])).bnd fun d => (Zar h.2).bnd fun _ => M.ret d)) :=
 PE.imp (ZkJ hc S hi hin hs) fun σ H Q h => ZgB h
theorem Zla (h : Zt sc N i x false = true) (nd : N.Nodup) (hw : Zda sc scope x = true) (hc : X.calm = true) (S : CompScope X k js N' scope) (hi : PI X tg iter (tI X.K ik cs))
 (hin : ∀ (cl : List (Str × Addr)) (C : Addr) (s₀ : Shared) (H₀ : Hp) (ex : List Addr), PG (cxC X N' scope cl C s₀ H₀ ex) tg (gT X.K tgt) /\ PIf (cxC X N' scope cl C s₀ H₀ ex) ifs (tT X.K cc) /\ PE (cxC X N' scope cl C s₀ H₀ ex) elt (tM X.K celt))
 (hl : (pos'.line == pos.line) = true := by rfl) (e1 : X.env.scope = sc := by rfl) (e2 : X.N = N := by rfl) (hs : ∀ x, foldedSetIterable iter X.env x = pure x := by intro _; rfl) :
 PS X (.Assign [.Name x pos'] (.ListComp elt [⟨tg, iter, ifs, 0⟩] scope pos) spos) (tS X.K lk ((cs.bnd fun ps => (Z0 ps).bnd fun h => (lift (itW ik h.1)).bnd fun items => (ZW k js (Z9 (asgT (fun i => decide (k <= i)) tgt) cc celt items [])).bnd fun d => (Zar h.2).bnd fun _ => M.ret d).bnd fun d => (asgN lk i d).bnd fun _ => M.ret .nx)) :=
 PS.imp (Zjn h nd hw hc S hi hin hl e1 e2 hs) fun E σ H hh => by
 obtain ⟨δ, Hs, M, f, δ', g, s, e, q⟩ := hh
 obtain ⟨d, δ1, e1, e2⟩ := Zb e
 obtain ⟨u, δ2, e3, e4⟩ := Zb e2
 have := Ze e4
 cases this
 obtain ⟨h1, h2, rfl⟩ := Zds e3
 exact ZgB ⟨δ, Hs, M, d, δ1, g, s, e1, fun v H' Hs' m M' g' st' r s' => q _ H' Hs' _ (Zco h2) g' st' (Zcc s' h1 r)⟩
theorem Zlb {e : Expr} {c : M D} {b : Bool} (h : Zt sc N i x b = true) (nd : N.Nodup) (he : PE X e (tM X.K c)) (hs : swapsWith e (some (.Name x pos')) pos.line X.env = pure false := by rfl) (e1 : X.env.scope = sc := by rfl) (e2 : X.N = N := by rfl)
 (hf : X.fn x = true \/ b = false := by first | exact .inl rfl | exact .inr rfl) : PS X (.Assign [.Name x pos'] e pos) (tS X.K lk (c.bnd fun d => (asgN lk i d).bnd fun _ => M.ret .nx)) := by
 obtain ⟨h1, h2, h3, h4⟩ := Zt.at h
 have l := Zt.loc h
 subst e1 e2
 refine Zm5 nd h1 l he hs ?_
 rcases hf with q | q
 . exact .inl q
 . subst q
   exact .inr h2
theorem ZoN {es : List Expr} {is : List Nat} {b : Bool} (h : Zt sc N i x b = true) (nd : N.Nodup) (hr : PGs X es (gNs is)) (e1 : X.env.scope = sc := by rfl) (e2 : X.N = N := by rfl) (hf : X.fn x = true \/ b = false := by first | exact .inl rfl | exact .inr rfl)
 (hs : (assignEach (.Name x pos :: es) X.env).map (·.2) = assign (.Name x pos) X.env :: (assignEach es X.env).map (·.2) := by rfl) : PGs X (.Name x pos :: es) (gNs (i :: is)) := by
 obtain ⟨h1, h2, h3, h4⟩ := Zt.at h
 have l := Zt.loc h
 subst e1 e2
 refine ok_g nd h1 l hr ?_ hs
 rcases hf with q | q
 . exact .inl q
 . subst q
   exact .inr h2
theorem ZoO {b : Bool} (h : Zt sc N i x b = true) (nd : N.Nodup) (e1 : X.env.scope = sc := by rfl) (e2 : X.N = N := by rfl) (hf : X.fn x = true \/ b = false := by first | exact .inl rfl | exact .inr rfl) : PG X (.Name x pos) (gT X.K (.name i)) := Zjm h nd e1 e2 hf
end
end T
namespace T
open PySem PySem.Spec L2
def ZbX (ca : M Op) (lk : Nat -> Bool) : Prop := ∀ δ p δ', ca δ = .ok (p, δ') -> ∀ i, p = .late i -> lk i = true
theorem Zdv {i : Nat} {lk : Nat -> Bool} (h : lk i = true) : ZbX (ZT i) lk := fun δ p δ' e j hj => by
 unfold ZT at e
 split at e <;> cases e <;> cases hj <;> exact h
theorem Zm8 {c : M D} {lk : Nat -> Bool} : ZbX (c.bnd fun d => M.ret (.tmp d)) lk := fun δ p δ' e j hj => by
 obtain ⟨d, δ1, e1, e2⟩ := Zb e
 have := Ze e2
 cases this
 cases hj
theorem Ziy {p : Op} {δ δ' : List D} {w : W × Option (Nat × D)} (e : Zaq p δ = .ok (w, δ')) : ∀ q ∈ w.2.toList, p = .late q.1 := fun q hq => by
 cases p with
 | tmp d => cases d <;> cases e <;> simp at hq
 | late i =>
  unfold Zaq at e
  dsimp only at e
  split at e <;> cases e <;> simp at hq
  subst hq
  rfl
theorem hw_1 {ca : M Op} {lk : Nat -> Bool} (h : ZbX ca lk) : HWs (ca.bnd fun p => (M.ret ([] : List Op)).bnd fun ps => M.ret (p :: ps)) lk := fun δ w δ' e q hq => by
 obtain ⟨p, δ1, w1, e1, e2, rfl⟩ := Zhv e
 exact h _ _ _ e1 _ (Ziy e2 q hq)
theorem hw_2 {ca cb : M Op} {lk : Nat -> Bool} (h1 : ZbX ca lk) (h2 : ZbX cb lk) : HWs (ca.bnd fun p => (cb.bnd fun p => (M.ret ([] : List Op)).bnd fun ps => M.ret (p :: ps)).bnd fun ps => M.ret (p :: ps)) lk := fun δ w δ' e q hq => by
 obtain ⟨ps, δ1, e1, e2⟩ := Zb e
 obtain ⟨p1, δ2, e3, e4⟩ := Zb e1
 obtain ⟨qs, δ3, e5, e6⟩ := Zb e4
 obtain ⟨p2, δ4, e7, e8⟩ := Zb e5
 obtain ⟨z, δ5, e9, e10⟩ := Zb e8
 have := Ze e9
 cases this
 have := Ze e10
 cases this
 have := Ze e6
 cases this
 have := Zd7 e2 q hq
 rcases List.mem_cons.mp this with z | z
 . exact h1 _ _ _ e3 _ z.symm
 . exact h2 _ _ _ e7 _ (List.mem_singleton.mp z).symm
section
variable {X : Cx} {e a b c : Expr} {pos p : Pos} {ca cb cc : M Op} {x : Str} {j n : Nat} {fi : FI} {ps : List Str}
theorem ZoP {v : V} {d : D} (h : PE X e (tC v)) (hr : ∀ H Hs m, Rep X.K H Hs v d m) : PE X e (tM X.K (M.ret d)) := PE.imp h fun σ H Q z0 => by
 obtain ⟨δ, Hs, M, d', δ', g, r, e, q⟩ := z0
 have := Ze e
 cases this
 exact q v H Hs (fun _ => 0) M (Zax g) (stp0 H Hs M) (hr H Hs _) r
end
noncomputable def Ze1 : Expr -> Option V
 | .Constant (.int n) _ _ => some (.int n)
 | .Constant (.str z) _ _ => some (.str z)
 | .Constant (.bool b) _ _ => some (.bl b)
 | .Constant .none _ _ => some .non
 | _ => none
noncomputable def Zcd : List Expr -> Option (List V)
 | [] => some []
 | e :: es => (Ze1 e).bind fun v => (Zcd es).map (v :: ·)
theorem Zjw {X : Cx} {e : Expr} {v : V} (h : Ze1 e = some v) : PE X e (tC v) /\ ∀ es : List Expr, starEach (e :: es) X.env = (false, eval e X.env) :: starEach es X.env := by
 unfold Ze1 at h
 split at h
 . cases h; exact ⟨Z4, fun es => rfl⟩
 . cases h; exact ⟨ZlG, fun es => rfl⟩
 . cases h; exact ⟨Zcj, fun es => rfl⟩
 . cases h; exact ⟨ZlF, fun es => rfl⟩
 . cases h
theorem ZeN {X : Cx} : ∀ {es : List Expr} {vs : List V}, Zcd es = some vs -> PA X es (fun _ H Q => Q vs H)
 | [], vs, h => by
  simp only [Zcd, Option.some.injEq] at h
  subst h
  exact Zbd
 | e :: es, vs, h => by
  simp only [Zcd, Option.bind_eq_some_iff, Option.map_eq_some_iff] at h
  obtain ⟨v, h1, ws, h2, rfl⟩ := h
  obtain ⟨c1, c2⟩ := Zjw (X := X) h1
  exact Zam c1 (ZeN h2) (c2 es)
theorem Ze2 {K : Fg} {H Hs : Hp} : ∀ (vs : List V), RepL K H Hs vs (vs.map D.sc) (fun _ => 0)
 | [] => .nil _
 | v :: vs => .cons (m1 := fun _ => 0) (m2 := fun _ => 0) (.sc v _) (Ze2 vs) fun b => by simp
theorem ZoQ {X : Cx} {es : List Expr} {vs : List V} {pos : Pos} (h : Zcd es = some vs) : PE X (.List es pos) (tM X.K (lift (newL (vs.map D.sc)))) := PE.imp (ZhR (ZeN h)) fun σ H Q hq => by
 obtain ⟨δ, Hs, M, d, δ', g, s, e, q⟩ := hq
 obtain ⟨e1, rfl⟩ := ZL e
 unfold newL at e1
 split at e1
 . rename_i hl
   cases e1
   have o : Outs X.K H Hs (fun _ => 0) _ Q := Zba (B := fun _ => 0) (M := M) (stp0 H Hs M) (Zax g) s q
   exact ⟨by simpa using hl, fun p hp => o.new (fun b => by simp) (fun b hb => by simp at hb) hp (vs := vs) Zk (Ze2 vs)⟩
 . cases e1
theorem ZaC : bootBuiltins "len" = some (.builtin "len") := by decide +kernel
theorem Zeh : bootBuiltins "sum" = some (.builtin "sum") := by decide +kernel
theorem Ziz : bootBuiltins "all" = some (.builtin "all") := by decide +kernel
theorem Zm9 : bootBuiltins "any" = some (.builtin "any") := by decide +kernel
theorem ZmA : bootBuiltins "max" = some (.builtin "max") := by decide +kernel
theorem ZmB : bootBuiltins "int" = some (.type "int") := by decide +kernel
theorem ZbY : bootBuiltins "list" = some (.type "list") := by decide +kernel
noncomputable def C0 : Ctx := { lock := fun _ => false, fok := fun _ _ => false, fuel := 0 }
end T
namespace T
open PySem PySem.Spec L2
section
variable {X : Cx} {o e a : Expr} {es : List Expr} {cpos apos pos p : Pos} {ca : M Op} {cs : M (List Op)} {i : Nat} {name m x f : Str} {A : Addr} {fi : FI} {j n : Nat} {ps : List Str}
theorem Zlc {K : Fg} {H Hs : Hp} {σ : St} {δ δ' : List D} {m0 M : Bud} {p : Op} {v : V} {u : Unit} (g : Good H Hs (fun b => m0 b + M b)) (s : RepS K H Hs σ δ M) (r : RepP K H Hs σ v p m0) (h : chkI A m p δ = .ok (u, δ')) :
 δ' = δ /\ ∃ a dx fs, v = .ref a /\ H a = some (.ins A dx fs) /\ fs.lookup m = none := by
 have fin : ∀ {B : Addr} {fs : List Str} {o : Bool} {ds : List D} {m1 : Bud}, Rep K H Hs v (.node (.ins B fs) o ds) m1 -> B = A -> m ∉ fs -> ∃ a dx fs, v = .ref a /\ H a = some (.ins A dx fs) /\ fs.lookup m = none := fun {B fs o ds m1} q hB hm => by
  subst hB
  have nl : ∀ {vs : List V}, fs.length = vs.length -> (fs.zip vs).lookup m = none := fun {vs} hl => by
   rw [List.lookup_eq_none_iff]
   intro p hp
   have := (List.of_mem_zip (a := p.1) (b := p.2) hp).1
   have hne : m ≠ p.1 := fun q => hm (by rw [q]; exact this)
   simpa using hne
  cases q with
  | own n q _ => obtain ⟨hl, dx, e⟩ := n; exact ⟨_, dx, _, rfl, e, nl hl⟩
  | shd n q => obtain ⟨hl, dx, e⟩ := n; exact ⟨_, dx, _, rfl, g.sub _ _ e, nl hl⟩
 cases p with
 | late i =>
  unfold chkI at h
  dsimp only at h
  split at h
  . rename_i B fs oo ds hi
    split at h
    . rename_i hc
      cases h
      obtain ⟨v', m1, m2, e1, q, l, f⟩ := s.slot hi (by simp)
      rw [show σ[i]? = some (some v) from r] at e1
      cases e1
      exact ⟨rfl, fin q hc.1 hc.2⟩
    . cases h
  . cases h
 | tmp d =>
  cases d with
  | sc u => cases h
  | hole => cases h
  | node k oo ds =>
   cases k with
   | ins B fs =>
    unfold chkI at h
    dsimp only at h
    split at h
    . rename_i hc
      cases h
      exact ⟨rfl, fin r hc.1 hc.2⟩
    . cases h
   | _ => cases h
theorem Zld {K : Fg} {σ : St} {H : Hp} {Q : VK} {E : XK} (h : tM K (ca.bnd fun p => (chkI A m p).bnd fun _ => cs.bnd fun ps => ZaL fi (p :: ps)) σ H Q) :
 tP K ca σ H fun x H1 => ∃ a dx fs, x = .ref a /\ H1 a = some (.ins A dx fs) /\ fs.lookup m = none /\ tPs K cs σ H1 fun vs H2 => spF K fi.run (x :: vs) H2 Q E := by
 obtain ⟨δ, Hs, M, d, δ', g, s, ea, q⟩ := h
 obtain ⟨p, δ1, e1, eb⟩ := Zb ea
 obtain ⟨u, δ2, e2, ec⟩ := Zb eb
 obtain ⟨ps, δ3, e3, ed⟩ := Zb ec
 refine ⟨δ, Hs, M, p, δ1, g, s, e1, fun x H1 Hs1 m1 M1 g1 st1 r1 s1 => ?_⟩
 obtain ⟨rfl, a, dx, fs, hx, ha, hl⟩ := Zlc g1 s1 r1 e2
 refine ⟨a, dx, fs, hx, ha, hl, δ2, Hs1, M1, ps, δ3, g1.re, s1, e3, fun vs H2 Hs2 m2 M2 g2 st2 r2 s2 => ?_⟩
 obtain ⟨G2, S2, k2⟩ := Zm g g1 st1 g2 st2
 have r1' := RepP.frame st2.grow k2 r1
 exact Zf4 (m1 := fun b => m1 b + m2 b) g (G2.re fun b => by (try dsimp only); omega) (S2.drop (fun b => by (try dsimp only); omega) G2.le) (show ZaW K H2 Hs2 σ (x :: vs) (p :: ps) (fun b => m1 b + m2 b) from ⟨m1, m2, r1', r2, fun b => Nat.le_refl _⟩) s2 ed q
theorem ZM {pl : Sem Bool} (G : MeAt X.prog X.w X.K X.mg X.base A m j ps (spF X.K fi.run)) (hr : Room n X.A) (ho : PE X o (tP X.K ca)) (ha : PA X (e :: es) (tPs X.K cs)) (hj : j <= n := by decide)
 (hst : starEach (e :: es) X.env = (false, eval e X.env) :: starEach es X.env := by rfl) (hpl : (backTo pos (starEach es X.env)).any (·.1) = false := by rfl)
 (ht : eval (.Call (.Attribute o m apos) (e :: es) [] pos) X.env = (do
  let ov <- eval o X.env
  standAt apos.atName
  let (f, first) <- holding [ov] (getMethod ov m pl)
  callWith pos f first (backTo pos (starEach (e :: es) X.env)) (backToKw pos (keywordEach [] X.env))) := by rfl) :
 PE X (.Call (.Attribute o m apos) (e :: es) [] pos) (tM X.K (ca.bnd fun p => (chkI A m p).bnd fun _ => cs.bnd fun ps => ZaL fi (p :: ps))) := PE.imp (Zoh G hr ho ha hj hst hpl ht) fun σ H Q h => by
 refine tG.mono (Zld (E := E0) h) fun x H1 ⟨a, dx, fs, hx, hh, hl, z⟩ => ⟨a, dx, fs, hx, hh, hl, ?_⟩
 obtain ⟨δ, Hs, M, aa, δ', g, s, e, q⟩ := z
 refine ⟨δ, Hs, M, aa, δ', g, s, e, fun vs H' Hs' m M' g' st r s' => ?_⟩
 show spF X.K fi.run (x :: (vs ++ [])) H' Q E0
 rw [List.append_nil]
 exact q vs H' Hs' m M' g' st r s'
theorem ZmC {K : Fg} {σ : St} {H : Hp} {Q : VK} {E : XK} (h : tM K (cs.bnd fun ps => newF A fi ps) σ H Q) :
 tPs K cs σ H fun vs H1 => ∀ x dx, H1 x = none -> H1 dx = none -> dx ≠ x -> spF K fi.run (.ref x :: vs) (upd (upd H1 dx (.own x)) x (.ins A dx [])) (fun v H2 => v = .non /\ Q (.ref x) H2) E := by
 obtain ⟨δ, Hs, M, d, δ', g, s, e, q⟩ := h
 obtain ⟨ps, δ1, e1, e⟩ := Zb e
 refine ⟨δ, Hs, M, ps, δ1, g, s, e1, fun vs H1 Hs1 m1 M1 g1 st1 r1 s1 x dx hx hdx hne => ?_⟩
 unfold newF at e
 obtain ⟨ds, δ2, e2, e⟩ := Zb e
 cases hF : fi.run (.node (.ins A []) true [] :: ds) with
 | exc x y => rw [hF] at e; cases e
 | stuck => rw [hF] at e; cases e
 | ok r =>
  obtain ⟨d', ds'⟩ := r
  rw [hF] at e
  match d', ds', e, hF with
  | .sc .non, dI :: ds', e, hF =>
   dsimp only at e
   obtain ⟨u, δ3, e3, e⟩ := Zb e
   have := Ze e
   cases this
   obtain ⟨Hs2, m2, M2, g2, st2, q2, s2⟩ := ZdF (B := fun _ => 0) (g1.re fun b => by simp) s1 r1 e2
   have z0 := Zm (m1 := fun _ => 0) g (g1.re fun b => by simp) (st1.drop (fun b => by simp) g1.le) (g2.re fun b => by simp) (M1 := fun b => m1 b + M1 b) (M2 := fun b => m2 b + M2 b) (by
    have := st2
    exact ⟨fun b o h z => this.keep b o h (by simpa using z), fun b h => by have := this.own b (by simpa using h); simpa using this, this.grow, fun b h h' => by have := this.shr b h h'; simpa using this, this.stay⟩)
   have G2 : Good H1 Hs2 (fun b => M2 b + m2 b) := g2.re fun b => by simp; omega
   have S2 : Stp H Hs M H1 Hs2 (fun b => M2 b + m2 b) := z0.2.1.drop (fun b => by simp; omega) z0.1.le
   have hsx : Hs2 x = none := by
    cases w : Hs2 x with
    | none => rfl
    | some o => rw [G2.sub x o w] at hx; cases hx
   have hsd : Hs2 dx = none := by
    cases w : Hs2 dx with
    | none => rfl
    | some o => rw [G2.sub dx o w] at hdx; cases hdx
   have zz : ∀ b, H1 b = none -> M2 b = 0 /\ m2 b = 0 := fun b hb => by
    have l : M2 b + m2 b <= 1 := G2.le b
    have : M2 b + m2 b ≠ 1 := fun e => G2.has b e hb
    omega
   have nw : ∀ b, b ≠ x -> b ≠ dx -> upd (upd H1 dx (.own x)) x (.ins A dx []) b = H1 b := fun b h1 h2 => by rw [Zn h1, Zn h2]
   have atx : upd (upd H1 dx (.own x)) x (.ins A dx []) x = some (.ins A dx []) := Zk
   have atd : upd (upd H1 dx (.own x)) x (.ins A dx []) dx = some (.own x) := by rw [Zn hne]; exact Zk
   have old : ∀ b, H1 b ≠ none -> b ≠ x /\ b ≠ dx := fun b hb => ⟨fun e => hb (by rw [e]; exact hx), fun e => hb (by rw [e]; exact hdx)⟩
   have same : Same H1 (upd (upd H1 dx (.own x)) x (.ins A dx [])) := fun b o e => by
    obtain ⟨h1, h2⟩ := old b (by rw [e]; simp)
    rw [nw b h1 h2]; exact e
   have G3 : Good (upd (upd H1 dx (.own x)) x (.ins A dx [])) Hs2 (fun b => M2 b + (one x b + m2 b)) := by
    refine ⟨fun b o e => same b o (G2.sub b o e), fun b => ?_, fun b hb => ?_, fun b hb => ?_⟩
    . have l : M2 b + m2 b <= 1 := G2.le b
      unfold one
      (try dsimp only)
      split
      . rename_i e; subst e; have := zz b hx; omega
      . omega
    . by_cases e : b = x
      . subst e; exact hsx
      . have hb : M2 b + (one x b + m2 b) = 1 := hb
        simp only [one, if_neg e] at hb
        exact G2.ne b (by show M2 b + m2 b = 1; omega)
    . by_cases e : b = x
      . subst e; rw [atx]; simp
      . have hb : M2 b + (one x b + m2 b) = 1 := hb
        simp only [one, if_neg e] at hb
        have := G2.has b (by show M2 b + m2 b = 1; omega)
        obtain ⟨h1, h2⟩ := old b this
        rw [nw b h1 h2]; exact this
   have S3 : Stp H Hs M (upd (upd H1 dx (.own x)) x (.ins A dx [])) Hs2 (fun b => M2 b + (one x b + m2 b)) := by
    refine ⟨fun b o e z => same b o (S2.keep b o e z), fun b hb => ?_, S2.grow, S2.shr, fun b hb => ?_⟩
    . by_cases e : b = x
      . subst e
        right
        cases w : H b with
        | none => rfl
        | some o => exact absurd hx (S2.stay b (by rw [w]; simp))
      . have hb : M2 b + (one x b + m2 b) = 1 := hb
        simp only [one, if_neg e] at hb
        exact S2.own b (by show M2 b + m2 b = 1; omega)
    . have := S2.stay b hb
      obtain ⟨h1, h2⟩ := old b this
      rw [nw b h1 h2]; exact this
   have fr : ∀ b, H1 b ≠ none -> upd (upd H1 dx (.own x)) x (.ins A dx []) b = H1 b := fun b hb => nw b (old b hb).1 (old b hb).2
   have q3 : RepL K (upd (upd H1 dx (.own x)) x (.ins A dx [])) Hs2 vs ds m2 := q2.frame (Same.refl _) fun b _ hb => fr b hb
   have s3 : RepS K (upd (upd H1 dx (.own x)) x (.ins A dx [])) Hs2 σ δ2 M2 := RepS.frame (Same.refl _) (fun b _ hb => fr b hb) s2
   have rx : Rep K (upd (upd H1 dx (.own x)) x (.ins A dx [])) Hs2 (.ref x) (.node (.ins A []) true []) (one x) := .own (vs := []) (m' := fun _ => 0) ⟨rfl, dx, atx⟩ (.nil _) fun b => by simp
   refine ⟨_, Hs2, fun b => one x b + m2 b, _, _, G3.re fun b => by (try dsimp only); omega, .cons rx q3 fun b => Nat.le_refl _, hF, fun v H4 Hs4 n1 n2 g4 st4 r4 rl4 => ?_⟩
   cases r4
   refine ⟨rfl, ?_⟩
   cases rl4 with
   | @cons _ _ _ _ k1 k2 _ ra rb lk =>
    obtain ⟨G, S, k⟩ := Zm g G3 S3 g4 st4
    have s4 := RepS.frame st4.grow k s3
    have fin := ZdG s4 rb (lates r1) e3
    exact q _ H4 Hs4 k1 (fun b => k2 b + M2 b) (G.re fun b => by have := lk b; (try dsimp only); omega) (S.drop (fun b => by have := lk b; (try dsimp only); omega) G.le) ra fin
theorem ZmD (G : MkAt X.prog X.w X.K X.mg X.base x A j ps (spF X.K fi.run)) (hr : Room n X.A) (ha : PA X (e :: es) (tPs X.K cs)) (hj : j + 1 <= n := by decide) (hg : Gl X x := by rfl) (hdb : (x == ("__debug__" : Str)) = false := by decide)
 (he : starEach (e :: es) X.env = (false, eval e X.env) :: starEach es X.env := by rfl) (hpl : (backTo pos (starEach es X.env)).any (·.1) = false := by rfl) :
 PE X (.Call (.Name x p) (e :: es) [] pos) (tM X.K (cs.bnd fun ps => newF A fi ps)) := PE.imp (Zoi G hr ha hj hg hdb he hpl) fun σ H Q h => by
 obtain ⟨δ, Hs, M, aa, δ', g, s, e, q⟩ := ZmC (E := E0) h
 refine ⟨δ, Hs, M, aa, δ', g, s, e, fun vs H' Hs' m M' g' st r s' x dx h1 h2 h3 => ?_⟩
 show spF X.K fi.run (.ref x :: (vs ++ [])) _ _ E0
 rw [List.append_nil]
 exact q vs H' Hs' m M' g' st r s' x dx h1 h2 h3
theorem Zf8 (f : Str) (v : V) : ∀ (fs : List Str) (vs : List V), fs.length = vs.length -> putF f v (fs.zip vs) = (putN f fs).zip (putV f v fs vs) /\ (putN f fs).length = (putV f v fs vs).length
 | [], [], _ => ⟨rfl, rfl⟩
 | g :: fs, x :: vs, h => by
  obtain ⟨i1, i2⟩ := Zf8 f v fs vs (by simpa using h)
  rw [List.zip_cons_cons]
  show (if g = f then (g, v) :: fs.zip vs else (g, x) :: putF f v (fs.zip vs)) = _ /\ _
  simp only [putN, putV]
  split
  . exact ⟨rfl, by simpa using h⟩
  . rw [i1]
    exact ⟨rfl, by rw [List.length_cons, List.length_cons, i2]⟩
 | [], _ :: _, h => by simp at h
 | _ :: _, [], h => by simp at h
theorem RepL.putV {K : Fg} {H Hs : Hp} {v : V} {d : D} {m1 : Bud} (f : Str) (x : Rep K H Hs v d m1) : ∀ {fs : List Str} {vs : List V} {ds : List D} {m : Bud}, fs.length = vs.length -> RepL K H Hs vs ds m -> RepL K H Hs (T.putV f v fs vs) (T.putV f d fs ds) (fun b => m b + m1 b)
 | [], _, _, m, h, .nil _ => .cons x (.nil (fun _ => 0)) fun b => by (try dsimp only); omega
 | [], _, _, m, h, .cons _ _ _ => by simp at h
 | _ :: _, _, _, m, h, .nil _ => by simp at h
 | g :: fs, _, _, m, h, .cons (m1 := a1) (m2 := a2) y z l => by
  simp only [T.putV]
  split
  . exact .cons x z fun b => by have := l b; (try dsimp only); omega
  . exact .cons y (RepL.putV f x (by simpa using h) z) fun b => by have := l b; (try dsimp only); omega
theorem ZgC {c : M D} {lk : Nat -> Bool} {value : Expr} {ok : Addr -> Str -> Bool} {pos' : Pos} (hf : ∀ C f, ok C f = true -> Cls X.K C /\ Zay X.K C f) (ho : PE X o (tVar i)) (hv : PE X value (tM X.K c)) (hs : swapsWith value (some (.Attribute o f pos')) pos.line X.env = pure false := by rfl) :
 PS X (.Assign [.Attribute o f pos'] value pos) (tS X.K lk (c.bnd fun d => (ZT i).bnd fun _ => (modS i (putD ok f d)).bnd fun _ => M.ret .nx)) := PS.imp (ZlZ ho hv hs) fun E σ H h => by
 obtain ⟨δ, Hs, M, fl, δ', g, s, ea, q⟩ := h
 obtain ⟨d, δ1, e1, eb⟩ := Zb ea
 obtain ⟨p0, δ2, e2, ec⟩ := Zb eb
 obtain ⟨r0, δ3, e3, ed⟩ := Zb ec
 have := Ze ed
 cases this
 obtain ⟨kk, ds0, k', ds', hi, hff, rfl⟩ := Zc5 e3
 refine ⟨δ, Hs, M, d, δ1, g, s, e1, fun v H1 Hs1 m1 M1 g1 st1 r1 s1 => ?_⟩
 obtain ⟨rfl, vo, hvo⟩ := Zg8 s1 e2
 obtain ⟨p1, us, m', n2, e8, nn, rl, le, fin⟩ := modL g1 s1 hi
 rw [hvo] at e8
 cases e8
 refine ⟨_, hvo, ?_⟩
 unfold putD at hff
 split at hff
 . rename_i ds C fs
   split at hff
   . rename_i hc
     cases hff
     obtain ⟨hl, dx, hH⟩ := nn
     obtain ⟨z1, z2⟩ := Zf8 f v fs us hl
     obtain ⟨G, S, R, SS⟩ := fin (.ins C dx (putF f v (fs.zip us))) (.ins C (putN f fs)) (T.putV f v fs us) (T.putV f d fs ds0) (fun b => m' b + m1 b) (fun _ => 0) .non (.sc .non) (fun b => by (try dsimp only); omega) ⟨z2, dx, by rw [Zk, z1]⟩ (rl.putV f r1 hl) (.sc _ _)
     have z := Zm (m1 := fun _ => 0) g (g1.re fun b => by simp) (st1.drop (fun b => by simp) g1.le) G S
     refine ⟨p1, C, dx, fs.zip us, rfl, hH, (hf C f hc.2).1, (hf C f hc.2).2, ?_, ?_⟩
     . rw [List.length_zip, hl, Nat.min_self]
       rw [<- hl]
       exact hc.1
     . exact q σ _ Hs1 _ (Keeps.refl _ _) (G.re fun b => by (try dsimp only); omega) ((z.2.1.drop (fun b => by simp) z.1.le).drop (fun b => by (try dsimp only); omega) G.le) SS
   . cases hff
 . cases hff
end
end T
namespace T
open PySem PySem.Spec L2 PySem.W
noncomputable def scr (ns : List Int) : D := .node .frl false (ns.map fun i => .sc (.int i))
theorem ZmE {K : Fg} {H : Hp} {a : Addr} {ns : List Int} {F : List D -> Rs (D × List D)} {E : XK} (hS : SqL K H a (ns.map V.int)) (e : ∃ ds', F [scr ns] = .ok (.sc (.bl true), ds')) : spF K F [.ref a] H (fun v _ => v = .bl true) E := by
 obtain ⟨ds', e⟩ := e
 refine ⟨[scr ns], H, fun _ => 0, _, ds', ⟨Same.refl _, fun b => Nat.zero_le _, fun b h => by simp at h, fun b h => by simp at h⟩, .cons (m1 := fun _ => 0) (m2 := fun _ => 0) (.shd (vs := ns.map V.int) hS (Zdc ns)) (.nil _) fun b => by simp, e, fun v H' Hs' m1 m' g st r _ => ?_⟩
 cases r
 rfl
theorem Zjx {l : PySem.W.OpenLaw} {q : Program} {loose : List Str} {XP : (Str -> Option Value) -> Heap -> Prop} {YP : World -> Heap -> Prop} {d : DefRec} {K : Params -> Fg} {k : Nat} {x : Str} {R : Fg -> List D -> Rs (D × List D)} (hn : l.most = some 63) (hdf : d.params.defaults = []) (hr : Room k callerA)
 (hY : ∀ (w : World) (h : Heap), YP w h -> (K w.params).In h)
 (F : ∀ (w : World) (mg : Str -> Option Value) (fa : Addr) (h : Heap), (K w.params).In h -> h.Ns mainGlobals mg -> mg d.name = some (.ref fa) ->
  ∃ fd : FuncData, (∀ (s : Shared) (u : Value), BindsTo s fd ⟨[u], []⟩ [(x, u)]) /\ ∀ base : Heap, (K w.params).In base -> base.Ns mainGlobals mg -> FnOk l.prog w (K w.params) mg base CX0 k fa fd [x] (spF (K w.params) (R (K w.params))))
 (hL : ∀ (K : Fg) (ns : List Int), ns.length <= 63 -> ∃ ds', R K [scr ns] = .ok (.sc (.bl true), ds')) :
 PySem.W.WalkO q loose XP YP l.row.toRowW d [] (fun f vs => PySem.call f vs) :=
 L2.Zjg (n := 63) (k := k) (x := x) (CX := CX0) (sp := fun K => spF K (R K)) hn (by decide) hdf hr hY F (fun K H a ns hl _ hS => ZmE hS (hL K ns hl)) fun _ _ _ _ z => z
end T
namespace T
open PySem PySem.Spec L2 PySem.W
theorem ZmF {α β : Type} {c : M α} {f : α -> M β} {δ δ' : List D} {a : α} (h : c δ = .ok (a, δ')) : c.bnd f δ = f a δ' := by
 unfold M.bnd
 rw [h]
theorem runA {C : Ctx} {n N : Nat} {body : List S} {ds : List D} (h : ds.length = n) : Zi C n N body ds = ZdZ n (exs { C with lock := fun i => decide (i < n) } body (ds ++ List.replicate (N - n) .hole)) := if_pos h
theorem szl : sizeLine = 16777216 := by rw [sizeLine_eq]
section
variable {α β : Type} {C : Ctx} {δ δ' : List D} {a : α} {i j : Nat} {x y : Int} {v w : V} {k : Kd} {ds es : List D} {d : D}
noncomputable def bndR (f : α -> M β) : Rs (α × List D) -> Rs (β × List D)
 | .ok (a, δ) => f a δ
 | .exc x δ => .exc x δ
 | .stuck => .stuck
theorem bndA (c : M α) (f : α -> M β) (δ : List D) : c.bnd f δ = bndR f (c δ) := by
 unfold M.bnd bndR
 cases c δ <;> rfl
theorem Zle (f : α -> M β) : bndR f (.ok (a, δ)) = f a δ := (rfl)
theorem retA : M.ret a δ = .ok (a, δ) := (rfl)
theorem ZoR : lift (some a) δ = .ok (a, δ) := (rfl)
theorem Zlf (c : Prop) [Decidable c] (f g : M α) (δ : List D) : (if c then f else g) δ = if c then f δ else g δ := by split <;> rfl
theorem ZoS (c : M D) : Zj (.v i) c = ZT i := (rfl)
noncomputable def atR (i : Nat) (δ : List D) : Option D -> Rs (Op × List D)
 | some (.sc _) => .ok (.late i, δ)
 | some (.node _ _ _) => .ok (.late i, δ)
 | _ => .stuck
theorem ZoT : ZT i δ = atR i δ δ[i]? := by unfold ZT atR; cases δ[i]? with | none => rfl | some d => cases d <;> rfl
theorem ZmG : atR i δ (some (.sc v)) = .ok (.late i, δ) := (rfl)
theorem ZmH {o : Bool} : atR i δ (some (.node k o ds)) = .ok (.late i, δ) := (rfl)
noncomputable def vwR (i : Nat) (δ : List D) : Option D -> Rs (W × List D)
 | some (.sc v) => .ok (.sc v, δ)
 | some (.node k false ds) => .ok (.nd k ds, δ)
 | some (.node k true ds) => .ok (.nd k (shrL ds), δ.set i (.node k true (shrL ds)))
 | _ => .stuck
theorem ZoU : view (.late i) δ = vwR i δ δ[i]? := by
 unfold view vwR
 (try dsimp only)
 all_goals
  cases δ[i]? with
  | none => rfl
  | some d => cases d with
   | node k o ds => cases o <;> rfl
   | _ => rfl
theorem ZmI : vwR i δ (some (.sc v)) = .ok (.sc v, δ) := (rfl)
theorem ZoV : vwR i δ (some (.node k false ds)) = .ok (.nd k ds, δ) := (rfl)
theorem ZoW : vwR i δ (some (.node k true ds)) = .ok (.nd k (shrL ds), δ.set i (.node k true (shrL ds))) := (rfl)
theorem Zlg : view (.tmp (.sc v)) = M.ret (.sc v) := (rfl)
theorem Zlh {o : Bool} : view (.tmp (.node k o ds)) = M.ret (.nd k ds) := (rfl)
noncomputable def vlR (i : Nat) (δ : List D) : Option D -> Rs (D × List D)
 | some (.sc v) => .ok (.sc v, δ)
 | some (.node k false ds) => .ok (.node k false ds, δ)
 | some (.node k true ds) => .ok (.node k false (shrL ds), δ.set i (.node k false (shrL ds)))
 | _ => .stuck
theorem valA : T.valV i δ = vlR i δ δ[i]? := by
 unfold T.valV vlR
 cases δ[i]? with
 | none => rfl
 | some d => cases d with
  | node k o ds => cases o <;> rfl
  | _ => rfl
theorem ZmJ : vlR i δ (some (.sc v)) = .ok (.sc v, δ) := (rfl)
theorem ZoX : vlR i δ (some (.node k false ds)) = .ok (.node k false ds, δ) := (rfl)
noncomputable def mvR (i : Nat) (δ : List D) : Option D -> Rs (D × List D)
 | some (.sc v) => .ok (.sc v, δ)
 | some (.node k o ds) => .ok (.node k o ds, δ.set i .hole)
 | _ => .stuck
theorem movA : movV i δ = mvR i δ δ[i]? := by unfold movV mvR; cases δ[i]? with | none => rfl | some d => cases d <;> rfl
theorem ZmK {o : Bool} : mvR i δ (some (.node k o ds)) = .ok (.node k o ds, δ.set i .hole) := (rfl)
noncomputable def tkR (lend : Bool) (i : Nat) (δ : List D) : Option D -> Rs (D × List D)
 | some (.sc v) => .ok (.sc v, δ)
 | some (.node k false ds) => .ok (.node k false ds, δ)
 | some (.node k true ds) => if lend then .ok (.node k true ds, δ.set i .hole) else .ok (.node k false (shrL ds), δ.set i (.node k false (shrL ds)))
 | _ => .stuck
theorem ZoY {lend : Bool} : ZaK lend (.late i) δ = tkR lend i δ δ[i]? := by
 unfold ZaK tkR
 (try dsimp only)
 all_goals
  cases δ[i]? with
  | none => rfl
  | some d => cases d with
   | node k o ds => cases o <;> rfl
   | _ => rfl
theorem ZoZ {lend : Bool} : ZaK lend (.tmp d) = M.ret d := (rfl)
theorem ZmL {lend : Bool} : tkR lend i δ (some (.sc v)) = .ok (.sc v, δ) := (rfl)
theorem Zpa {lend : Bool} : tkR lend i δ (some (.node k false ds)) = .ok (.node k false ds, δ) := (rfl)
theorem Zpb : tkR true i δ (some (.node k true ds)) = .ok (.node k true ds, δ.set i .hole) := (rfl)
theorem Zpc : tkR false i δ (some (.node k true ds)) = .ok (.node k false (shrL ds), δ.set i (.node k false (shrL ds))) := (rfl)
theorem ZmM {lend : Bool} : Za0 lend [] = M.ret [] := (rfl)
theorem ZmN {lend : Bool} {p : Op} {ps : List Op} : Za0 lend (p :: ps) = (ZaK lend p).bnd fun d => (Za0 lend ps).bnd fun ds => M.ret (d :: ds) := (rfl)
noncomputable def gvR (i : Nat) (δ : List D) (d : D) : Option D -> Rs (Unit × List D)
 | some .hole => .ok ((), δ.set i d)
 | _ => .ok ((), δ)
theorem Zpd : ZaF (.late i) d δ = gvR i δ d δ[i]? := by unfold ZaF gvR; (try dsimp only); all_goals (cases δ[i]? with | none => rfl | some d => cases d <;> rfl)
theorem Zpe {d' : D} : ZaF (.tmp d') d = M.ret () := (rfl)
theorem ZmO : gvR i δ d (some (.sc v)) = .ok ((), δ) := (rfl)
theorem ZmP {o : Bool} : gvR i δ d (some (.node k o ds)) = .ok ((), δ) := (rfl)
theorem Zpf : gvR i δ d (some .hole) = .ok ((), δ.set i d) := (rfl)
theorem ZmQ {ds : List D} : ZU [] ds = M.ret () := by cases ds <;> rfl
theorem ZmR {p : Op} {ps : List Op} : ZU (p :: ps) (d :: ds) = (ZaF p d).bnd fun _ => ZU ps ds := (rfl)
theorem ZmS : views [] = M.ret [] := (rfl)
theorem ZmT {p : Op} {ps : List Op} : views (p :: ps) = (view p).bnd fun w => (views ps).bnd fun ws => M.ret (w :: ws) := (rfl)
noncomputable def cfR (ps : List Op) (δ : List D) : Rs (D × List D) -> Rs (D × List D)
 | .ok (d, ds') => ((ZU ps ds').bnd fun _ => M.ret d) δ
 | .exc _ _ => .stuck
 | .stuck => .stuck
theorem Zpg {fi : FI} {ps : List Op} : ZaL fi ps = (Za0 fi.lend ps).bnd fun ds δ => cfR ps δ (fi.run ds) := by
 unfold ZaL cfR
 congr 1
 funext ds δ
 cases fi.run ds with
 | ok r => obtain ⟨d, ds'⟩ := r; rfl
 | exc x y => rfl
 | stuck => rfl
theorem ZmU {ps : List Op} {ds' : List D} : cfR ps δ (.ok (d, ds')) = ((ZU ps ds').bnd fun _ => M.ret d) δ := (rfl)
noncomputable def seqR (r : M Fl) : Rs (Fl × List D) -> Rs (Fl × List D)
 | .ok (.nx, δ) => r δ
 | .ok (f, δ) => .ok (f, δ)
 | .exc x δ => .exc x δ
 | .stuck => .stuck
theorem exs1 {s : S} {r : List S} : exs C (s :: r) δ = seqR (exs C r) (ex C s δ) := by
 show seqL (ex C s) (exs C r) δ = _
 unfold seqL M.bnd seqR
 cases ex C s δ with
 | ok z => obtain ⟨f, δ1⟩ := z; cases f <;> rfl
 | exc x y => rfl
 | stuck => rfl
noncomputable def forR (asg : D -> M Unit) (body : M Fl) (ds : List D) : Rs (Fl × List D) -> Rs (Fl × List D)
 | .ok (.nx, δ) => forL asg body ds δ
 | .ok (.ct, δ) => forL asg body ds δ
 | .ok (.bk, δ) => .ok (.nx, δ)
 | .ok (.rt x, δ) => .ok (.rt x, δ)
 | .exc x δ => .exc x δ
 | .stuck => .stuck
theorem ZbP {asg : D -> M Unit} {body : M Fl} : forL asg body (d :: ds) δ = forR asg body ds (((asg d).bnd fun _ => body) δ) := by
 show ((asg d).bnd fun _ => body.bnd fun f => match f with | .nx => forL asg body ds | .ct => forL asg body ds | .bk => M.ret .nx | .rt x => M.ret (.rt x)) δ = _
 unfold forR M.bnd
 cases asg d δ with
 | ok r =>
  dsimp only
  cases body r.2 with
  | ok z => obtain ⟨f, δ1⟩ := z; cases f <;> rfl
  | exc x y => rfl
  | stuck => rfl
 | exc x y => rfl
 | stuck => rfl
theorem Zli {asg : D -> M Unit} {body : M Fl} : forR asg body ds (.ok (.nx, δ)) = forL asg body ds δ := (rfl)
theorem exs0 : exs C [] δ = .ok (.nx, δ) := (rfl)
theorem Zlj (r : M Fl) : seqR r (.ok (.nx, δ)) = r δ := (rfl)
theorem Zlk (r : M Fl) : seqR r (.ok (.rt d, δ)) = .ok (.rt d, δ) := (rfl)
end
end T
namespace T
open PySem PySem.Spec L2 PySem.W
theorem e_k (C : Ctx) (v : V) : (evb C (.k v)).1 = (M.ret (.sc v)) := (rfl)
theorem o_k (v : V) (z : M D) : Zj (.k v) z = z.bnd fun d => M.ret (.tmp d) := (rfl)
theorem e_g (C : Ctx) (d : D) : (evb C (.g d)).1 = (M.ret d) := (rfl)
theorem o_g (d : D) (z : M D) : Zj (.g d) z = z.bnd fun d => M.ret (.tmp d) := (rfl)
theorem Zph (C : Ctx) (op : Operator) (a : E) (b : E) : (evb C (.bin op a b)).1 = ((Zj a (evb C a).1).bnd fun p => (Zj b (evb C b).1).bnd fun q => (view p).bnd fun x => (view q).bnd fun y => lift (binW op x y)) := (rfl)
theorem Zpi (op : Operator) (a : E) (b : E) (z : M D) : Zj (.bin op a b) z = z.bnd fun d => M.ret (.tmp d) := (rfl)
theorem Zpj (C : Ctx) (a : E) : (evb C (.neg a)).1 = (((Zj a (evb C a).1).bnd view).bnd fun x => lift (negW x)) := (rfl)
theorem Zpk (a : E) (z : M D) : Zj (.neg a) z = z.bnd fun d => M.ret (.tmp d) := (rfl)
theorem Zpl (C : Ctx) (op : CmpOp) (a : E) (b : E) : (evb C (.cmp op a b)).1 = ((Zj a (evb C a).1).bnd fun p => (Zj b (evb C b).1).bnd fun q => (view p).bnd fun x => (view q).bnd fun y => lift ((ZV op x y).map fun t => .sc (.bl t))) := (rfl)
theorem Zpm (C : Ctx) (op : CmpOp) (a : E) (b : E) : (evb C (.cmp op a b)).2 = Zcn (evb C (.cmp op a b)).1 := (rfl)
theorem Zpn (op : CmpOp) (a : E) (b : E) (z : M D) : Zj (.cmp op a b) z = z.bnd fun d => M.ret (.tmp d) := (rfl)
theorem e_nt (C : Ctx) (a : E) : (evb C (.nt a)).1 = (((Zj a (evb C a).1).bnd view).bnd fun w => lift (notW w)) := (rfl)
theorem t_nt (C : Ctx) (a : E) : (evb C (.nt a)).2 = ((evb C a).2.bnd fun b => M.ret (!b)) := (rfl)
theorem o_nt (a : E) (z : M D) : Zj (.nt a) z = z.bnd fun d => M.ret (.tmp d) := (rfl)
theorem Zpo (C : Ctx) (a : E) (b : E) : (evb C (.and a b)).1 = (((Zj a (evb C a).1).bnd view).bnd (andM (evb C b).1)) := (rfl)
theorem t_or (C : Ctx) (a : E) (b : E) : (evb C (.or a b)).2 = ((evb C a).2.bnd fun t => if t then M.ret true else (evb C b).2) := (rfl)
theorem e_ix (C : Ctx) (a : E) (b : E) : (evb C (.ix a b)).1 = ((Zj a (evb C a).1).bnd fun p => (Zj b (evb C b).1).bnd fun q => (view p).bnd fun x => (view q).bnd fun y => lift (ixW2 x y)) := (rfl)
theorem o_ix (a : E) (b : E) (z : M D) : Zj (.ix a b) z = z.bnd fun d => M.ret (.tmp d) := (rfl)
theorem e_sl (C : Ctx) (a : E) (b : E) (c : E) : (evb C (.sl a b c)).1 = ((Zj a (evb C a).1).bnd fun p => (ZbN b (Zj b (evb C b).1)).bnd fun l => (ZbN c (Zj c (evb C c).1)).bnd fun h => (view p).bnd fun x => lift (slD x l h)) := (rfl)
theorem o_sl (a : E) (b : E) (c : E) (z : M D) : Zj (.sl a b c) z = z.bnd fun d => M.ret (.tmp d) := (rfl)
theorem Zpp (C : Ctx) (a : E) (f : Str) : (evb C (.fld a f)).1 = (((Zj a (evb C a).1).bnd view).bnd fun x => lift (fldW C.fok f x)) := (rfl)
theorem Zpq (a : E) (f : Str) (z : M D) : Zj (.fld a f) z = z.bnd fun d => M.ret (.tmp d) := (rfl)
theorem Zpr (C : Ctx) (es : List E) : (evb C (.lst es)).1 = ((evs C es).bnd fun ds => lift (newL ds)) := (rfl)
theorem Zps (es : List E) (z : M D) : Zj (.lst es) z = z.bnd fun d => M.ret (.tmp d) := (rfl)
theorem Zpt (C : Ctx) (es : List E) : (evb C (.tup es)).1 = ((evs C es).bnd fun ds => lift (newT ds)) := (rfl)
theorem e_kl (C : Ctx) (vs : List V) : (evb C (.kl vs)).1 = (lift (newL (vs.map D.sc))) := (rfl)
theorem o_kl (vs : List V) (z : M D) : Zj (.kl vs) z = z.bnd fun d => M.ret (.tmp d) := (rfl)
theorem ZmV (C : Ctx) (fi : FI) (es : List E) : (evb C (.call fi es)).1 = ((opds C es).bnd fun ps => ZaL fi ps) := (rfl)
theorem ZmW (C : Ctx) (fi : FI) (es : List E) : (evb C (.call fi es)).2 = ((Zj (.call fi es) (evb C (.call fi es)).1).bnd fun p => (view p).bnd fun w => lift (truW w)) := (rfl)
theorem ZmX (fi : FI) (es : List E) (z : M D) : Zj (.call fi es) z = z.bnd fun d => M.ret (.tmp d) := (rfl)
theorem e_bf (C : Ctx) (f : BF) (es : List E) : (evb C (.bf f es)).1 = ((opds C es).bnd fun ps => (views ps).bnd fun ws => lift (bfW f ws)) := (rfl)
theorem t_bf (C : Ctx) (f : BF) (es : List E) : (evb C (.bf f es)).2 = ((Zj (.bf f es) (evb C (.bf f es)).1).bnd fun p => (view p).bnd fun w => lift (truW w)) := (rfl)
theorem o_bf (f : BF) (es : List E) (z : M D) : Zj (.bf f es) z = z.bnd fun d => M.ret (.tmp d) := (rfl)
theorem ZmY (C : Ctx) (A : Addr) (f : Str) (fi : FI) (a : E) (es : List E) : (evb C (.meth A f fi a es)).1 = ((Zj a (evb C a).1).bnd fun p => (chkI A f p).bnd fun _ => (opds C es).bnd fun ps => ZaL fi (p :: ps)) := (rfl)
theorem ZmZ (C : Ctx) (A : Addr) (f : Str) (fi : FI) (a : E) (es : List E) : (evb C (.meth A f fi a es)).2 = ((Zj (.meth A f fi a es) (evb C (.meth A f fi a es)).1).bnd fun p => (view p).bnd fun w => lift (truW w)) := (rfl)
theorem Zna (A : Addr) (f : Str) (fi : FI) (a : E) (es : List E) (z : M D) : Zj (.meth A f fi a es) z = z.bnd fun d => M.ret (.tmp d) := (rfl)
theorem Zpu (C : Ctx) (A : Addr) (fi : FI) (es : List E) : (evb C (.new A fi es)).1 = ((opds C es).bnd fun ps => newF A fi ps) := (rfl)
theorem Zpv (A : Addr) (fi : FI) (es : List E) (z : M D) : Zj (.new A fi es) z = z.bnd fun d => M.ret (.tmp d) := (rfl)
theorem Znb (k : Nat) (js : List Nat) (tg : Tg) (ik : IK) (es : List E) (es' : List E) (a : E) (z : M D) : Zj (.comp k js tg ik es es' a) z = z.bnd fun d => M.ret (.tmp d) := (rfl)
theorem Znc (C : Ctx) : (evb C .dct0).1 = M.ret (.node (.dic []) true []) := (rfl)
theorem ix_d (ks : List Key) (ds : List D) (v : V) : ixW2 (.nd (.dic ks) ds) (.sc v) = (keyD v).bind fun k => ZH k ks ds := (rfl)
theorem Zpw (i : Int) : keyD (.int i) = some (.inl i) := (rfl)
theorem Zpx (v : V) (ks : List Key) (ds : List D) : ZV .NotIn (.sc v) (.nd (.dic ks) ds) = ((keyD v).map fun k => (ZH k ks ds).isSome == false) := (rfl)
theorem Zpy (C : Ctx) (e : E) : (evb C (.bor e)).1 = borV (evb C e).1 := (rfl)
theorem Zpz (C : Ctx) (e : E) : (evb C (.bor e)).2 = ((Zj (.bor e) (evb C (.bor e)).1).bnd fun p => (view p).bnd fun w => lift (truW w)) := (rfl)
theorem Zp0 (e : E) (z : M D) : Zj (.bor e) z = z.bnd fun d => M.ret (.tmp d) := (rfl)
noncomputable def bvR (δ : List D) : Rs (D × List D) -> Rs (D × List D)
 | .ok (.sc v, _) => .ok (.sc v, δ)
 | _ => .stuck
theorem Zp1 (c : M D) (δ : List D) : borV c δ = bvR δ (c (shrL δ)) := (rfl)
theorem Znd (δ δ' : List D) (v : V) : bvR δ (.ok (.sc v, δ')) = .ok (.sc v, δ) := (rfl)
theorem e_v (C : Ctx) (i : Nat) : (evb C (.v i)).1 = T.valV i := (rfl)
theorem t_v (C : Ctx) (i : Nat) : (evb C (.v i)).2 = ((ZT i).bnd fun p => (view p).bnd fun w => lift (truW w)) := (rfl)
theorem Zjy (C : Ctx) (i : Nat) (es : List E) : (evb C (.mut .append i [] es)).1 = ((chkL i).bnd fun _ => (evs C es).bnd fun ds => appM i ds) := (rfl)
theorem Zhy (m : MM) (i : Nat) (es es' : List E) (z : M D) : Zj (.mut m i es es') z = z.bnd fun d => M.ret (.tmp d) := (rfl)
theorem Zp2 (C : Ctx) : opds C [] = M.ret [] := (rfl)
theorem Zp3 (C : Ctx) (e : E) (es : List E) : opds C (e :: es) = ((Zj e (evb C e).1).bnd fun p => (opds C es).bnd fun ps => M.ret (p :: ps)) := (rfl)
theorem evs0 (C : Ctx) : evs C [] = M.ret [] := (rfl)
theorem evs1 (C : Ctx) (e : E) (es : List E) : evs C (e :: es) = ((evb C e).1.bnd fun p => (evs C es).bnd fun ps => M.ret (p :: ps)) := (rfl)
theorem Zp4 (C : Ctx) : tsts C [] = M.ret true := (rfl)
theorem Zp5 (C : Ctx) (e : E) (es : List E) : tsts C (e :: es) = ((evb C e).2.bnd fun b => if b then tsts C es else M.ret false) := (rfl)
theorem Zp6 (C : Ctx) (i : Nat) (e : E) : ex C (.asg i e) = ((evb C e).1.bnd fun d => (asgN C.lock i d).bnd fun _ => M.ret .nx) := (rfl)
theorem Zp7 (C : Ctx) (is : List Nat) (e : E) : ex C (.unp is e) = (((Zj e (evb C e).1).bnd view).bnd fun w => (unpM C.lock is w).bnd fun _ => M.ret .nx) := (rfl)
theorem Zp8 (C : Ctx) (i : Nat) (x e : E) : ex C (.sub i [] x e) = ((evb C e).1.bnd fun d => (ZT i).bnd fun _ => ((Zj x (evb C x).1).bnd view).bnd fun w => (modS i (Zbj w d)).bnd fun _ => M.ret .nx) := (rfl)
theorem Zne (C : Ctx) (i : Nat) (f : Str) (e : E) : ex C (.attr i f e) = ((evb C e).1.bnd fun d => (ZT i).bnd fun _ => (modS i (putD C.fok f d)).bnd fun _ => M.ret .nx) := (rfl)
theorem x_ex (C : Ctx) (e : E) : ex C (.ex e) = ((evb C e).1.bnd fun _ => M.ret .nx) := (rfl)
theorem Zp9 (C : Ctx) (e : E) : ex C (.ret e) = ((retV C e).bnd fun d => M.ret (.rt d)) := (rfl)
theorem ZpA (C : Ctx) (c : E) (a b : List S) : ex C (.iff c a b) = ((evb C c).2.bnd fun t => if t then exs C a else exs C b) := (rfl)
theorem Znf (C : Ctx) (tg : Tg) (ik : IK) (ies : List E) (body : List S) : ex C (.for_ tg ik ies body) = ((opds C ies).bnd fun ps => (Z0 ps).bnd fun h => (lift (itW ik h.1)).bnd fun items => (forL (asgT (fun j => C.lock j || walked ies j) tg) (exs { C with lock := fun j => C.lock j || walked ies j } body) items).bnd fun f => (Zar h.2).bnd fun _ => M.ret f) := (rfl)
theorem ZdH (C : Ctx) (c : E) (body : List S) : ex C (.while_ c body) = (Zag (evb C c).2 (exs C body) C.fuel) := (rfl)
theorem ZpB (C : Ctx) (i : Nat) : retV C (.v i) = if C.lock i then T.valV i else movV i := (rfl)
theorem r_k (C : Ctx) (v : V) : retV C (.k v) = (evb C (.k v)).1 := (rfl)
theorem ZpC (C : Ctx) (op : Operator) (a : E) (b : E) : retV C (.bin op a b) = (evb C (.bin op a b)).1 := (rfl)
theorem ZpD (C : Ctx) (a : E) (b : E) : retV C (.and a b) = (evb C (.and a b)).1 := (rfl)
theorem r_ix (C : Ctx) (a : E) (b : E) : retV C (.ix a b) = (evb C (.ix a b)).1 := (rfl)
theorem r_sl (C : Ctx) (a : E) (b : E) (c : E) : retV C (.sl a b c) = (evb C (.sl a b c)).1 := (rfl)
theorem ZpE (C : Ctx) (es : List E) : retV C (.tup es) = (evb C (.tup es)).1 := (rfl)
theorem Zng (C : Ctx) (fi : FI) (es : List E) : retV C (.call fi es) = (evb C (.call fi es)).1 := (rfl)
theorem r_bf (C : Ctx) (f : BF) (es : List E) : retV C (.bf f es) = (evb C (.bf f es)).1 := (rfl)
theorem Znh (C : Ctx) (k : Nat) (js : List Nat) (tg : Tg) (ik : IK) (es : List E) (es' : List E) (a : E) : retV C (.comp k js tg ik es es' a) = (evb C (.comp k js tg ik es es' a)).1 := (rfl)
theorem ZpF (i j : Int) : binW .Add (.sc (.int i)) (.sc (.int j)) = some (.sc (.int (i + j))) := (rfl)
theorem ZpG (i j : Int) : binW .Sub (.sc (.int i)) (.sc (.int j)) = some (.sc (.int (i - j))) := (rfl)
theorem ZcJ (i j : Int) (h : (-(2 ^ 64) < i /\ i < 2 ^ 64) \/ (-(2 ^ 64) < j /\ j < 2 ^ 64)) : binW .Mult (.sc (.int i)) (.sc (.int j)) = some (.sc (.int (i * j))) := if_pos h
theorem Zei (i j : Int) (h : 0 < j /\ j < 18446744073709551616) : binW .FloorDiv (.sc (.int i)) (.sc (.int j)) = some (.sc (.int (i / j))) := if_pos h
theorem ZI (i j : Int) (h : 0 < j) : binW .Mod (.sc (.int i)) (.sc (.int j)) = some (.sc (.int (i % j))) := if_pos h
theorem Zff (xs ys : List D) (h : (xs ++ ys).length <= sizeLine) : binW .Add (.nd .lst xs) (.nd .lst ys) = some (.node .lst true (xs ++ ys)) := if_pos h
theorem ZX (ds : List D) (h : ds.length <= sizeLine) : newL ds = some (.node .lst true ds) := if_pos h
theorem Zll (ds : List D) (h : ds.length <= sizeLine) : newT ds = some (.node .tup true ds) := if_pos h
theorem c_lt (i j : Int) : cmpW .Lt (.sc (.int i)) (.sc (.int j)) = some (decide (i < j)) := (rfl)
theorem c_le (i j : Int) : cmpW .LtE (.sc (.int i)) (.sc (.int j)) = some (decide (i <= j)) := (rfl)
theorem ZpH (i j : Int) : ZV .LtE (.sc (.int i)) (.sc (.int j)) = some (decide (i <= j)) := (rfl)
theorem ZpI (i j : Int) : ZV .Gt (.sc (.int i)) (.sc (.int j)) = some (decide (j < i)) := (rfl)
theorem ZpJ (i j : Int) : ZV .GtE (.sc (.int i)) (.sc (.int j)) = some (decide (j <= i)) := (rfl)
theorem Zni (i j : Int) : ZV .Eq (.sc (.int i)) (.sc (.int j)) = some (decide (V.int i = V.int j)) := (rfl)
theorem Znj (i j : Int) : ZV .NotEq (.sc (.int i)) (.sc (.int j)) = some (!decide (V.int i = V.int j)) := (rfl)
theorem ZpK (c : M D) (δ : List D) : Zcn c δ = bndR (fun d => lift (match d with | .sc (.bl b) => some b | _ => none)) (c δ) := bndA _ _ _
theorem ZpL (b : M D) : andM b (.sc (.bl true)) = b := (rfl)
theorem ZpM (b : M D) : andM b (.sc (.bl false)) = M.ret (.sc (.bl false)) := (rfl)
theorem ZpN (b : Bool) : notW (.sc (.bl b)) = some (.sc (.bl (!b))) := (rfl)
theorem ZpO (i : Int) : negW (.sc (.int i)) = some (.sc (.int (-i))) := (rfl)
theorem ZpP (b : Bool) : truW (.sc (.bl b)) = some b := (rfl)
theorem ZpQ (ds : List D) : bfW .len [.nd .lst ds] = some (.sc (.int ds.length)) := (rfl)
theorem Znk (ds : List D) : bfW .list [.nd .lst ds] = some (.node .lst true ds) := (rfl)
theorem Znl (c : M Op) : ZbN (.k .non) c = M.ret none := (rfl)
theorem Znm (i : Int) (c : M Op) : ZbN (.k (.int i)) c = ((c.bnd view).bnd fun w => lift (intP w)) := (rfl)
theorem Znn (i : Nat) (c : M Op) : ZbN (.v i) c = ((c.bnd view).bnd fun w => lift (intP w)) := (rfl)
theorem Zno (op : Operator) (a b : E) (c : M Op) : ZbN (.bin op a b) c = ((c.bnd view).bnd fun w => lift (intP w)) := (rfl)
theorem Znp (a : E) (c : M Op) : ZbN (.neg a) c = ((c.bnd view).bnd fun w => lift (intP w)) := (rfl)
theorem intp (i : Int) : intP (.sc (.int i)) = some (some i) := (rfl)
theorem sl_l (ds : List D) (l h : Option Int) : slD (.nd .lst ds) l h = some (.node .lst true (cutD ds l h)) := (rfl)
theorem sl_f (ds : List D) (l h : Option Int) : slD (.nd .frl ds) l h = some (.node .lst true (cutD ds l h)) := (rfl)
theorem ZpR (lk : Nat -> Bool) (is : List Nat) (ds : List D) : unpM lk is (.nd .tup ds) = Zbi lk is ds := (rfl)
theorem ZpS (lk : Nat -> Bool) : Zbi lk [] [] = M.ret () := (rfl)
theorem ZpT (lk : Nat -> Bool) (i : Nat) (is : List Nat) (d : D) (ds : List D) : Zbi lk (i :: is) (d :: ds) = ((asgN lk i d).bnd fun _ => Zbi lk is ds) := (rfl)
theorem Znq (lk : Nat -> Bool) (i : Nat) (d : D) : asgT lk (.name i) d = asgN lk i d := (rfl)
theorem asgn (lk : Nat -> Bool) (i : Nat) (d : D) (δ : List D) : asgN lk i d δ = if (decide (i < δ.length) && !lk i) = true then .ok ((), δ.set i d) else .stuck := (rfl)
theorem Znr : Z0 [] = M.ret ([], []) := (rfl)
theorem Zns (p : Op) (ps : List Op) : Z0 (p :: ps) = ((Zaq p).bnd fun w => (Z0 ps).bnd fun ws => M.ret (w.1 :: ws.1, w.2.toList ++ ws.2)) := (rfl)
noncomputable def hdR (i : Nat) (δ : List D) : Option D -> Rs ((W × Option (Nat × D)) × List D)
 | some (.sc v) => .ok ((.sc v, none), δ)
 | some (.node k false ds) => .ok ((.nd k ds, none), δ)
 | some (.node k true ds) => .ok ((.nd k (shrL ds), some (i, .node k true (shrL ds))), δ.set i .hole)
 | _ => .stuck
theorem Znt (i : Nat) (δ : List D) : Zaq (.late i) δ = hdR i δ δ[i]? := by
 unfold Zaq hdR
 (try dsimp only)
 all_goals
  cases δ[i]? with
  | none => rfl
  | some d => cases d with
   | node k o ds => cases o <;> rfl
   | _ => rfl
theorem Znu (i : Nat) (δ : List D) (v : V) : hdR i δ (some (.sc v)) = .ok ((.sc v, none), δ) := (rfl)
theorem ZpU (i : Nat) (δ : List D) (k : Kd) (ds : List D) : hdR i δ (some (.node k false ds)) = .ok ((.nd k ds, none), δ) := (rfl)
theorem ZpV (i : Nat) (δ : List D) (k : Kd) (ds : List D) : hdR i δ (some (.node k true ds)) = .ok ((.nd k (shrL ds), some (i, .node k true (shrL ds))), δ.set i .hole) := (rfl)
theorem Znv (v : V) : Zaq (.tmp (.sc v)) = M.ret (.sc v, none) := (rfl)
theorem Znw (k : Kd) (o : Bool) (ds : List D) : Zaq (.tmp (.node k o ds)) = M.ret (.nd k (shrL ds), none) := (rfl)
theorem Znx : Zar [] = M.ret () := (rfl)
theorem Zny (i : Nat) (d : D) (r : List (Nat × D)) (δ : List D) : Zar ((i, d) :: r) δ = Zar r (δ.set i d) := (rfl)
theorem it_l (ds : List D) : itW .val [.nd .lst ds] = some ds := (rfl)
theorem it_1 (n : Int) (h : okR n = true) : itW .rng1 [.sc (.int n)] = some (rng 0 n) := if_pos h
theorem it_2 (a b : Int) (h : (okR a && okR b) = true) : itW .rng2 [.sc (.int a), .sc (.int b)] = some (rng a b) := if_pos h
noncomputable def mdR (i : Nat) (δ : List D) (f : Kd -> List D -> Option (D × Kd × List D)) : Option D -> Rs (D × List D)
 | some (.node k true ds) => match f k ds with
  | some (r, k', ds') => .ok (r, δ.set i (.node k' true ds'))
  | none => .stuck
 | _ => .stuck
theorem modA (i : Nat) (f : Kd -> List D -> Option (D × Kd × List D)) (δ : List D) : modS i f δ = mdR i δ f δ[i]? := by
 unfold modS mdR
 cases δ[i]? with
 | none => rfl
 | some d => cases d with
  | node k o ds => cases o <;> rfl
  | _ => rfl
theorem Zc6 (i : Nat) (δ : List D) (d : D) (ds : List D) (h : ds.length < sizeLine) : mdR i δ (appD d) (some (.node .lst true ds)) = .ok (.sc .non, δ.set i (.node .lst true (ds ++ [d]))) := by
 show (match (if ds.length < sizeLine then some (D.sc .non, Kd.lst, ds ++ [d]) else none) with | some (r, k', ds') => Rs.ok (r, δ.set i (.node k' true ds')) | none => .stuck) = _
 rw [if_pos h]
theorem Zf9 (i : Nat) (δ : List D) (d : D) (ds : List D) (n : Int) (j : Nat) (h : ixN' ds.length n = some j) : mdR i δ (Zbj (.sc (.int n)) d) (some (.node .lst true ds)) = .ok (.sc .non, δ.set i (.node .lst true (ds.set j d))) := by
 show (match ((ixN' ds.length n).map fun j => (D.sc .non, Kd.lst, ds.set j d)) with | some (r, k', ds') => Rs.ok (r, δ.set i (.node k' true ds')) | none => .stuck) = _
 rw [h]
 rfl
theorem ZpW (i : Nat) (d : D) : appM i [d] = modS i (appD d) := (rfl)
noncomputable def ckR (δ : List D) : Option D -> Rs (Unit × List D)
 | some (.node .lst _ _) => .ok ((), δ)
 | _ => .stuck
theorem chkA (i : Nat) (δ : List D) : chkL i δ = ckR δ δ[i]? := by
 unfold chkL ckR
 cases δ[i]? with
 | none => rfl
 | some d => cases d with
  | node k o ds => cases k <;> rfl
  | _ => rfl
theorem ZpX (δ : List D) (o : Bool) (ds : List D) : ckR δ (some (.node .lst o ds)) = .ok ((), δ) := (rfl)
theorem ix_l (ds : List D) (i : Int) : ixW2 (.nd .lst ds) (.sc (.int i)) = (ixN' ds.length i).bind fun j => ds[j]? := (rfl)
theorem Zbx (n j : Nat) (h : j < n) : ixN' n (j : Int) = some j := by
 unfold ixN'
 rw [if_pos (Int.natCast_nonneg j), if_pos (by omega)]
 simp
end T
namespace T
open PySem PySem.Spec L2
section
variable {X : Cx} {a b c : Expr} {pos : Pos}
def r2C (K : Fg) (f : W -> W -> Option Bool) : R2 := fun x y H Q => ∃ (Hs : Hp) (w1 w2 : W) (m1 m2 : Bud) (t : Bool), Same Hs H /\ View K H Hs x w1 m1 /\ View K H Hs y w2 m2 /\ f w1 w2 = some t /\ Q (.bl t) H
theorem Ze3 (op : CmpOp) (hu : X.A.units + 64 < cLine) : OpR X (compareOp op) (r2C X.K (cmpW op)) := by
 intro pins s σ H x y v u Q I rx ry h
 obtain ⟨Hs, w1, w2, m1, m2, t, hs, v1, v2, e, q⟩ := h
 unfold cmpW at e
 split at e
 . rcases Zip hs v1 v2 e with ⟨h3, rfl⟩ | ⟨d, f, h3, h4, h5, h6, rfl⟩
   . exact ZnT pins s σ H _ _ v u Q I rx ry ⟨h3, q⟩
   . exact Zml hu pins s σ H _ _ v u Q I rx ry ⟨d, f, h3, h4, h5, h6, q⟩
 . simp only [Option.map_eq_some_iff] at e
   obtain ⟨t, e, rfl⟩ := e
   rcases Zip hs v1 v2 e with ⟨h3, rfl⟩ | ⟨d, f, h3, h4, h5, h6, rfl⟩
   . exact ZnU pins s σ H _ _ v u Q I rx ry ⟨h3, q⟩
   . exact Zmm hu pins s σ H _ _ v u Q I rx ry ⟨d, f, h3, h4, h5, h6, q⟩
 . simp only [Option.map_eq_some_iff] at e
   obtain ⟨is, e, rfl⟩ := e
   cases v1
   cases v2 with
   | nd n r =>
    have ei := ZcF r e
    subst ei
    exact Zfq pins s σ H _ _ v u Q I rx ry ⟨_, _, rfl, .inr n, rfl, ZeK _, by rw [if_pos rfl, Zf2]; exact q⟩
 . rename_i i j _ _
   cases v1; cases v2
   cases op with
   | Lt => cases e; exact ZnV pins s σ H _ _ v u Q I rx ry ⟨_, _, rfl, rfl, q⟩
   | LtE => cases e; exact ZnW pins s σ H _ _ v u Q I rx ry ⟨_, _, rfl, rfl, q⟩
   | Gt => cases e; exact ZnX pins s σ H _ _ v u Q I rx ry ⟨_, _, rfl, rfl, q⟩
   | GtE => cases e; exact ZnY pins s σ H _ _ v u Q I rx ry ⟨_, _, rfl, rfl, q⟩
   | _ => cases e
 . cases e
noncomputable def Zi0 (op op' : CmpOp) (ca cb cc : M Op) : M D := ca.bnd fun p => cb.bnd fun q => (view p).bnd fun x => (view q).bnd fun y => (lift (cmpW op x y)).bnd fun t => if t then cc.bnd fun r => (view q).bnd fun y => (view r).bnd fun z => lift ((cmpW op' y z).map fun t => .sc (.bl t)) else M.ret (.sc (.bl false))
theorem Zi1 {op op' : CmpOp} {K : Fg} {ca cb cc : M Op} {σ : St} {H : Hp} {Q : VK} (h : tM K (Zi0 op op' ca cb cc) σ H Q) :
 ZhM (r2C K (cmpW op)) (r2C K (cmpW op')) (tP K ca) (tP K cb) (tP K cc) σ H Q := by
 obtain ⟨δ, Hs, M, d, δ', g, s, e, q⟩ := h
 obtain ⟨p, δ1, e1, e⟩ := Zb e
 obtain ⟨p2, δ2, e2, e⟩ := Zb e
 obtain ⟨w1, δ3, e3, e⟩ := Zb e
 obtain ⟨w2, δ4, e4, e⟩ := Zb e
 obtain ⟨t, δ5, e5, e⟩ := Zb e
 obtain ⟨e5', rfl⟩ := ZL e5
 refine seq2 g s e1 e2 fun x y H2 Hs2 m1 m2 M2 g2 st2 r1 r2 s2 => ?_
 obtain ⟨Hs3, M3, g3, st3, v1, v2, s3⟩ := Zhu g2 s2 r1 r2 e3 e4
 have z := Zm (m1 := fun _ => 0) g (g2.re fun b => by simp) (st2.drop (fun b => by simp) g2.le) g3 st3
 have st : Stp H Hs M H2 Hs3 (fun b => (m1 b + m2 b) + M3 b) := z.2.1.drop (fun b => by simp) z.1.le
 refine ⟨Hs3, w1, w2, m1, m2, t, g3.sub, v1, v2, e5', t, rfl, ?_⟩
 cases t with
 | false =>
  rw [if_neg (by simp)]
  have := Ze (show T.M.ret (D.sc (.bl false)) _ = _ from e)
  cases this
  have G : Good H2 Hs3 (fun b => (fun _ => 0) b + M3 b) := g3.re fun b => by simp
  exact q _ _ Hs3 (fun _ => 0) M3 G (st.drop (fun b => by simp) g3.le) (.sc _ _) s3
 | true =>
  rw [if_pos rfl]
  rw [if_pos rfl] at e
  obtain ⟨p3, δ6, e6, e⟩ := Zb e
  obtain ⟨y2, δ7, e7, e⟩ := Zb e
  obtain ⟨z3, δ8, e8, e⟩ := Zb e
  obtain ⟨e9, rfl⟩ := ZL e
  simp only [Option.map_eq_some_iff] at e9
  obtain ⟨t2, e9, rfl⟩ := e9
  have G2 : Good H2 Hs3 (fun b => m2 b + M3 b) := g3.re fun b => by omega
  have st2' : Stp H Hs M H2 Hs3 (fun b => m2 b + M3 b) := st.drop (fun b => by omega) g3.le
  refine ⟨_, Hs3, M3, p3, δ6, G2.re (fun b => by omega), s3, e6, fun z' H4 Hs4 m3 M4 g4 st4 r4 s4 => ?_⟩
  obtain ⟨G, S, k⟩ := Zm g G2 st2' g4 st4
  have ry : RepP K H4 Hs4 σ y p2 m2 := (r2.frame st3.grow fun _ _ _ => rfl).frame st4.grow k
  have G' : Good H4 Hs4 (fun b => (m2 b + m3 b) + M4 b) := G.re fun b => by omega
  have S' : Stp H Hs M H4 Hs4 (fun b => (m2 b + m3 b) + M4 b) := S.drop (fun b => by omega) G.le
  obtain ⟨Hs5, M5, g5, st5, v5, v6, s5⟩ := Zhu G' s4 ry r4 e7 e8
  have z5 := Zm (m1 := fun _ => 0) g (G'.re fun b => by simp) (S'.drop (fun b => by simp) G'.le) g5 st5
  have S5 : Stp H Hs M H4 Hs5 (fun b => (m2 b + m3 b) + M5 b) := z5.2.1.drop (fun b => by simp) z5.1.le
  refine ⟨Hs5, y2, z3, m2, m3, t2, g5.sub, v5, v6, e9, ?_⟩
  have G6 : Good H4 Hs5 (fun b => (fun _ => 0) b + M5 b) := g5.re fun b => by simp
  exact q _ _ Hs5 (fun _ => 0) M5 G6 (S5.drop (fun b => by simp) g5.le) (.sc _ _) s5
theorem ZfA {op op' : CmpOp} {ca cb cc : M Op} (hu : X.A.units + 64 < cLine) (ha : PE X a (tP X.K ca)) (hb : PE X b (tP X.K cb)) (hc : PE X c (tP X.K cc)) (hm : lastMarks [op, op'] [b, c] = false := by with_unfolding_all rfl) :
 PE X (.Compare a [op, op'] [b, c] pos) (tM X.K (Zi0 op op' ca cb cc)) := PE.imp (ZiW (Ze3 op hu) (Ze3 op' hu) ha hb hc hm) fun σ H Q h => Zi1 h
end
section
variable {K : Fg} {H Hs : Hp}
theorem RepL.erase : ∀ {vs : List V} {ds : List D} {m : Bud} {j : Nat} {d : D}, RepL K H Hs vs ds m -> ds[j]? = some d -> ∃ (v : V) (n1 n2 : Bud), vs[j]? = some v /\ Rep K H Hs v d n1 /\ RepL K H Hs (vs.eraseIdx j) (ds.eraseIdx j) n2 /\ ∀ b, n2 b + n1 b <= m b
 | _, _, _, j, d, .nil _, e => by simp at e
 | _, _, _, 0, d, .cons (m1 := m1) (m2 := m2) x r l, e => by
  (simp only [List.getElem?_cons_zero, Option.some.injEq] at e)
  subst e
  exact ⟨_, m1, m2, rfl, x, r, fun b => by have := l b; omega⟩
 | _, _, _, j + 1, d, .cons (m1 := m1) (m2 := m2) x r l, e => by
  simp only [List.getElem?_cons_succ] at e
  obtain ⟨v, n1, n2, h1, h2, h3, h4⟩ := RepL.erase r e
  refine ⟨v, n1, fun b => m1 b + n2 b, by simpa using h1, h2, .cons x h3 fun b => Nat.le_refl _, fun b => ?_⟩
  have := l b
  have := h4 b
  (try dsimp only)
  omega
end
theorem ZpY {i : Int} {n j : Nat} (hj : ixN' n i = some j) : seqIndex? i n = some j := by
 unfold ixN' at hj
 unfold seqIndex?
 split at hj
 . rename_i h0
   split at hj
   . cases hj
     have h1 : ¬ i < 0 := by omega
     simp only [if_neg h1]
     simp [*]
   . cases hj
 . rename_i h0
   split at hj
   . cases hj
     have h1 : i < 0 := by omega
     simp only [if_pos h1]
     have h2 : 0 <= i + (n : Int) := by omega
     have h3 : i + (n : Int) < n := by omega
     simp [h1, h2, h3]
   . cases hj
section
variable {X : Cx} {o e : Expr} {es : List Expr} {cpos apos : Pos} {i : Nat}
noncomputable def mutM (m : MM) (i : Nat) (cs : M (List Op)) : M D := (chkL i).bnd fun _ => cs.bnd fun ps => (views ps).bnd fun ws => modS i (mutD m ws)
theorem Zkj {m : MM} {cs : M (List Op)} {σ : St} {H : Hp} {Q : VK} {rr : V -> List V -> Hp -> VK -> Prop} (h : tM X.K (mutM m i cs) σ H Q)
 (hr : ∀ (vs : List V) (H1 : Hp) (p0 : Addr) (d : D) (ws : List W) (Hs2 : Hp) (ds ds' : List D) (us : List V) (m2 m' : Bud), mutD m ws .lst ds = some (d, .lst, ds') -> Views X.K H1 Hs2 vs ws m2 -> H1 p0 = some (.lst us) -> RepL X.K H1 Hs2 us ds m' ->
  (∀ (us' : List V) (n' nr : Bud) (rv : V), (∀ b, n' b + nr b <= m' b + m2 b) -> RepL X.K H1 Hs2 us' ds' n' -> Rep X.K H1 Hs2 rv d nr -> Q rv (upd H1 p0 (.lst us'))) -> rr (.ref p0) vs H1 Q) :
 tBM X.K "list" rr (tVar i) (tPs X.K cs) σ H Q := by
 obtain ⟨δ, Hs, M, d, δ', g, s, ea, q⟩ := h
 obtain ⟨u, δ0, e0, eb⟩ := Zb ea
 obtain ⟨ps, δ1, e1, ec⟩ := Zb eb
 obtain ⟨rfl, p0, h1, h2⟩ := Zf5 g s e0
 refine ⟨_, h1, h2, δ0, Hs, M, ps, δ1, g, s, e1, fun vs H1 Hs1 m1 M1 g1 st1 r1 s1 => ?_⟩
 exact Zg7 (m := m) g g1 st1 r1 s1 h1 ec q fun ws Hs2 ds ds' us m2 m' a b c d' f => hr vs H1 p0 d ws Hs2 ds ds' us m2 m' a b c d' f
theorem ZpZ {m : MM} {σ : St} {H : Hp} {Q : VK} {rr : V -> List V -> Hp -> VK -> Prop} (h : tM X.K (mutM m i (M.ret [])) σ H Q)
 (hr : ∀ (H1 : Hp) (p0 : Addr) (d : D) (Hs2 : Hp) (ds ds' : List D) (us : List V) (m' : Bud), mutD m [] .lst ds = some (d, .lst, ds') -> H1 p0 = some (.lst us) -> RepL X.K H1 Hs2 us ds m' ->
  (∀ (us' : List V) (n' nr : Bud) (rv : V), (∀ b, n' b + nr b <= m' b) -> RepL X.K H1 Hs2 us' ds' n' -> Rep X.K H1 Hs2 rv d nr -> Q rv (upd H1 p0 (.lst us'))) -> rr (.ref p0) [] H1 Q) :
 tBM0 X.K "list" rr (tVar i) σ H Q := by
 obtain ⟨δ, Hs, M, d, δ', g, s, ea, q⟩ := h
 obtain ⟨u, δ0, e0, eb⟩ := Zb ea
 obtain ⟨ps, δ1, e1, ec⟩ := Zb eb
 have := Ze e1
 cases this
 obtain ⟨rfl, p0, h1, h2⟩ := Zf5 g s e0
 refine ⟨_, h1, h2, ?_⟩
 exact Zg7 (m := m) (m1 := fun _ => 0) (M1 := M) (vs := []) g (Zax g) (stp0 H Hs M) (ps := []) True.intro s h1 ec q fun ws Hs2 ds ds' us m2 m' a b c d' f => by
  cases ws with
  | nil => exact hr H p0 d Hs2 ds ds' us m' a c d' fun us' n' nr rv l => f us' n' nr rv fun b => by have := l b; omega
  | cons w ws => exact b.elim
theorem Zi2 {cs : M (List Op)} (ho : PE X o (tVar i)) (ha : PA X [e] (tPs X.K cs))
 (hbase : attributeBase o "extend" X.env (eval o X.env) = eval o X.env := by rfl)
 (hfew : ((backTo cpos (starEach [e] X.env)).all (fun x => !x.1) && (backToKw cpos (keywordEach [] X.env)).all (fun x => x.1.isSome)
  && decide ([e].length + ([] : List Keyword).length + (if ([] : List Keyword).isEmpty then 0 else 1) < 30)) = true := by rfl)
 (hline : (apos.endLine == cpos.line) = true := by rfl) (hs : starEach [e] X.env = (false, eval e X.env) :: starEach [] X.env := by rfl) (hplain : (backTo cpos (starEach [] X.env)).any (·.1) = false := by rfl) :
 PE X (.Call (.Attribute o "extend" apos) [e] [] cpos) (tM X.K (mutM .extend i cs)) :=
 PE.imp (Zhh PySem.F.plainAttrs_list PySem.F.slot_list_extend PySem.F.type_list_extend ZhY ho ha hbase hfew hline hs hplain) fun σ H Q h => Zkj h fun vs H1 p0 d ws Hs2 ds ds' us m2 m' hm hv n rl fin => by
  unfold mutD at hm
  split at hm
  . split at hm
    . rename_i hl
      cases hm
      obtain ⟨v, m1, rfl, hv, l⟩ := hv.one
      cases hv with
      | nd nn rr =>
       have l1 := rl.len
       have l2 := rr.len
       exact ⟨p0, _, us, _, rfl, rfl, n, nn, by omega, fin _ (fun b => m' b + m1 b) (fun _ => 0) .non (fun b => by have := l b; (try dsimp only); omega) (rl.app rr) (.sc _ _)⟩
    . cases hm
  all_goals (first | contradiction | cases hm)
theorem ZfB {cs : M (List Op)} (ho : PE X o (tVar i)) (ha : PA X [e] (tPs X.K cs))
 (hbase : attributeBase o "pop" X.env (eval o X.env) = eval o X.env := by rfl)
 (hfew : ((backTo cpos (starEach [e] X.env)).all (fun x => !x.1) && (backToKw cpos (keywordEach [] X.env)).all (fun x => x.1.isSome)
  && decide ([e].length + ([] : List Keyword).length + (if ([] : List Keyword).isEmpty then 0 else 1) < 30)) = true := by rfl)
 (hline : (apos.endLine == cpos.line) = true := by rfl) (hs : starEach [e] X.env = (false, eval e X.env) :: starEach [] X.env := by rfl) (hplain : (backTo cpos (starEach [] X.env)).any (·.1) = false := by rfl) :
 PE X (.Call (.Attribute o "pop" apos) [e] [] cpos) (tM X.K (mutM .popAt i cs)) :=
 PE.imp (Zhh PySem.F.plainAttrs_list PySem.F.slot_list_pop PySem.F.type_list_pop Zjc ho ha hbase hfew hline hs hplain) fun σ H Q h => Zkj h fun vs H1 p0 d ws Hs2 ds ds' us m2 m' hm hv n rl fin => by
  unfold mutD at hm
  split at hm
  case h_3 =>
   split at hm
   . rename_i hl
     simp only [Option.bind_eq_some_iff, Option.map_eq_some_iff] at hm
     obtain ⟨j, hj, x, hx, hm⟩ := hm
     cases hm
     obtain ⟨v, m1, rfl, hv, l⟩ := hv.one
     cases hv
     obtain ⟨z, n1, n2, a1, a2, a3, a4⟩ := rl.erase hx
     refine ⟨p0, us, _, j, z, rfl, rfl, n, hl.1, hl.2, ?_, a1, fin _ n2 n1 z (fun b => by have := a4 b; omega) a3 a2⟩
     rw [rl.len]
     exact ZpY hj
   . cases hm
  all_goals (first | contradiction | cases hm)
theorem Znz (ho : PE X o (tVar i)) (hbase : attributeBase o "pop" X.env (eval o X.env) = eval o X.env := by rfl) (hline : (apos.endLine == cpos.line) = true := by rfl) :
 PE X (.Call (.Attribute o "pop" apos) [] [] cpos) (tM X.K (mutM .pop i (M.ret []))) :=
 PE.imp (Zme PySem.F.plainAttrs_list PySem.F.slot_list_pop PySem.F.type_list_pop Zmf ho hbase hline) fun σ H Q h => ZpZ h fun H1 p0 d Hs2 ds ds' us m' hm n rl fin => by
  have hm : (ds.getLast?.map fun d => (d, Kd.lst, ds.dropLast)) = some (d, .lst, ds') := hm
  simp only [Option.map_eq_some_iff] at hm
  obtain ⟨x, hx, hm⟩ := hm
  cases hm
  rw [List.getLast?_eq_getElem?] at hx
  obtain ⟨z, n1, n2, a1, a2, a3, a4⟩ := rl.erase hx
  rw [ZcA] at a3
  rw [<- rl.len] at a1 a3
  rw [ZcA] at a3
  exact ⟨p0, us, z, rfl, rfl, n, a1, fin _ n2 n1 z (fun b => by have := a4 b; omega) a3 a2⟩
end
section
variable {X : Cx} {e a b : Expr} {es : List Expr} {pos : Pos} {K : Fg}
def PF (X : Cx) (es : List Expr) (f : Str -> M D) : Prop := ∃ ts, PEs X es ts /\ ∀ acc σ H Q, tM X.K (f acc) σ H Q -> Zkd ts acc σ H Q
end
end T
namespace T
open PySem PySem.Spec L2
theorem Zdw {v : V} {k : Key} (h : keyD v = some k) : v = kV k := by
 unfold keyD at h
 split at h <;> cases h <;> rfl
theorem Zby {k : Key} : ∀ {ks : List Key} {vs : List V}, L2.valV (ks.zip vs) k = ZH k ks vs
 | [], _ => by simp [ZH, L2.Zft]
 | _ :: _, [] => by simp [ZH, L2.Zft]
 | j :: ks, v :: vs => by
  rw [List.zip_cons_cons]
  unfold ZH
  by_cases e : j = k
  . rw [if_pos e, L2.ZcB (p := (j, v)) e]
  . rw [if_neg e, L2.ZcC (p := (j, v)) e]
    exact Zby
section
variable {K : Fg} {H Hs : Hp}
theorem RepL.look {k : Key} {d : D} : ∀ {ks : List Key} {vs : List V} {ds : List D} {m : Bud}, RepL K H Hs vs ds m -> ZH k ks ds = some d -> ∃ (v : V) (m1 : Bud), ZH k ks vs = some v /\ Rep K H Hs v d m1 /\ ∀ b, m1 b <= m b
 | [], _, _, _, .nil _, e => by cases e
 | _ :: _, _, _, _, .nil _, e => by cases e
 | [], _, _, _, .cons x r l, e => by cases e
 | j :: ks, _, _, _, .cons (m1 := m1) (m2 := m2) x r l, e => by
  unfold ZH at e ⊢
  by_cases h : j = k
  . rw [if_pos h] at e ⊢
    cases e
    exact ⟨_, m1, rfl, x, fun b => by have := l b; omega⟩
  . rw [if_neg h] at e ⊢
    obtain ⟨v, n1, h1, h2, h3⟩ := RepL.look r e
    exact ⟨v, n1, h1, h2, fun b => by have := l b; have := h3 b; omega⟩
theorem RepL.lookS {k : Key} : ∀ {ks : List Key} {vs : List V} {ds : List D} {m : Bud}, RepL K H Hs vs ds m -> (ZH k ks vs).isSome = (ZH k ks ds).isSome
 | [], _, _, _, .nil _ => rfl
 | _ :: _, _, _, _, .nil _ => rfl
 | [], _, _, _, .cons x r l => rfl
 | j :: ks, _, _, _, .cons x r l => by
  unfold ZH
  by_cases h : j = k
  . rw [if_pos h, if_pos h]; rfl
  . rw [if_neg h, if_neg h]; exact RepL.lookS r
theorem Zjz {p : Key × V} {r : List (Key × V)} {k : Key} {v : V} (e : ¬ p.1 = k) : putK (p :: r) k v = p :: putK r k v := by
 unfold putK
 rw [List.any_cons, decide_eq_false e, Bool.false_or]
 split
 . rw [List.map_cons, if_neg e]
 . rfl
theorem ZfC {k : Key} {v : V} : ∀ {ks : List Key} {vs : List V}, k ∉ ks -> (ks.zip vs).map (fun kv => if kv.1 = k then (kv.1, v) else kv) = ks.zip vs
 | [], _, _ => rfl
 | _ :: _, [], _ => rfl
 | j :: ks, x :: vs, h => by
  rw [List.zip_cons_cons, List.map_cons, if_neg (fun e : j = k => h (e ▸ List.mem_cons_self)), ZfC fun q => h (List.mem_cons_of_mem _ q)]
theorem RepL.stor {k : Key} {d : D} {v : V} {n : Bud} (x : Rep K H Hs v d n) : ∀ {ks ks' : List Key} {vs : List V} {ds ds' : List D} {m : Bud}, ks.length = vs.length -> RepL K H Hs vs ds m -> ZbM k d ks ds = some (ks', ds') ->
 ∃ vs', ks'.length = vs'.length /\ RepL K H Hs vs' ds' (fun b => m b + n b) /\ putK (ks.zip vs) k v = ks'.zip vs'
 | [], _, _, _, _, _, hl, .nil m, e => by
  cases e
  exact ⟨[v], rfl, .cons x (.nil m) fun b => by omega, rfl⟩
 | _ :: _, _, _, _, _, _, hl, .nil m, e => by cases e
 | [], _, _, _, _, _, hl, .cons y r l, e => by cases e
 | j :: ks, ks', y0 :: vs, x0 :: ds, ds', m, hl, .cons (m1 := m1) (m2 := m2) y r l, e => by
  have hl : ks.length = vs.length := Nat.succ.inj hl
  unfold ZbM at e
  by_cases h : j = k
  . rw [if_pos h] at e
    split at e
    . cases e
    . rename_i hk
      have hk : k ∉ ks := fun hm => hk (List.any_eq_true.mpr ⟨k, hm, decide_eq_true rfl⟩)
      cases e
      refine ⟨v :: vs, by simp [hl], .cons x r fun b => by have := l b; (try dsimp only); omega, ?_⟩
      rw [List.zip_cons_cons, List.zip_cons_cons]
      unfold putK
      rw [List.any_cons, decide_eq_true (show (j, y0).1 = k from h), Bool.true_or, if_pos rfl, List.map_cons, if_pos h, ZfC hk]
  . rw [if_neg h] at e
    simp only [Option.map_eq_some_iff] at e
    obtain ⟨⟨ks2, ds2⟩, e2, e3⟩ := e
    cases e3
    obtain ⟨vs2, h1, h2, h3⟩ := RepL.stor x hl r e2
    refine ⟨y0 :: vs2, by simp [h1], .cons y h2 fun b => by have := l b; (try dsimp only); omega, ?_⟩
    rw [List.zip_cons_cons, Zjz (show ¬ (j, y0).1 = k from h), h3]
    rfl
end
section
variable {X : Cx} {a b o e k : Expr} {pos pos' : Pos} {i : Nat} {lk : Nat -> Bool}
theorem Zdx {K : Fg} {c : M Op} {σ : St} {H : Hp} {R R' : VK} (h : tP K c σ H R) (w : ∀ v H', R v H' -> R' v H') : tP K c σ H R' := by
 obtain ⟨δ, Hs, M, a, δ', g, s, e, q⟩ := h
 exact ⟨δ, Hs, M, a, δ', g, s, e, fun v H' Hs' m M' g' st r s' => w v H' (q v H' Hs' m M' g' st r s')⟩
theorem ZP {α β : Type} {c : M α} {f : α -> M β} {δ δ' : List D} {x : α} (h : c δ = .ok (x, δ')) : c.bnd f δ = f x δ' := by
 unfold M.bnd
 rw [h]
theorem PE.or {t t' : TE} (h : PE X e t) (h' : PE X e t') : PE X e fun σ H Q => t σ H Q \/ t' σ H Q := fun pins s σ H Q I q => q.elim (h pins s σ H Q I) (h' pins s σ H Q I)
theorem Zr {ca cb : M Op} (hu : X.A.units + 64 < cLine) (ha : PE X a (tP X.K ca)) (hb : PE X b (tP X.K cb)) (hs : Zev b := by intro _ _; rfl) :
 PE X (.Subscript a b pos) (tM X.K (ca.bnd fun p => cb.bnd fun q => (view p).bnd fun x => (view q).bnd fun y => lift (ixW2 x y))) :=
 PE.imp (PE.or (ZjY Zop ha hb hs) (ZkF (by omega) ha hb hs)) fun σ H Q h => by
  obtain ⟨δ, Hs, M, d, δ', g, s, e, q⟩ := h
  obtain ⟨p, δ1, e1, e⟩ := Zb e
  obtain ⟨p2, δ2, e2, e⟩ := Zb e
  obtain ⟨w1, δ3, e3, e⟩ := Zb e
  obtain ⟨w2, δ4, e4, e⟩ := Zb e
  obtain ⟨e5, rfl⟩ := ZL e
  have back : ∀ f : W -> W -> Option D, f w1 w2 = some d -> tM X.K (ca.bnd fun p => cb.bnd fun q => (view p).bnd fun x => (view q).bnd fun y => lift (f x y)) σ H Q := fun f hf => by
   refine ⟨δ, Hs, M, d, _, g, s, ?_, q⟩
   rw [ZP e1, ZP e2, ZP e3, ZP e4, hf]
   rfl
  unfold ixW2 at e5
  split at e5
  . right
    refine Zdx (op2 (back ixD e5)) fun x H1 h1 => Zdx h1 fun y H2 h2 => ?_
    obtain ⟨Hs2, w1', w2', m1, m2, d2, hs2, l1, l2, v1, v2, e6, oo⟩ := h2
    unfold ixD at e6
    split at e6
    . simp only [Option.bind_eq_some_iff] at e6
      obtain ⟨kk, hk, hl⟩ := e6
      cases v1 with
      | nd n r =>
       cases v2
       obtain ⟨z, n1, h3, h4, h5⟩ := r.look hl
       have hy := Zdw hk
       subst hy
       have g := DGet.k (k := kk) n.2
       rw [Zby, h3] at g
       exact ⟨_, z, rfl, g, oo.part l1 l2 (fun b => by have := h5 b; omega) h4⟩
    . cases e6
  . exact .inl (op2 (back ixW e5))
theorem Zkk (p : Bool) (op : CmpOp) (hop : op = if p then .In else .NotIn) (hu : X.A.units + 64 < cLine) : OpR X (compareOp op) (r2C X.K (inD p)) := by
 intro pins s σ H x y v u Q I rx ry h
 obtain ⟨Hs, w1, w2, m1, m2, t, hs, v1, v2, e, q⟩ := h
 unfold inD at e
 split at e
 . simp only [Option.map_eq_some_iff] at e
   obtain ⟨kk, hk, rfl⟩ := e
   cases v2 with
   | @nd a _ vs _ _ n r =>
    cases v1
    have hy := Zdw hk
    subst hy
    obtain rfl : u = Value.ref a := ry
    have g := DGet.k (k := kk) n.2
    rw [Zby] at g
    have es := fun ks => r.lookS (k := kk) (ks := ks)
    cases p with
    | true =>
     subst hop
     refine d_in (by omega) I g rx fun s' I' => ⟨.bl _, H, I', rfl, ?_⟩
     rw [es]
     simpa using q
    | false =>
     subst hop
     refine ZkD (by omega) I g rx fun s' I' => ⟨.bl _, H, I', rfl, ?_⟩
     rw [es]
     have z : ∀ c : Bool, (c == false) = !c := by decide
     rw [z] at q
     exact q
 . cases e
theorem ZgD (op : CmpOp) (hu : X.A.units + 64 < cLine) : OpR X (compareOp op) (r2C X.K (ZV op)) := by
 intro pins s σ H x y v u Q I rx ry h
 obtain ⟨Hs, w1, w2, m1, m2, t, hs, v1, v2, e, q⟩ := h
 unfold ZV at e
 split at e
 . exact Zkk true .In rfl hu pins s σ H x y v u Q I rx ry ⟨Hs, w1, w2, m1, m2, t, hs, v1, v2, e, q⟩
 . exact Zkk false .NotIn rfl hu pins s σ H x y v u Q I rx ry ⟨Hs, w1, _, m1, m2, t, hs, v1, v2, e, q⟩
 . exact Ze3 op hu pins s σ H x y v u Q I rx ry ⟨Hs, w1, w2, m1, m2, t, hs, v1, v2, e, q⟩
theorem op2C {K : Fg} {ca cb : M Op} {f : W -> W -> Option Bool} {σ : St} {H : Hp} {Q : VK} (h : tM K (ca.bnd fun p => cb.bnd fun q => (view p).bnd fun x => (view q).bnd fun y => lift ((f x y).map fun t => .sc (.bl t))) σ H Q) : tOp (r2C K f) (tP K ca) (tP K cb) σ H Q :=
 Zdx (op2 (f := fun x y => (f x y).map fun t => .sc (.bl t)) h) fun x H1 h1 => Zdx h1 fun y H2 h2 => by
  obtain ⟨Hs2, w1, w2, m1, m2, d2, hs2, l1, l2, v1, v2, e, oo⟩ := h2
  simp only [Option.map_eq_some_iff] at e
  obtain ⟨t, e, rfl⟩ := e
  exact ⟨Hs2, w1, w2, m1, m2, t, hs2, v1, v2, e, oo.sc⟩
theorem Zbz {op : CmpOp} {ca cb : M Op} (hu : X.A.units + 64 < cLine) (ha : PE X a (tP X.K ca)) (hb : PE X b (tP X.K cb)) (hm : behindInMarks op b = false := by first | exact nomark _ | with_unfolding_all rfl) :
 PE X (.Compare a [op] [b] pos) (tM X.K (ca.bnd fun p => cb.bnd fun q => (view p).bnd fun x => (view q).bnd fun y => lift ((ZV op x y).map fun t => .sc (.bl t)))) := PE.imp (Zky (ZgD op hu) ha hb hm) fun σ H Q h => op2C h
theorem Zz {op : CmpOp} {ca cb : M Op} (hu : X.A.units + 64 < cLine) (ha : PE X a (tP X.K ca)) (hb : PE X b (tP X.K cb)) (hm : behindInMarks op b = false := by first | exact nomark _ | with_unfolding_all rfl) :
 PT X (.Compare a [op] [b] pos) (tT X.K (Zcn (ca.bnd fun p => cb.bnd fun q => (view p).bnd fun x => (view q).bnd fun y => lift ((ZV op x y).map fun t => .sc (.bl t))))) := PT.imp (Zkz (ZgD op hu) ha hb hm) fun σ H Q h => op2C (ZkR h)
theorem Zqa : PE X (.Dict [] [] pos) (tM X.K (M.ret (.node (.dic []) true []))) := PE.imp Zje fun σ H Q h => by
 obtain ⟨δ, Hs, M, d, δ', g, s, e, q⟩ := h
 have := Ze e
 cases this
 have oo : Outs X.K H Hs (fun _ => 0) _ Q := Zba (B := fun _ => 0) (M := M) (stp0 H Hs M) (Zax g) s q
 exact fun p hp => oo.new (fun b => by simp) (fun b hb => by simp at hb) hp (vs := []) ⟨rfl, Zk⟩ (.nil _)
def Zqb : V -> V -> V -> Hp -> (Hp -> Prop) -> Prop := fun o i v H Q => ZjZ o i v H Q \/ ∃ a H', o = .ref a /\ DPut H a i v H' /\ Q H'
theorem Zqc (hu : X.A.units + 64 < cLine) : PSet X Zqb := by
 intro pins s σ H o i v ov iv u Q I ro ri rv h
 rcases h with h | ⟨a, H', rfl, g, q⟩
 . exact Zfo pins s σ H o i v ov iv u Q I ro ri rv h
 . obtain rfl : ov = Value.ref a := ro
   exact Zib (by omega) I g ri rv fun s' I' => ⟨H', I', q⟩
theorem Zdy {c : M D} {ck : M Op} (hu : X.A.units + 64 < cLine) (ho : PE X o (tVar i)) (hk : PE X k (tP X.K ck)) (he : PE X e (tM X.K c))
 (ha : ∀ v, assign (.Subscript o k pos') X.env v = (do
  let ov <- holding [v] (eval o X.env)
  let iv <- holding [v, ov] (eval k X.env)
  standAt pos'
  holding [v, ov, iv] (setItem ov iv v)
  release [v, ov, iv] []) := by intro _; rfl)
 (hs : swapsWithSole [.Subscript o k pos'] e pos.line X.env = pure false := by rfl) (hw : swappedStores [.Subscript o k pos'] e X.env = pure none := by rfl)
 (h1 : (assignEach [.Subscript o k pos'] X.env).map (·.2) = [assign (.Subscript o k pos') X.env] := by rfl) :
 PS X (.Assign [.Subscript o k pos'] e pos) (tS X.K lk (c.bnd fun d => (ZT i).bnd fun _ => (ck.bnd view).bnd fun w => (modS i (Zbj w d)).bnd fun _ => M.ret .nx)) :=
 PS.imp (Zfl he (ZhF ho hk (Zqc hu) ha) hs hw h1) fun E σ H h => by
 obtain ⟨δ, Hs, M, f, δ', g, s, ea, q⟩ := h
 obtain ⟨d, δ1, e1, eb⟩ := Zb ea
 obtain ⟨p0, δ2, e2, ec⟩ := Zb eb
 obtain ⟨w, δ3, e3, ed⟩ := Zb ec
 obtain ⟨p, δ4, e4, e5⟩ := Zb e3
 obtain ⟨r0, δ5, e6, e7⟩ := Zb ed
 have := Ze e7
 cases this
 obtain ⟨kk, ds0, k', ds', hi, hf, rfl⟩ := Zc5 e6
 refine ⟨δ, Hs, M, d, δ1, g, s, e1, fun v H1 Hs1 m1 M1 g1 st1 r1 s1 => ?_⟩
 obtain ⟨rfl, vo, ho⟩ := Zg8 s1 e2
 refine ⟨vo, ho, δ2, Hs1, M1, p, δ4, g1.re, s1, e4, fun y H2 Hs2 m2 M2 g2 st2 r2 s2 => ?_⟩
 obtain ⟨G2, S2, k2⟩ := Zm g g1 st1 g2 st2
 have r1' := r1.frame st2.grow k2
 obtain ⟨Hs3, M3, g3, st3, v3, s3⟩ := Za1 (B := fun b => m1 b + m2 b) (G2.re fun b => by (try dsimp only); omega) s2 r2 e5
 have r1'' := r1'.frame (H' := H2) st3.grow fun _ _ _ => rfl
 obtain ⟨p1, us, m', n2, e8, n, rl, le, fin⟩ := modL g3 s3 hi
 rw [ho] at e8
 cases e8
 have S2' : Stp H Hs M H2 Hs2 (fun b => m1 b + m2 b + M2 b) := S2.drop (fun b => by omega) G2.le
 have G2' : Good H2 Hs2 (fun b => m1 b + m2 b + M2 b) := G2.re fun b => by omega
 have z3 := Zm (m1 := fun _ => 0) g (G2'.re fun b => by simp) (S2'.drop (fun b => by simp) G2'.le) g3 st3
 have S3 : Stp H Hs M H2 Hs3 (fun b => m1 b + m2 b + M3 b) := z3.2.1.drop (fun b => by simp) z3.1.le
 have last : ∀ (ob : HO) (us' : List V) (n' : Bud), (∀ b, n' b <= m' b + m1 b) -> ZaE X.K (upd H2 p1 ob) p1 us' k' -> RepL X.K H2 Hs3 us' ds' n' -> E.nx σ (upd H2 p1 ob) := fun ob us' n' hn no rn => by
  obtain ⟨G, S, R, SS⟩ := fin ob k' us' ds' n' (fun _ => 0) .non (.sc .non) (fun b => by have := hn b; (try dsimp only); omega) no rn (.sc _ _)
  have z := Zm (m1 := fun _ => 0) g (g3.re fun b => by simp) (S3.drop (fun b => by simp) g3.le) G S
  exact q σ _ Hs3 _ (Keeps.refl _ _) (G.re fun b => by (try dsimp only); omega) ((z.2.1.drop (fun b => by simp) z.1.le).drop (fun b => by (try dsimp only); omega) G.le) SS
 unfold Zbj at hf
 split at hf
 . split at hf
   . split at hf
     . rename_i hz
       simp only [Option.bind_eq_some_iff, Option.map_eq_some_iff] at hf
       obtain ⟨kk, hk, rr, hst, hf⟩ := hf
       cases hf
       cases v3
       have hy := Zdw hk
       subst hy
       obtain ⟨us', h1, h2, h3⟩ := RepL.stor r1'' n.1 rl hst
       right
       have hl := rl.len
       have hp := DPut.k (k := kk) (v := v) n.2 (by rw [List.length_zip, n.1]; omega)
       rw [h3] at hp
       exact ⟨p1, _, rfl, hp, last _ us' _ (fun b => Nat.le_refl _) ⟨h1, Zk⟩ h2⟩
     . cases hf
   . cases hf
 . unfold setD at hf
   split at hf
   . split at hf
     . rename_i nn
       simp only [Option.map_eq_some_iff] at hf
       obtain ⟨jj, hj, hf⟩ := hf
       cases hf
       cases v3
       have hl := rl.len
       have hjj : ixN us.length nn = some jj := by rw [hl]; exact hj
       have hlt : jj < ds0.length := by
        unfold ixN' at hj
        split at hj
        . split at hj
          . cases hj; omega
          . cases hj
        . split at hj
          . cases hj; omega
          . cases hj
       exact .inl ⟨p1, us, nn, jj, rfl, rfl, n, hjj, last (.lst (us.set jj v)) (us.set jj v) _ (fun b => Nat.le_refl _) Zk (rl.set (List.getElem?_eq_getElem hlt) r1'')⟩
     . cases hf
   . cases hf
end
end T
namespace T
open PySem PySem.Spec L2
theorem Zdd : ∀ (c : Int) (ds : List D), (ZE c ds).length = ds.length
 | _, [] => rfl
 | c, d :: ds => by rw [ZE, List.length_cons, List.length_cons, Zdd]
theorem ZfD : ∀ (c : Int) (ds : List D) (i : Nat) {d : D}, (ZE c ds)[i]? = some d -> ∃ x, ds[i]? = some x /\ d = .node .tup false [.sc (.int (c + i)), x]
 | _, [], i, _, h => by simp [ZE] at h
 | c, x :: ds, 0, d, h => by
  rw [ZE, List.getElem?_cons_zero] at h
  cases h
  exact ⟨x, rfl, by simp⟩
 | c, x :: ds, i + 1, d, h => by
  rw [ZE, List.getElem?_cons_succ] at h
  obtain ⟨y, e1, e2⟩ := ZfD (c + 1) ds i h
  refine ⟨y, by rw [List.getElem?_cons_succ]; exact e1, ?_⟩
  have z : c + 1 + (i : Int) = c + ((i + 1 : Nat) : Int) := by omega
  rw [e2, z]
theorem Zi3 {K : Fg} {a : Addr} {vs : List V} {ds : List D} {B : Bud} {c : Int} : Walk K (Ite K a c) (ZE c ds) B (fun H Hs => (SqL K Hs a vs \/ (H a = some (.lst vs) /\ B a ≥ 1)) /\ RepL K H Hs vs ds (fun _ => 0)) := by
 have sq : ∀ {H Hs : Hp}, Same Hs H -> (SqL K Hs a vs \/ (H a = some (.lst vs) /\ B a ≥ 1)) -> SqL K H a vs := fun g h => h.elim (fun h => g.seq h) fun h => .inl (.inl h.1)
 refine ⟨fun h g k => ⟨?_, h.2.frame g fun b hb => absurd hb (by simp)⟩, fun {H Hs i} g h l => ?_, fun {H Hs H' i x d} g h e y => ?_, fun {H Hs i} g h l => ?_⟩
 . rcases h.1 with h | ⟨h, hb⟩
   . exact .inl (g.seq h)
   . exact .inr ⟨(k a hb (by rw [h]; simp)).trans h, hb⟩
 . have e := h.2.len
   rw [Zdd] at l
   exact ⟨vs, _, sq g h.1, List.getElem?_eq_getElem (show i < vs.length by omega)⟩
 . obtain ⟨x1, e1, e2⟩ := ZfD c ds i e
   subst e2
   obtain ⟨A, y1, rfl, hA, rfl, hy⟩ := y
   obtain ⟨v, m1, ev, rv, lv⟩ := h.2.at e1
   have hv := hy vs (sq g h.1)
   rw [ev] at hv
   cases hv
   have gr : Grow H Hs (upd H A (.tup [.int (c + i), y1])) (upd Hs A (.tup [.int (c + i), y1])) := .inr ⟨A, _, hA, rfl, rfl⟩
   obtain ⟨sm, fr, _⟩ := gr.same g
   refine ⟨_, gr, .shd (k := .tup) (vs := [.int (c + i), y1]) (show _ = some _ from Zk) (.cons (m1 := fun _ => 0) (m2 := fun _ => 0) (.sc _ _) (.cons (m1 := fun _ => 0) (m2 := fun _ => 0) ((rv.mono lv).frame sm fun b _ n => fr b n) (.nil _) fun b => by simp) fun b => by simp)⟩
 . have e := h.2.len
   rw [Zdd] at l
   exact ⟨vs, sq g h.1, by omega⟩
theorem Zn0 {c cb : M Op} {n : Int} {δ δ' : List D} {h : List W × List (Nat × D)} (hcb : ∀ δ, cb δ = .ok (.tmp (.sc (.int n)), δ)) (e : ((c.bnd fun p => (cb.bnd fun p => (M.ret ([] : List Op)).bnd fun ps => M.ret (p :: ps)).bnd fun ps => M.ret (p :: ps)).bnd Z0) δ = .ok (h, δ')) :
 ∃ p δ1 w, c δ = .ok (p, δ1) /\ Zaq p δ1 = .ok (w, δ') /\ h = ([w.1, .sc (.int n)], w.2.toList) := by
 obtain ⟨ps, δ1, e1, e2⟩ := Zb e
 obtain ⟨p, δ2, e3, e4⟩ := Zb e1
 obtain ⟨qs, δ3, e5, e6⟩ := Zb e4
 obtain ⟨p2, δ4, e7, e8⟩ := Zb e5
 rw [hcb] at e7
 cases e7
 obtain ⟨z, δ5, e9, e10⟩ := Zb e8
 have := Ze e9
 cases this
 have := Ze e10
 cases this
 have := Ze e6
 cases this
 obtain ⟨w, δ6, e11, e12⟩ := Zb e2
 obtain ⟨ws, δ7, e13, e14⟩ := Zb e12
 obtain ⟨w2, δ8, e15, e16⟩ := Zb e13
 have := Ze e15
 cases this
 obtain ⟨z, δ9, e17, e18⟩ := Zb e16
 have := Ze e17
 cases this
 have := Ze e18
 cases this
 have := Ze e14
 cases this
 exact ⟨p, _, w, e3, e11, by simp⟩
theorem Zqd {X : Cx} {x : Str} {i : Int} {p : Pos} (hg : Gl X x) (h : ∃ t, X.mg x = some (.int i t)) (hd : (x == ("__debug__" : Str)) = false) : PE X (.Name x p) (tM X.K (M.ret (.sc (.int i)))) := by
 obtain ⟨t, h⟩ := h
 exact ok_k (Zgv hg h ⟨t, rfl⟩ hd)
theorem Zdz {X : Cx} {es : List Expr} {k1 : Nat} {q : Pos} {is : List Nat} (hc : X.calm = true) (hg : PGs X es (gNs is)) (hn : (assignEach es X.env).length = is.length := by rfl) (hst : (assignEach es X.env).findIdx? (·.1) = none := by rfl) : PG X (.Tuple es k1 q) (gT X.K (.tup is)) := Ziv hc hg hn hst
section
variable {X : Cx} {es : List Expr} {k1 : Nat} {l ke : Expr} {ca cb : M Op} {p pos q kp : Pos} {c : Int}
theorem ZgE (hl : PE X l (tP X.K ca)) (hcb : ∀ δ, cb δ = .ok (.tmp (.sc (.int c)), δ)) (σ : St) (H : Hp) (R : It -> Hp -> Prop) (h : tI X.K .enum (ca.bnd fun p => (cb.bnd fun p => (M.ret ([] : List Op)).bnd fun ps => M.ret (p :: ps)).bnd fun ps => M.ret (p :: ps)) σ H R) : Zho X.K c (ZdS (tP X.K ca) tNil) σ H R /\ Builtin.SmallTypes.fitsIndex c = true := by
 obtain ⟨δ, Hs, M, h, items, δ', g, s, e, ei, z⟩ := h
 obtain ⟨p, δ1, w, e1, e2, rfl⟩ := Zn0 hcb e
 obtain ⟨w1, w2⟩ := w
 have core : ∀ (x : V) (H2 Hs2 : Hp) (m1 M2 : Bud), Good H2 Hs2 (fun b => m1 b + M2 b) -> Stp H Hs M H2 Hs2 (fun b => m1 b + M2 b) -> RepP X.K H2 Hs2 σ x p m1 -> RepS X.K H2 Hs2 σ δ1 M2 ->
  ∃ Hs3 B M3, Good H2 Hs3 (fun b => B b + M3 b) /\ Stp H Hs M H2 Hs3 (fun b => B b + M3 b) /\ RepS X.K H2 Hs3 σ δ' M3 /\ Held X.K H2 Hs3 σ w2.toList B /\ HW X.K H2 Hs3 B x w1 := fun x H2 Hs2 m1 M2 g2 st2 r1 s2 => by
  obtain ⟨Hs3, B, M3, g3, st3, s3, hh, hw⟩ := Zbw g2 s2 r1 e2
  have z := Zm (m1 := fun _ => 0) g (g2.re fun b => by simp) (st2.drop (fun b => by simp) g2.le) g3 st3
  exact ⟨Hs3, B, M3, g3, z.2.1.drop (fun b => by simp) z.1.le, s3, hh, hw⟩
 have fit : okR c = true -> Builtin.SmallTypes.fitsIndex c = true := fun h => by
  simp only [okR, Bool.and_eq_true, decide_eq_true_eq] at h
  simp only [Builtin.SmallTypes.fitsIndex, Bool.and_eq_true, decide_eq_true_eq]
  omega
 cases w1 with
 | sc u => cases ei
 | nd k ds =>
  have hkk : (k = .lst \/ k = .frl) /\ okR c = true /\ items = ZE c ds := by
   simp only [itW, Zkh] at ei
   split at ei
   . rename_i hk; cases ei; exact ⟨hk.1, hk.2, rfl⟩
   . cases ei
  obtain ⟨hk, hc, rfl⟩ := hkk
  refine ⟨⟨δ, Hs, M, p, δ1, g, s, e1, fun x H2 Hs2 m1 M2 g2 st2 r1 s2 => ?_⟩, fit hc⟩
  obtain ⟨Hs3, B, M3, g3, st3, s3, hh, a, vs, hx, hr, hn⟩ := core x H2 Hs2 m1 M2 g2 st2 r1 s2
  have hp : SqL X.K Hs3 a vs \/ (H2 a = some (.lst vs) /\ B a ≥ 1) := by
   rcases hk with rfl | rfl
   . exact hn.elim (fun n => .inl (.inl (.inl n))) fun n => .inr n
   . exact hn.elim (fun n => .inl n) fun n => n.1.elim
  refine ⟨a, by rw [hx], ⟨vs, ?_⟩, z _ _ H2 Hs3 B M3 g3 st3 s3 hh Zi3 ⟨hp, hr⟩⟩
  rcases hp with hp | hp
  . exact g3.sub.seq hp
  . exact .inl (.inl hp.1)
theorem ZcK (hg : Gl X "enumerate") (hm : X.mg "enumerate" = none) (hl : PE X l (tP X.K ca)) (hcb : ∀ δ, cb δ = .ok (.tmp (.sc (.int 0)), δ) := by intro _; rfl) (hs : starEach [l] X.env = [(false, eval l X.env)] := by rfl) :
 PI X (.Tuple es k1 q) (.Call (.Name "enumerate" p) [l] [] pos) (tI X.K .enum (ca.bnd fun p => (cb.bnd fun p => (M.ret ([] : List Op)).bnd fun ps => M.ret (p :: ps)).bnd fun ps => M.ret (p :: ps))) := PI.imp (ZkP hg hm (Zam hl Zbd (by rw [hs]; rfl)) hs) fun σ H R h => (ZgE hl hcb σ H R h).1
theorem Zj0 (hg : Gl X "enumerate") (hm : X.mg "enumerate" = none) (hl : PE X l (tP X.K ca)) (hke : PE X ke (tC (.int c))) (hcb : ∀ δ, cb δ = .ok (.tmp (.sc (.int c)), δ) := by intro _; rfl) (hs : starEach [l] X.env = [(false, eval l X.env)] := by rfl) :
 PI X (.Tuple es k1 q) (.Call (.Name "enumerate" p) [l] [⟨some "start", ke, kp⟩] pos) (tI X.K .enum (ca.bnd fun p => (cb.bnd fun p => (M.ret ([] : List Op)).bnd fun ps => M.ret (p :: ps)).bnd fun ps => M.ret (p :: ps))) := fun pins s σ H R I h => by
 obtain ⟨h1, h2⟩ := ZgE hl hcb σ H R h
 exact Zjo hg hm (Zam hl Zbd (by rw [hs]; rfl)) hke h2 hs pins s σ H R I h1
end
end T
namespace T
open PySem PySem.Spec L2 PySem.W
noncomputable abbrev dI (xs : List Int) : List D := xs.map fun i => D.sc (.int i)
theorem ZN (x : Int) (xs : List Int) : dI (x :: xs) = .sc (.int x) :: dI xs := (rfl)
theorem Zce : dI [] = [] := (rfl)
theorem Zaa (xs ys : List Int) : dI (xs ++ ys) = dI xs ++ dI ys := List.map_append
theorem Zv (xs : List Int) : (dI xs).length = xs.length := List.length_map _
theorem Zl (xs : List Int) : shrL (dI xs) = dI xs := by
 induction xs with
 | nil => rfl
 | cons x xs ih => simp only [List.map_cons, shrL, shr] at ih ⊢; rw [ih]
theorem Zgl (xs : List Int) : Za9 (dI xs) = some xs := by
 induction xs with
 | nil => rfl
 | cons x xs ih => simp only [List.map_cons, Za9] at ih ⊢; rw [ih]; rfl
theorem Zqe (ds : List D) : bfW .sum [.nd .lst ds] = (Za9 ds).map fun is => .sc (.int is.sum) := (rfl)
theorem Zb0 (xs : List Int) : bfW .sum [.nd .lst (dI xs)] = some (.sc (.int xs.sum)) := by rw [Zqe, Zgl]; rfl
theorem Zkl (w : W) : bfW (.isi .bool) [w] = (tyW .bool w).map fun b => .sc (.bl b) := (rfl)
theorem ZfE (xs : List Int) : pyL (dI xs) = some (xs.map PyData.int) := by
 induction xs with
 | nil => rfl
 | cons x xs ih => simp only [List.map_cons, pyL, py] at ih ⊢; rw [ih]; rfl
theorem ZfF (xs : List Int) : PyData.canLayAll0 (xs.map PyData.int) = true := by
 induction xs with
 | nil => rfl
 | cons x xs ih => simp only [List.map_cons, PyData.canLayAll0, PyData.canLay0, ih, Bool.and_self]
theorem ZeO (xs : List Int) : PyData.depthAll (xs.map PyData.int) = 0 := by
 induction xs with
 | nil => rfl
 | cons x xs ih => simp only [List.map_cons, PyData.depthAll, PyData.depth, ih, Nat.max_self]
theorem Zd8 (xs : List Int) : SeqAt.shaped (.list (xs.map PyData.int)) = true := by
 simp only [SeqAt.shaped, PyData.canLay0, PyData.depth, ZfF, ZeO]
 decide
theorem ZdI : ∀ xs ys : List Int, PyData.eqvAll (xs.map PyData.int) (ys.map PyData.int) = decide (xs = ys)
 | [], [] => by simp only [List.map_nil, PyData.eqvAll, decide_true]
 | [], y :: ys => by simp [PyData.eqvAll]
 | x :: xs, [] => by simp [PyData.eqvAll]
 | x :: xs, y :: ys => by
  simp only [List.map_cons, PyData.eqvAll, PyData.eqv, ZdI xs ys]
  (by_cases h1 : x = y <;> by_cases h2 : xs = ys <;> simp [h1, h2])
theorem Zqf (xs ys : List Int) : ZV .Eq (.nd .lst (dI xs)) (.nd .lst (dI ys)) = some (decide (xs = ys)) := by
 show (py (.node .lst false (dI xs))).bind (fun a => (py (.node .lst false (dI ys))).bind fun b => eqPy a b) = _
 simp only [py, ZfE, Option.map_some, Option.bind_some]
 unfold eqPy
 rw [if_pos ⟨Zd8 xs, Zd8 ys⟩]
 simp only [PyData.eqv, ZdI]
noncomputable def cutI (xs : List Int) (lo hi : Option Int) : List Int := (xs.drop (HT.sIx xs.length 0 lo)).take (HT.sIx xs.length xs.length hi - HT.sIx xs.length 0 lo)
theorem ZaI (xs : List Int) (lo hi : Option Int) : cutD (dI xs) lo hi = dI (cutI xs lo hi) := by
 unfold cutD cutI
 simp only [List.length_map, List.map_take, List.map_drop]
theorem Zd0 (xs : List Int) (lo hi : Option Int) : (cutI xs lo hi).length <= xs.length := by
 unfold cutI
 rw [List.length_take, List.length_drop]
 omega
noncomputable def rngI : Int -> Nat -> List Int
 | _, 0 => []
 | a, n + 1 => a :: rngI (a + 1) n
theorem Zlm (a : Int) : ∀ (n : Nat) (f : Nat -> Int), (∀ k, f k = a + k) -> (List.range n).map (fun k => D.sc (.int (f k))) = dI (rngI a n) := by
 intro n
 induction n generalizing a with
 | zero => intro f _; rfl
 | succ n ih =>
  intro f hf
  (rw [List.range_succ_eq_map, List.map_cons, List.map_map])
  show _ = D.sc (.int a) :: dI (rngI (a + 1) n)
  have h0 : f 0 = a := by rw [hf]; simp
  rw [h0]
  congr 1
  exact ih (a + 1) (fun k => f (k + 1)) fun k => by rw [hf]; omega
theorem ZfG (a b : Int) : rng a b = dI (rngI a (b - a).toNat) := Zlm a _ (fun k => a + k) fun k => rfl
theorem Z5 (a : Int) : ∀ n, (rngI a n).length = n := by
 intro n
 induction n generalizing a with
 | zero => rfl
 | succ n ih => rw [rngI, List.length_cons, ih]
theorem Zai (a : Int) : ∀ n x, x ∈ rngI a n ↔ a <= x /\ x < a + n := by
 intro n
 induction n generalizing a with
 | zero => intro x; simp only [rngI, List.not_mem_nil, false_iff]; omega
 | succ n ih => intro x; rw [rngI, List.mem_cons, ih]; omega
theorem Zfg (n : Int) (h : -(2 ^ 62) <= n /\ n < 2 ^ 62) : itW .rng1 [.sc (.int n)] = some (dI (rngI 0 n.toNat)) := by
 rw [it_1 n (by simp only [okR, Bool.and_eq_true, decide_eq_true_eq]; exact h), ZfG]
 have : n - 0 = n := by omega
 rw [this]
theorem Zqg (a b : Int) (h : -(2 ^ 62) <= a /\ a < 2 ^ 62 /\ -(2 ^ 62) <= b /\ b < 2 ^ 62) : itW .rng2 [.sc (.int a), .sc (.int b)] = some (dI (rngI a (b - a).toNat)) := by
 rw [it_2 a b (by simp only [okR, Bool.and_eq_true, decide_eq_true_eq]; exact ⟨⟨h.1, h.2.1⟩, h.2.2⟩), ZfG]
theorem it_e (ds : List D) (c : Int) (h : -(2 ^ 62) <= c /\ c < 2 ^ 62) : itW .enum [.nd .lst ds, .sc (.int c)] = some (ZE c ds) := by
 show (if _ then _ else _) = _
 rw [if_pos ⟨.inl rfl, by simp only [okR, Bool.and_eq_true, decide_eq_true_eq]; exact h⟩]
theorem Zcf (lk : Nat -> Bool) (is : List Nat) (o : Bool) (ds : List D) : asgT lk (.tup is) (.node .tup o ds) = Zbi lk is ds := (rfl)
theorem ixI (xs : List Int) (k : Int) (h0 : 0 <= k) (h : k < xs.length) : ((ixN' (dI xs).length k).bind fun j => (dI xs)[j]?) = some (.sc (.int (xs.getD k.toNat 0))) := by
 rw [List.length_map]
 unfold ixN'
 rw [if_pos h0, if_pos h]
 (have hk : k.toNat < xs.length := by omega)
 show (dI xs)[k.toNat]? = _
 rw [List.getElem?_map, List.getElem?_eq_getElem hk, List.getD_eq_getElem?_getD, List.getElem?_eq_getElem hk]
 rfl
noncomputable def notV : E -> Bool
 | .v _ => false
 | _ => true
theorem ZbD {e : E} {c : M D} {lk : Nat -> Bool} (h : notV e = true) : ZbX (Zj e c) lk := by
 rw [ZkZ fun j z => by subst z; cases h]
 exact Zm8
section
variable {asg : D -> M Unit} {cond : M Bool} {elt : M D} {d : D} {ds acc δ δ' δ1 caps : List D} {k : Nat} {js : List Nat} {loop : M (List D)}
theorem ZaD : Z9 asg cond elt (d :: ds) acc δ = ((asg d).bnd fun _ => cond.bnd fun b => if b then elt.bnd fun x => Z9 asg cond elt ds (acc ++ [x]) else Z9 asg cond elt ds acc) δ := (rfl)
noncomputable def ZF (fok : Addr -> Str -> Bool) (fuel k : Nat) (tg : Tg) (cond : List E) (elt : E) (items acc : List D) : M (List D) := Z9 (asgT (fun i => decide (k <= i)) tg) (tsts ⟨fun i => decide (k <= i), fok, fuel⟩ cond) (evb ⟨fun i => decide (k <= i), fok, fuel⟩ elt).1 items acc
theorem Zln (C : Ctx) (k : Nat) (js : List Nat) (tg : Tg) (ik : IK) (es es' : List E) (a : E) : (evb C (.comp k js tg ik es es' a)).1 = ((opds C es).bnd fun ps => (Z0 ps).bnd fun h => (lift (itW ik h.1)).bnd fun items => (ZW k js (ZF C.fok C.fuel k tg es' a items [])).bnd fun d => (Zar h.2).bnd fun _ => M.ret d) := (rfl)
theorem ZQ (h1 : Zc2 js δ = .ok (caps, δ1)) (h2 : loop (List.replicate k .hole ++ caps) = .ok (acc, δ')) (h3 : acc.length <= sizeLine) : ZW k js loop δ = ((ZaZ js (δ'.drop k)).bnd fun _ => M.ret (.node .lst true acc)) δ1 := by
 unfold ZW
 rw [ZmF h1, h2]
 show ((ZaZ js (δ'.drop k)).bnd fun _ => lift (newL acc)) δ1 = _
 rw [ZX _ h3]
 rfl
end
end T
namespace T
open PySem PySem.Spec L2
theorem Ze4 (C : T.Ctx) (op op' : CmpOp) (a b e : E) : (evb C (.chain op op' a b e)).1 = ((Zj a (evb C a).1).bnd fun p => (Zj b (evb C b).1).bnd fun q => (view p).bnd fun x => (view q).bnd fun y => (lift (cmpW op x y)).bnd fun t => if t then (Zj e (evb C e).1).bnd fun r => (view q).bnd fun y => (view r).bnd fun z => lift ((cmpW op' y z).map fun t => .sc (.bl t)) else M.ret (.sc (.bl false))) := (rfl)
end T
namespace T
open PySem PySem.Spec L2
theorem ZgF : ∀ (ds es : List D) (i : Nat) {d : D}, (zipD ds es)[i]? = some d -> ∃ x y, ds[i]? = some x /\ es[i]? = some y /\ d = .node .tup false [x, y]
 | [], es, i, d, h => by simp [zipD] at h
 | x :: ds, [], i, d, h => by simp [zipD] at h
 | x :: ds, y :: es, 0, d, h => by
  rw [zipD, List.getElem?_cons_zero] at h
  cases h
  exact ⟨x, y, rfl, rfl, rfl⟩
 | x :: ds, y :: es, i + 1, d, h => by
  rw [zipD, List.getElem?_cons_succ] at h
  obtain ⟨u, v, e1, e2, e3⟩ := ZgF ds es i h
  exact ⟨u, v, by rw [List.getElem?_cons_succ]; exact e1, by rw [List.getElem?_cons_succ]; exact e2, e3⟩
theorem ZdJ : ∀ ds es : List D, (zipD ds es).length = min ds.length es.length
 | [], es => by simp [zipD]
 | x :: ds, [] => by simp [zipD]
 | x :: ds, y :: es => by rw [zipD, List.length_cons, List.length_cons, List.length_cons, ZdJ ds es]; omega
def Stays (K : Fg) (B : Bud) (a : Addr) (vs : List V) (H Hs : Hp) : Prop := SqL K Hs a vs \/ (H a = some (.lst vs) /\ B a ≥ 1)
theorem Stays.sq {K : Fg} {B : Bud} {a : Addr} {vs : List V} {H Hs : Hp} (g : Same Hs H) (h : Stays K B a vs H Hs) : SqL K H a vs := h.elim (fun h => g.seq h) fun h => .inl (.inl h.1)
theorem Stays.frame {K : Fg} {B : Bud} {a : Addr} {vs : List V} {H Hs H' Hs' : Hp} (h : Stays K B a vs H Hs) (g : Same Hs Hs') (k : ∀ b, B b ≥ 1 -> H b ≠ none -> H' b = H b) : Stays K B a vs H' Hs' := by
 rcases h with h | ⟨h, hb⟩
 . exact .inl (g.seq h)
 . exact .inr ⟨(k a hb (by rw [h]; simp)).trans h, hb⟩
theorem Zj1 {K : Fg} {a b : Addr} {vs ws : List V} {ds es : List D} {B : Bud} : Walk K (Itz K a b) (zipD ds es) B (fun H Hs => (Stays K B a vs H Hs /\ Stays K B b ws H Hs) /\ RepL K H Hs vs ds (fun _ => 0) /\ RepL K H Hs ws es (fun _ => 0)) := by
 refine ⟨fun h g k => ⟨⟨h.1.1.frame g k, h.1.2.frame g k⟩, h.2.1.frame g fun b hb => absurd hb (by simp), h.2.2.frame g fun b hb => absurd hb (by simp)⟩, fun {H Hs i} g h l => ?_, fun {H Hs H' i x d} g h e y => ?_, fun {H Hs i} g h l => ?_⟩
 . have e1 := h.2.1.len
   have e2 := h.2.2.len
   rw [ZdJ] at l
   exact ⟨vs, ws, _, _, h.1.1.sq g, h.1.2.sq g, List.getElem?_eq_getElem (show i < vs.length by omega), List.getElem?_eq_getElem (show i < ws.length by omega)⟩
 . obtain ⟨x1, y1, e1, e2, rfl⟩ := ZgF ds es i e
   obtain ⟨A, u, v, rfl, hA, rfl, hu, hv⟩ := y
   obtain ⟨u', m1, eu, ru, lu⟩ := h.2.1.at e1
   obtain ⟨v', m2, ev, rv, lv⟩ := h.2.2.at e2
   have qu := hu vs (h.1.1.sq g)
   have qv := hv ws (h.1.2.sq g)
   rw [eu] at qu
   rw [ev] at qv
   cases qu
   cases qv
   have gr : Grow H Hs (upd H A (.tup [u, v])) (upd Hs A (.tup [u, v])) := .inr ⟨A, _, hA, rfl, rfl⟩
   obtain ⟨sm, fr, _⟩ := gr.same g
   refine ⟨_, gr, .shd (k := .tup) (vs := [u, v]) (show _ = some _ from Zk) (.cons (m1 := fun _ => 0) (m2 := fun _ => 0) ((ru.mono lu).frame sm fun b _ n => fr b n) (.cons (m1 := fun _ => 0) (m2 := fun _ => 0) ((rv.mono lv).frame sm fun b _ n => fr b n) (.nil _) fun b => by simp) fun b => by simp)⟩
 . have e1 := h.2.1.len
   have e2 := h.2.2.len
   rw [ZdJ] at l
   exact ⟨vs, ws, h.1.1.sq g, h.1.2.sq g, by omega⟩
theorem Held.app {K : Fg} {H Hs : Hp} {σ : St} : ∀ {l r : List (Nat × D)} {m n : Bud}, Held K H Hs σ l m -> Held K H Hs σ r n -> Held K H Hs σ (l ++ r) (fun b => m b + n b)
 | [], r, m, n, _, h => Held.more h fun b => by omega
 | (i, d) :: l, r, m, n, ⟨v, m1, m2, e, x, y, q⟩, h => ⟨v, m1, fun b => m2 b + n b, e, x, Held.app y h, fun b => by have := q b; (try dsimp only); omega⟩
where
 Held.more {K : Fg} {H Hs : Hp} {σ : St} : ∀ {l : List (Nat × D)} {m n : Bud}, Held K H Hs σ l m -> (∀ b, m b <= n b) -> Held K H Hs σ l n
  | [], _, _, h, _ => h
  | (i, d) :: l, m, n, ⟨v, m1, m2, e, x, y, q⟩, k => ⟨v, m1, m2, e, x, y, fun b => Nat.le_trans (q b) (k b)⟩
theorem HW.nd_stays {K : Fg} {H Hs Hs' : Hp} {B B' : Bud} {x : V} {k : Kd} {ds : List D} (hk : k = .lst \/ k = .frl) (g : Same Hs Hs') (l : ∀ b, B b <= B' b) (h : HW K H Hs B x (.nd k ds)) : ∃ a vs, x = .ref a /\ Stays K B' a vs H Hs' /\ RepL K H Hs' vs ds (fun _ => 0) := by
 obtain ⟨a, vs, e, r, n⟩ := h
 refine ⟨a, vs, e, ?_, r.frame g fun b hb => absurd hb (by simp)⟩
 rcases hk with rfl | rfl
 . rcases n with n | n
   . exact .inl (.inl (.inl (g _ _ n)))
   . exact .inr ⟨n.1, Nat.le_trans n.2 (l a)⟩
 . rcases n with n | n
   . exact .inl (g.seq n)
   . exact n.1.elim
section
variable {X : Cx} {es : List Expr} {k1 : Nat} {l r : Expr} {ca cb : M Op} {p pos q : Pos}
theorem Zn1 (σ : St) (H : Hp) (R : It -> Hp -> Prop) (h : tI X.K .zip (ca.bnd fun p => (cb.bnd fun p => (M.ret ([] : List Op)).bnd fun ps => M.ret (p :: ps)).bnd fun ps => M.ret (p :: ps)) σ H R) : iZip X.K (ZdS (tP X.K ca) (ZdS (tP X.K cb) tNil)) σ H R := by
 obtain ⟨δ, Hs, M, h, items, δ', g, s, e, ei, z⟩ := h
 obtain ⟨ps, δ1, e1, e2⟩ := Zb e
 obtain ⟨p1, δ2, e3, e4⟩ := Zb e1
 obtain ⟨qs, δ3, e5, e6⟩ := Zb e4
 obtain ⟨p2, δ4, e7, e8⟩ := Zb e5
 obtain ⟨y0, δ5, e9, e10⟩ := Zb e8
 have := Ze e9
 cases this
 have := Ze e10
 cases this
 have := Ze e6
 cases this
 obtain ⟨w1, δ6, e11, e12⟩ := Zb e2
 obtain ⟨ws, δ7, e13, e14⟩ := Zb e12
 obtain ⟨w2, δ8, e15, e16⟩ := Zb e13
 obtain ⟨y1, δ9, e17, e18⟩ := Zb e16
 have := Ze e17
 cases this
 have := Ze e18
 cases this
 have := Ze e14
 cases this
 obtain ⟨w1, h1⟩ := w1
 obtain ⟨w2, h2⟩ := w2
 refine ⟨δ, Hs, M, p1, δ2, g, s, e3, fun x H1 Hs1 m1 M1 g1 st1 r1 s1 => ⟨δ2, Hs1, M1, p2, _, g1.re, s1, e7, fun y H2 Hs2 m2 M2 g2 st2 r2 s2 => ?_⟩⟩
 obtain ⟨G2, S2, k2⟩ := Zm g g1 st1 g2 st2
 have r1' := RepP.frame st2.grow k2 r1
 obtain ⟨Hs3, B3, M3, g3, st3, s3, hh3, hw3⟩ := Zbw (m := m1) (M := M2) (G2.re fun b => by (try dsimp only); omega) s2 r1' e11
 have G2' : Good H2 Hs2 (fun b => m2 b + (m1 b + M2 b)) := G2.re fun b => by (try dsimp only); omega
 have S2' : Stp H Hs M H2 Hs2 (fun b => m2 b + (m1 b + M2 b)) := S2.drop (fun b => by (try dsimp only); omega) G2.le
 obtain ⟨G3, S3, k3⟩ := Zm (m1 := m2) g G2' S2' g3 st3
 have r2' : RepP X.K H2 Hs3 σ y p2 m2 := RepP.frame st3.grow k3 r2
 obtain ⟨Hs4, B4, M4, g4, st4, s4, hh4, hw4⟩ := Zbw (m := m2) (M := M3) (G3.re fun b => by (try dsimp only); omega) s3 r2' e15
 have G3' : Good H2 Hs3 (fun b => B3 b + (m2 b + M3 b)) := G3.re fun b => by (try dsimp only); omega
 have S3' : Stp H Hs M H2 Hs3 (fun b => B3 b + (m2 b + M3 b)) := S3.drop (fun b => by (try dsimp only); omega) G3.le
 obtain ⟨G4, S4, k4⟩ := Zm (m1 := B3) g G3' S3' g4 st4
 cases w1 with
 | sc u => cases ei
 | nd k ds =>
  cases w2 with
  | sc u => cases ei
  | nd k' ds' =>
   have hkk : ((k = .lst \/ k = .frl) /\ (k' = .lst \/ k' = .frl)) /\ items = zipD ds ds' := by
    simp only [itW, zipI] at ei
    split at ei
    . rename_i hk; cases ei; exact ⟨hk, rfl⟩
    . cases ei
   obtain ⟨⟨hk, hk'⟩, rfl⟩ := hkk
   obtain ⟨a, vs, rfl, sa, ra⟩ := HW.nd_stays (B' := fun b => B3 b + B4 b) hk st4.grow (fun b => by omega) hw3
   obtain ⟨b, us, rfl, sb, rb⟩ := HW.nd_stays (B' := fun b => B3 b + B4 b) hk' (Same.refl _) (fun b => by omega) hw4
   have gg : Good H2 Hs4 (fun b => (fun b => B3 b + B4 b) b + M4 b) := G4.re fun b => by (try dsimp only); omega
   have hh := Held.app (hh3.frame st4.grow fun b _ _ => rfl) hh4
   exact ⟨a, b, rfl, ⟨vs, sa.sq gg.sub⟩, ⟨us, sb.sq gg.sub⟩, z _ _ H2 Hs4 (fun b => B3 b + B4 b) M4 gg (S4.drop (fun b => by (try dsimp only); omega) G4.le) s4 (by simpa using hh) Zj1 ⟨⟨sa, sb⟩, ra, rb⟩⟩
theorem Zn2 (hg : Gl X "zip") (hm : X.mg "zip" = none) (hl : PE X l (tP X.K ca)) (hr : PE X r (tP X.K cb)) (hs : starEach [l, r] X.env = [(false, eval l X.env), (false, eval r X.env)] := by rfl) (hs2 : starEach [r] X.env = [(false, eval r X.env)] := by rfl) :
 PI X (.Tuple es k1 q) (.Call (.Name "zip" p) [l, r] [] pos) (tI X.K .zip (ca.bnd fun p => (cb.bnd fun p => (M.ret ([] : List Op)).bnd fun ps => M.ret (p :: ps)).bnd fun ps => M.ret (p :: ps))) :=
 PI.imp (Zms hg hm (Zam hl (Zam hr Zbd (by rw [hs2]; rfl)) (by rw [hs, hs2])) hs hs2) fun σ H R h => Zn1 σ H R h
end
end T
namespace T
open PySem PySem.Spec L2
def spX (K : Fg) (F : List D -> Rs (D × List D)) : Sp := fun vs H Q E => ∃ (ds : List D) (Hs : Hp) (m : Bud), Good H Hs m /\ RepL K H Hs vs ds m /\ match F ds with
 | .ok (d, ds') => ∀ (v : V) (H' Hs' : Hp) (m1 m' : Bud), Good H' Hs' (fun b => m1 b + m' b) -> Stp H Hs m H' Hs' (fun b => m1 b + m' b) -> Rep K H' Hs' v d m1 -> RepL K H' Hs' vs ds' m' -> Q v H'
 | .exc x ds' => ∀ (ea : Addr) (H' Hs' : Hp) (m1 m' : Bud), Good H' Hs' (fun b => m1 b + m' b) -> Stp H Hs m H' Hs' (fun b => m1 b + m' b) -> Rep K H' Hs' (.ref ea) x m1 -> RepL K H' Hs' vs ds' m' -> E (.ref ea) none H'
 | .stuck => False
structure FnAtX (P : Program) (w : World) (K : Fg) (mg : Str -> Option Value) (base : Heap) (x : Str) (k : Nat) (ps : List Str) (sp : Sp) : Prop where
 ex : ∃ (f : Addr) (fd : FuncData), FnOk P w K mg base (CXx P w) k f fd ps sp /\ mg x = some (.ref f) /\ PySem.W.keepIn K (.ref f) = true /\ Binds K fd ps []
end T
namespace L2
open PySem PySem.Spec PyProof.Rows
noncomputable def Itw (lo c : Int) (n : Nat) : It := ⟨fun i _ => i < n, fun i H x H' => H' = H /\ x = .int (lo + i * c), fun i _ => n <= i⟩
theorem Zgm {P : Program} {w : World} {K : Fg} {tg : Expr} (it : Addr) (lo c : Int) (n : Nat) : Turn P w K tg (Itw lo c n) [it] it (fun i h => IsRangeIter h it (lo + (i : Nat) * c) ((n : Int) - (i : Nat)) c) where
 mem := by simp
 obj := fun i h st b hb => by
  have e : b = it := by simpa using hb
  subst e
  exact ⟨_, st, fun v z => by
   have z' : Data.fields _ = Data.cell v := z
   cases z'⟩
 keep := fun i h h' st k => k it (by simp) _ st
 item := by
  intro X hP hw hK hc i pins s σ H E I hf st hg
  subst hP hw hK
  obtain ⟨f0, f1, f2, f3, f4, f5⟩ := hf it (by simp)
  have W := Walks.range (prog := X.prog) (w := X.w) (I.ok.hd hc) it lo c n
  refine W.item i s _ _ hg st fun v h' tk hv st' kk => ?_
  obtain ⟨t, rfl⟩ := hv
  have I1 : Inv X pins σ H { s with heap := h', toks := tk } := I.turned (fun b o hb e => kk b o (by simpa using hb) e) f0 f1 f3 f4 f5
  exact ⟨_, rfl, ZdQ (s := { s with heap := h', toks := tk }) (n := "range_iterator") st' rfl rfl (by decide) ⟨.int (lo + i * c), H, I1, ⟨t, rfl⟩, ⟨rfl, rfl⟩, st', fun b hb => (hf b hb).1⟩⟩
 done := by
  intro X hP hw hK hc i pins s σ H E I hf st hg
  subst hP hw hK
  obtain ⟨f0, f1, f2, f3, f4, f5⟩ := hf it (by simp)
  exact wpAny_pyNext_range_end (I.ok.hd hc) st (by have : n <= i := hg; omega) fun h' eb => ⟨rfl, I.turned (t' := s.toks) (fun b o hb e => eb b o hb e) f0 f1 f3 f4 f5⟩
 self := fun _ _ _ _ _ st h => wpAny_pyIter_rangeiter st h
section
variable {X : Cx} {tg : Expr}
theorem ZgG {a b c : Int} (hc : c ≠ 0) (h1 : -(2 ^ 62) <= a) (h2 : a < 2 ^ 62) (h3 : -(2 ^ 62) <= b) (h4 : b < 2 ^ 62) : 0 <= Builtin.Range.rangeSize a b c /\ Builtin.Range.rangeSize a b c < 2 ^ 63 := by
 (unfold Builtin.Range.rangeSize)
 split
 . split
   . have := Int.ediv_nonneg (a := b - a - 1) (b := c) (by omega) (by omega)
     have := Int.ediv_le_self (a := b - a - 1) c (by omega)
     omega
   . omega
 . split
   . have := Int.ediv_nonneg (a := a - b - 1) (b := -c) (by omega) (by omega)
     have := Int.ediv_le_self (a := a - b - 1) (-c) (by omega)
     omega
   . omega
theorem Zi4 {a b c : Int} (hc : c ≠ 0) (hc1 : -1000000 <= c) (hc2 : c <= 1000000) (h1 : -(2 ^ 62) <= a) (h2 : a < 2 ^ 62) (h3 : -(2 ^ 62) <= b) (h4 : b < 2 ^ 62) : Builtin.Range.small a b c = true := by
 obtain ⟨q1, q2⟩ := ZgG hc h1 h2 h3 h4
 unfold Builtin.Range.small
 simp only [Builtin.Range.rangeFitsLong, Bool.and_eq_true, Bool.or_eq_true, decide_eq_true_eq, beq_iff_eq]
 refine ⟨⟨⟨⟨by omega, by omega⟩, by omega⟩, by omega⟩, .inr ?_⟩
 split <;> (simp only [Bool.and_eq_true, decide_eq_true_eq]; omega)
theorem Zi5 {pins : List (Addr × Obj)} {σ : St} {H : Hp} {s : Shared} {R : It -> Hp -> Prop} {E : Value -> Shared -> Prop} {lo hi c : Int} {t u v : Tok} {tk : Nat} (I : Inv X pins σ H s) (hc : c ≠ 0) (hc1 : -1000000 <= c) (hc2 : c <= 1000000) (h1 : -(2 ^ 62) <= lo) (h2 : lo < 2 ^ 62) (h3 : -(2 ^ 62) <= hi) (h4 : hi < 2 ^ 62)
 (q : R (Itw lo c (Builtin.Range.rangeSize lo hi c).toNat) H) : wpAny (model X.prog X.w) X.A (pyIter (.ref s.heap.objs.size)) (PIE X pins σ tg R) E { s with heap := s.heap.push { cls := .type "range", data := .fields #[.int lo t, .int hi u, .int c v] }, toks := tk } := by
 refine wpAny_pyIter_range (IsRange.new ..) (Zi4 hc hc1 hc2 h1 h2 h3 h4) ?_
 have I1 : Inv X pins σ H { s with heap := s.heap.push { cls := .type "range", data := .fields #[.int lo t, .int hi u, .int c v] }, toks := tk } := I.kept fun b o e => Heap.get?_push_of_some _ e
 refine ⟨(s.heap.push { cls := .type "range", data := .fields #[.int lo t, .int hi u, .int c v] }).objs.size, [(s.heap.push { cls := .type "range", data := .fields #[.int lo t, .int hi u, .int c v] }).objs.size], _, _, H, rfl,
  I1.kept (t' := tk) fun b o e => Heap.get?_push_of_some _ e, Zgm _ lo c (Builtin.Range.rangeSize lo hi c).toNat, ?_, fun b hb => ?_, q⟩
 . have e1 : lo + ((0 : Nat) : Int) * c = lo := by simp
   have e2 : (((Builtin.Range.rangeSize lo hi c).toNat : Nat) : Int) - ((0 : Nat) : Int) = Builtin.Range.rangeSize lo hi c := by
    have := (ZgG hc h1 h2 h3 h4).1
    omega
   show IsRangeIter _ _ (lo + ((0 : Nat) : Int) * c) ((((Builtin.Range.rangeSize lo hi c).toNat : Nat) : Int) - ((0 : Nat) : Int)) c
   rw [e1, e2]
   exact Heap.get?_push_size _ rfl
 . have e : b = (s.heap.push { cls := .type "range", data := .fields #[.int lo t, .int hi u, .int c v] }).objs.size := by simpa using hb
   subst e
   exact I1.fpOk (Nat.le_refl _) (I1.hok.fresh (Nat.le_refl _))
noncomputable def Zqh (ta : TA) : TI := fun σ H R => ta σ H fun vs H1 => ∃ i j c : Int, vs = [.int i, .int j, .int c] /\ (-(2 ^ 62) <= i /\ i < 2 ^ 62 /\ -(2 ^ 62) <= j /\ j < 2 ^ 62) /\ (c ≠ 0 /\ -1000000 <= c /\ c <= 1000000) /\ R (Itw i c (Builtin.Range.rangeSize i j c).toNat) H1
theorem Zi6 {a b c : Expr} {ta : TA} {p pos : Pos} (hg : Gl X "range") (hm : X.mg "range" = none) (ha : PA X [a, b, c] ta) (hs : starEach [a, b, c] X.env = [(false, eval a X.env), (false, eval b X.env), (false, eval c X.env)] := by rfl) (hs2 : starEach [b, c] X.env = [(false, eval b X.env), (false, eval c X.env)] := by rfl) :
 PI X tg (.Call (.Name "range" p) [a, b, c] [] pos) (Zqh ta) := by
 intro pins s σ H R I h
 refine Call_ (ZaQ I hg hm boot_range (PyProof.Rows.callWith_type1 (thn (ha pos pins s σ H _ I h) fun us s1 z0 => ?_) (by rw [hs, hs2]) (by rw [hs2]; rfl)))
 obtain ⟨vs, H1, I1, r1, q1⟩ := z0
 obtain ⟨i, j, k, e, ⟨q1, q2, q3, q4⟩, ⟨c1, c2, c3⟩, q⟩ := q1
 subst e
 cases r1 with
 | cons r rr =>
  cases rr with
  | cons r' rr =>
   cases rr with
   | cons r'' rr =>
    cases rr
    obtain ⟨t, rfl⟩ := r
    obtain ⟨t', rfl⟩ := r'
    obtain ⟨t'', rfl⟩ := r''
    refine call_range_3 c1 (Zi5 I1 c1 c2 c3 q1 q2 q3 q4 q) (Or.inl (PyProof.noPylong_of_log2 ?_))
    by_cases h0 : k.natAbs = 0
    . rw [h0]; decide +kernel
    . have : k.natAbs.log2 < 64 := (Nat.log2_lt h0).mpr (by omega)
      omega
end
end L2
namespace T
open PySem PySem.Spec L2
theorem Zgn (lo c : Int) (n : Nat) (B : Bud) : WalkV (Itw lo c n) (((List.range n).map fun (k : Nat) => lo + k * c).map V.int) B (fun _ _ => True) where
 stay := fun _ _ _ => trivial
 go := fun {H Hs i v} _ _ h => by
  have := (List.getElem?_eq_some_iff.mp h).1
  simp only [List.length_map, List.length_range] at this
  exact this
 yld := fun {H Hs H' i x v} _ _ h y => by
  obtain ⟨e, y⟩ := y
  have := (List.getElem?_eq_some_iff.mp h).1
  simp only [List.length_map, List.length_range] at this
  rw [List.getElem?_map, List.getElem?_map, List.getElem?_range this] at h
  simp only [Option.map_some, Option.some.injEq] at h
  exact ⟨e, y.trans h⟩
 stop := fun {H Hs i} _ _ h => by
  simp only [List.length_map, List.length_range] at h
  exact h
theorem Zlo {K : Fg} {H Hs : Hp} {σ : St} {δ δ' : List D} {m M : Bud} {p : Op} {x v : V} {h : Option (Nat × D)} (s : RepS K H Hs σ δ M) (r : RepP K H Hs σ x p m) (e : Zaq p δ = .ok ((.sc v, h), δ')) : h = none /\ δ' = δ /\ x = v := by
 cases p with
 | tmp d =>
  cases d with
  | sc u => cases e; cases r; exact ⟨rfl, rfl, rfl⟩
  | hole => cases e
  | node k o ds => cases e
 | late i =>
  have r : σ[i]? = some (some x) := r
  unfold Zaq at e
  dsimp only at e
  split at e
  . rename_i u hi
    cases e
    obtain ⟨v', m1, m2, e1, q, l, f⟩ := s.slot hi (by simp)
    rw [r] at e1
    cases e1
    cases q
    exact ⟨rfl, rfl, rfl⟩
  . cases e
  . cases e
  . cases e
theorem ZfH {K : Fg} {H Hs : Hp} {σ : St} : ∀ {ps : List Op} {xs : List V} {vs : List V} {δ δ' : List D} {m M : Bud} {h : List (Nat × D)}, RepS K H Hs σ δ M -> ZaW K H Hs σ xs ps m -> Z0 ps δ = .ok ((vs.map W.sc, h), δ') -> h = [] /\ δ' = δ /\ xs = vs
 | [], xs, vs, δ, δ', m, M, h, s, r, e => by
  have := Ze e
  cases xs with
  | nil => cases vs with
   | nil => cases this; exact ⟨rfl, rfl, rfl⟩
   | cons => cases this
  | cons => exact r.elim
 | p :: ps, xs, vs, δ, δ', m, M, h, s, r, e => by
  obtain ⟨w, δ1, e1, e⟩ := Zb e
  obtain ⟨ws, δ2, e2, e⟩ := Zb e
  have e3 := Ze e
  cases xs with
  | nil => exact r.elim
  | cons x xs =>
   obtain ⟨m1, m2, r1, r2, l⟩ := r
   cases vs with
   | nil => cases e3
   | cons v vs =>
    obtain ⟨w1, w2⟩ := w
    obtain ⟨ws1, ws2⟩ := ws
    simp only [Prod.mk.injEq, List.map_cons, List.cons.injEq] at e3
    obtain ⟨⟨⟨ea, eb⟩, ec⟩, ed⟩ := e3
    subst ea
    obtain ⟨ha, hb, hx⟩ := Zlo s r1 e1
    subst ha hb hx
    subst eb
    obtain ⟨hc, hd, hy⟩ := ZfH s r2 e2
    subst hc hy ec
    exact ⟨rfl, ed.trans hd, rfl⟩
section
variable {X : Cx} {tg a b c e o : Expr} {es : List Expr} {p pos pos' apos cpos : Pos} {cs : M (List Op)} {i j : Nat}
theorem Zlp (hg : Gl X "range") (hm : X.mg "range" = none) (ha : PA X [a, b, c] (tPs X.K cs)) (hs : starEach [a, b, c] X.env = [(false, eval a X.env), (false, eval b X.env), (false, eval c X.env)] := by rfl) (hs2 : starEach [b, c] X.env = [(false, eval b X.env), (false, eval c X.env)] := by rfl) :
 PI X tg (.Call (.Name "range" p) [a, b, c] [] pos) (tI X.K .rng3 cs) := PI.imp (Zi6 hg hm ha hs hs2) fun σ H R h => by
 obtain ⟨δ, Hs, M, h, items, δ', g, s, e, ei, q⟩ := h
 obtain ⟨ps, δ1, e1, e2⟩ := Zb e
 refine ⟨δ, Hs, M, ps, δ1, g, s, e1, fun vs H1 Hs1 m1 M1 g1 st1 r1 s1 => ?_⟩
 obtain ⟨ws, hh⟩ := h
 replace ei : Zhs ws = _ := ei
 unfold Zhs at ei
 split at ei
 . rename_i lo hi k
   split at ei
   . rename_i hok
     cases ei
     simp only [okR, Bool.and_eq_true, decide_eq_true_eq] at hok
     obtain ⟨rfl, rfl, rfl⟩ := ZfH (vs := [.int lo, .int hi, .int k]) s1 r1 e2
     refine ⟨lo, hi, k, rfl, ⟨hok.1.1.1, hok.1.1.2, hok.1.2.1, hok.1.2.2⟩, ⟨hok.2.1.1, hok.2.1.2, hok.2.2⟩, ?_⟩
     exact q _ _ H1 Hs1 (fun _ => 0) M1 (g1.re fun b => by omega) (st1.drop (fun b => by omega) g1.le) s1 trivial (Zgn lo k _ _).w ⟨trivial, ZcG _⟩
   . cases ei
 . cases ei
theorem Zi7 {K : Fg} {H Hs Hs' : Hp} (g : Same Hs Hs') : ∀ {σ : St} {δ : List D} {M : Bud}, (∀ b, M b ≥ 1 -> H b ≠ none -> Hs' b = H b) -> RepS K H Hs σ δ M -> RepS K H Hs' σ (shrL δ) (fun _ => 0)
 | _, _, _, _, .nil _ => .nil _
 | _, _, M, k, .cons x y l => by
  refine .cons (m1 := fun _ => 0) (m2 := fun _ => 0) ?_ (Zi7 g (fun b hb => k b (by have := l b; omega)) y) fun b => by simp
  rcases x with rfl | ⟨v, e, r⟩
  . exact .inl rfl
  . exact .inr ⟨v, e, Rep.share g (fun b hb => k b (by have := l b; omega)) r⟩
termination_by structural a => a
theorem lent {K : Fg} {H Hs : Hp} {σ : St} {δ : List D} {M : Bud} (g : Good H Hs M) (s : RepS K H Hs σ δ M) :
 Good H (shH H Hs M) (fun _ => 0) /\ RepS K H (shH H Hs M) σ (shrL δ) (fun _ => 0) /\ ∀ (H' Hs' : Hp) (M' : Bud), Good H' Hs' M' -> Stp H (shH H Hs M) (fun _ => 0) H' Hs' M' -> Good H' Hs M /\ Stp H Hs M H' Hs M /\ RepS K H' Hs σ δ M := by
 have g2 : Good H Hs (fun b => M b + 0) := g
 refine ⟨g2.share, Zi7 (ZaY g fun b => Nat.le_refl _) Zc3 s, fun H' Hs' M' g' st => ?_⟩
 have kp : ∀ b, H b ≠ none -> H' b = H b := fun b hb => by
  cases q : H b with
  | none => exact absurd q hb
  | some o => exact st.keep b o q rfl
 refine ⟨⟨fun b o e => ?_, g.le, g.ne, fun b h => ?_⟩, ⟨fun b o e _ => st.keep b o e rfl, fun b h => .inl h, Same.refl _, fun b h h' => absurd h h', st.stay⟩, s.frame (Same.refl _) fun b _ hb => kp b hb⟩
 . exact st.keep b o (g.sub b o e) rfl
 . exact st.stay b (g.has b h)
theorem Zqi {K : Fg} {ca : M D} {σ : St} {H : Hp} {Q : VK} (h : tM K (borV ca) σ H Q) : tM K ca σ H Q := by
 obtain ⟨δ, Hs, M, d, δ', g, s, e, q⟩ := h
 obtain ⟨G, S, back⟩ := lent g s
 unfold borV at e
 split at e
 . rename_i v δ1 e1
   cases e
   refine ⟨_, _, _, _, _, G, S, e1, fun v' H' Hs' m M' g' st r s' => ?_⟩
   cases r
   obtain ⟨G', S', R'⟩ := back H' Hs' _ (g'.re fun b => Nat.le_refl _) st
   exact q _ H' Hs (fun _ => 0) M (Zax G') (S'.drop (fun b => by simp) G'.le) (.sc _ _) R'
 . cases e
theorem Zej {ca : M D} (ha : PE X a (tM X.K ca)) : PE X a (tM X.K (borV ca)) := PE.imp ha fun _ _ _ h => Zqi h
end
end T
namespace T
open PySem PySem.Spec L2
theorem Zqj {K : Fg} {H Hs : Hp} {σ : St} {B M : Bud} {δ : List D} {i j : Nat} {ds es : List D} (g : Good H Hs (fun b => B b + M b)) (s : RepS K H Hs σ δ M) (hi : δ[i]? = some (.node .lst true ds)) (hj : ds[j]? = some (.node .lst true es)) :
 ∃ (p0 p : Addr) (us vs : List V) (m' m2 : Bud), σ[i]? = some (some (.ref p0)) /\ H p0 = some (.lst us) /\ us.length = ds.length /\ us[j]? = some (.ref p) /\ H p = some (.lst vs) /\ RepL K H Hs vs es m' /\ (∀ b, one p b + m' b + m2 b <= M b) /\
  ∀ (vs' : List V) (es' : List D) (n' : Bud), (∀ b, n' b <= m' b + B b) -> RepL K H Hs vs' es' n' ->
   Good (upd H p (.lst vs')) Hs (fun b => one p b + n' b + m2 b) /\ Stp H Hs (fun b => B b + M b) (upd H p (.lst vs')) Hs (fun b => one p b + n' b + m2 b) /\
   RepS K (upd H p (.lst vs')) Hs σ (δ.set i (.node .lst true (ds.set j (.node .lst true es')))) (fun b => one p b + n' b + m2 b) := by
 obtain ⟨v, m1, m2, e1, q, l, f⟩ := s.slot hi (by simp)
 cases q with
 | @own p0 _ us _ _ m0 n0 r0 l0 =>
  obtain ⟨a, n1, n2, ea, ra, ln, fr⟩ := r0.sep.focus hj
  cases ra with
  | @own p _ vs _ _ m' n r l1 =>
   have le : ∀ b, one p b + m' b + (one p0 b + n2 b + m2 b) <= M b := fun b => by have := l b; have := l0 b; have := ln b; have := l1 b; omega
   refine ⟨p0, p, us, vs, m', fun b => one p0 b + n2 b + m2 b, e1, n0, r0.len, ea, n, r, le, fun vs' es' n' h1 hr => ?_⟩
   have one_p : one p p = 1 := by simp [one]
   have one_0 : one p0 p0 = 1 := by simp [one]
   have tot : ∀ b, one p b + n' b + (one p0 b + n2 b + m2 b) <= B b + M b := fun b => by have := le b; have := h1 b; omega
   have zp : m' p = 0 /\ B p = 0 /\ m2 p = 0 /\ n2 p = 0 /\ one p0 p = 0 := by
    have := le p
    have := g.le p
    try dsimp only at this
    omega
   have zp2 : n' p = 0 := by have := h1 p; omega
   have hne : p0 ≠ p := fun q => by subst q; omega
   have Hp : H p ≠ none := by rw [show H p = _ from n]; simp
   have eqH : ∀ b, b ≠ p -> upd H p (.lst vs') b = H b := fun b hb => Zn hb
   have hs2 : Hs p = none := g.ne p (by have := le p; have := g.le p; (try dsimp only at this ⊢); omega)
   refine ⟨⟨fun b o e => ?_, fun b => ?_, fun b h => ?_, fun b h => ?_⟩, ⟨fun b o e z => ?_, fun b h => ?_, Same.refl _, fun b h h' => absurd h h', fun b h => ?_⟩, ?_⟩
   . have hb : b ≠ p := fun q => by subst q; rw [hs2] at e; cases e
     rw [eqH b hb]
     exact g.sub b o e
   . have := g.le b
     have := tot b
     (try dsimp only at *)
     omega
   . have := g.le b
     have := tot b
     exact g.ne b (by (try dsimp only at *); omega)
   . by_cases hb : b = p
     . subst hb; rw [Zk]; simp
     . rw [eqH b hb]
       have := g.le b
       have := tot b
       exact g.has b (by (try dsimp only at *); omega)
   . have hb : b ≠ p := fun q => by
      subst q
      have := le b
      have := g.le b
      (try dsimp only at *)
      omega
     rw [eqH b hb]
     exact e
   . have := g.le b
     have := tot b
     left
     (try dsimp only at *)
     omega
   . by_cases hb : b = p
     . subst hb; rw [Zk]; simp
     . rw [eqH b hb]; exact h
   . have r' : RepL K (upd H p (.lst vs')) Hs vs' es' n' := hr.frame (Same.refl _) fun b hb hn' => eqH b fun q => by subst q; omega
     have z1 := fr (Rep K (upd H p (.lst vs')) Hs) (.ref p) (.node .lst true es') (fun b => one p b + n' b) (fun a d m'' l' q => q.frame (Same.refl _) fun b hb hn' => eqH b fun q => by subst q; have := l' b; omega) (.own (show upd H p (.lst vs') p = _ from Zk) r' fun b => Nat.le_refl _)
     rw [ZB ea] at z1
     have z := f (upd H p (.lst vs')) Hs (some (.ref p0)) (.node .lst true (ds.set j (.node .lst true es'))) (fun b => one p0 b + (one p b + n' b + n2 b)) (Same.refl _) (fun b hb hn' => eqH b fun q => by subst q; omega) (.inr ⟨_, rfl, .own (show upd H p (.lst vs') p0 = _ by rw [eqH p0 hne]; exact n0) z1.repL fun b => Nat.le_refl _⟩)
     rw [ZB e1] at z
     exact z.mono fun b => by (try dsimp only); omega
theorem Zj2 {i : Nat} {n : Int} {f : Kd -> List D -> Option (D × Kd × List D)} {δ δ' : List D} {d : D} (h : Zb4 i n f δ = .ok (d, δ')) : ∃ ds j es k' es', δ[i]? = some (.node .lst true ds) /\ ixN' ds.length n = some j /\ ds[j]? = some (.node .lst true es) /\ f .lst es = some (d, k', es') /\ δ' = δ.set i (.node .lst true (ds.set j (.node k' true es'))) := by
 unfold Zb4 at h
 split at h
 . rename_i ds hi
   split at h
   . rename_i j hj
     split at h
     . rename_i es he
       split at h
       . rename_i r k' es' hf
         cases h
         exact ⟨ds, j, es, k', es', hi, hj, he, hf, rfl⟩
       . cases h
     . cases h
   . cases h
 . cases h
theorem Zn3 {n j : Nat} {i : Int} (h : ixN' n i = some j) : j < n := by
 unfold ixN' at h
 split at h
 . split at h
   . cases h; omega
   . cases h
 . split at h
   . cases h; omega
   . cases h
section
variable {X : Cx} {o k k2 e : Expr} {pos pos' pos1 apos cpos : Pos} {i : Nat} {n m : Int} {v : V} {lk : Nat -> Bool}
theorem Zlq {c : M D} (ho : PE X o (tVar i)) (hk : PE X k (tC (.int n))) (hk2 : PE X k2 (tC (.int m))) (he : PE X e (tM X.K c)) (hpl : Zev k := by intro _ _; rfl)
 (ha : ∀ v, assign (.Subscript (.Subscript o k pos1) k2 pos') X.env v = (do
  let ov <- holding [v] (eval (.Subscript o k pos1) X.env)
  let iv <- holding [v, ov] (eval k2 X.env)
  standAt pos'
  holding [v, ov, iv] (setItem ov iv v)
  release [v, ov, iv] []) := by intro _; rfl)
 (hs : swapsWithSole [.Subscript (.Subscript o k pos1) k2 pos'] e pos.line X.env = pure false := by rfl) (hw : swappedStores [.Subscript (.Subscript o k pos1) k2 pos'] e X.env = pure none := by rfl)
 (h1 : (assignEach [.Subscript (.Subscript o k pos1) k2 pos'] X.env).map (·.2) = [assign (.Subscript (.Subscript o k pos1) k2 pos') X.env] := by rfl) :
 PS X (.Assign [.Subscript (.Subscript o k pos1) k2 pos'] e pos) (tS X.K lk (subK i n c (.k (.int m)))) :=
 PS.imp (Zfl he (ZhF (ZjY Zew ho hk hpl) hk2 Zfo ha) hs hw h1) fun E σ H h => by
 obtain ⟨δ, Hs, M, f, δ', g, s, ea, q⟩ := h
 obtain ⟨d, δ1, e1, eb⟩ := Zb (show (c.bnd fun d => (Zb4 i n (setD (.sc (.int m)) d)).bnd fun _ => T.M.ret .nx) δ = .ok (f, δ') from ea)
 obtain ⟨r0, δ2, e2, ec⟩ := Zb eb
 have := Ze ec
 cases this
 obtain ⟨ds, j, es, k', es', hi, hj, hd, hf, rfl⟩ := Zj2 e2
 refine ⟨δ, Hs, M, d, δ1, g, s, e1, fun v H1 Hs1 m1 M1 g1 st1 r1 s1 => ?_⟩
 obtain ⟨p0, p, us, vs, m', m2, ei, n0, hl, eu, n1, rl, le, fin⟩ := Zqj g1 s1 hi hd
 unfold setD at hf
 simp only [Option.map_eq_some_iff] at hf
 obtain ⟨jj, hjj, hf⟩ := hf
 cases hf
 have hlt := Zn3 hjj
 obtain ⟨G, S, R⟩ := fin (vs.set jj v) (es.set jj d) (fun b => m' b + m1 b) (fun b => Nat.le_refl _) (rl.set (List.getElem?_eq_getElem hlt) r1)
 have z := Zm (m1 := fun _ => 0) g (g1.re fun b => by simp) (st1.drop (fun b => by simp) g1.le) G S
 exact ⟨_, ei, p0, us, n, .ref p, rfl, rfl, .inl (.inl n0), by unfold atI; rw [hl, <- Zit, hj]; exact eu, p, vs, m, jj, rfl, rfl, n1, by rw [rl.len]; exact hjj, q σ _ Hs1 _ (Keeps.refl _ _) G (z.2.1.drop (fun b => by simp) z.1.le) R⟩
end
end T
namespace T
open PySem PySem.Spec L2 PyProof.Rows
section
variable {X : Cx} {e k v : Expr} {pos : Pos}
structure ModT (K : Fg) (mg : Str -> Option Value) (x : Str) (vs : List V) : Prop where
 ex : ∃ a, mg x = some (.ref a) /\ ∃ (o : Obj) (its : Array Value) (n : Nat), K.lookup a = some o /\ o.cls = .type "tuple" /\ o.data = .seq its n /\ its.size <= sizeLine /\ Vals vs its.toList
theorem Zlr {x : Str} {vs : List V} {p : Pos} (hg : Gl X x) (h : ModT X.K X.mg x vs) (hd : (x == ("__debug__" : Str)) = false) : PE X (.Name x p) (tM X.K (M.ret (.node .ftp false (vs.map D.sc)))) := by
 obtain ⟨a, h, z⟩ := h.ex
 exact ZoP (Zgv (v := .ref a) hg h rfl hd) fun H Hs m => .shd (vs := vs) (.inr z) (Ze2 vs)
noncomputable def unV : Value -> Option V
 | .int i _ => some (.int i)
 | .none => some .non
 | _ => none
theorem ZgH : ∀ {vs : List V} {its : List Value}, its.map unV = vs.map some -> Vals vs its
 | [], [], _ => .nil
 | [], _ :: _, h => by simp at h
 | _ :: _, [], h => by simp at h
 | v :: vs, u :: its, h => by
  (simp only [List.map_cons, List.cons.injEq] at h)
  refine .cons ?_ (ZgH h.2)
  cases u <;> simp [unV] at h
  . rw [<- h.1]; exact rfl
  . rw [<- h.1]; exact ⟨_, rfl⟩
theorem Zj3 {K : Fg} {h : Heap} {mg : Str -> Option Value} {x : Str} {a : Addr} {vs : List V} {dct : Option Addr} {its : Array Value} {n : Nat} {sl : Array (Option Value)} (X : K.In h) (G : h.Ns mainGlobals mg) (hx : PySem.W.nsIn K mainGlobals x = some (some (.ref a))) (hl : K.lookup a = some ⟨.type "tuple", dct, .seq its n, sl⟩) (hs : its.size <= sizeLine) (hi : its.toList.map unV = vs.map some) : ModT K mg x vs :=
 ⟨a, PySem.W.mg_of X G hx, _, its, n, hl, rfl, rfl, hs, ZgH hi⟩
end
theorem us0 {P : List Value -> Prop} (h : P []) (us : List Value) (e : us.length = 0) : P us := by
 cases us with
 | nil => exact h
 | cons _ _ => cases e
theorem usS {P : List Value -> Prop} {n : Nat} (h : ∀ a, ∀ us : List Value, us.length = n -> P (a :: us)) (us : List Value) (e : us.length = n + 1) : P us := by
 cases us with
 | nil => cases e
 | cons a us => exact h a us (Nat.succ.inj e)
theorem us1 {P : List Value -> Prop} (h : ∀ a, P [a]) : ∀ us : List Value, us.length = 1 -> P us := usS fun a => us0 (h a)
theorem us2 {P : List Value -> Prop} (h : ∀ a b, P [a, b]) : ∀ us : List Value, us.length = 2 -> P us := usS fun a => us1 (h a)
theorem us3 {P : List Value -> Prop} (h : ∀ a b c, P [a, b, c]) : ∀ us : List Value, us.length = 3 -> P us := usS fun a => us2 (h a)
theorem us4 {P : List Value -> Prop} (h : ∀ a b c d, P [a, b, c, d]) : ∀ us : List Value, us.length = 4 -> P us := usS fun a => us3 (h a)
theorem us5 {P : List Value -> Prop} (h : ∀ a b c d e, P [a, b, c, d, e]) : ∀ us : List Value, us.length = 5 -> P us := usS fun a => us4 (h a)
theorem us6 {P : List Value -> Prop} (h : ∀ a b c d e f, P [a, b, c, d, e, f]) : ∀ us : List Value, us.length = 6 -> P us := usS fun a => us5 (h a)
theorem Zj4 {X : Cx} {body : List Stmt} {lk : Nat -> Bool} {C : T.Ctx} : PSs X body (tS X.K lk (exs C [.raise (.k .non)])) := fun pins s σ H E I z0 => by obtain ⟨δ, Hs, M, f, δ', g, _, e, q⟩ := z0; cases e
end T
namespace T
open PySem PySem.Spec L2 PyProof.Rows
noncomputable def nmOk (X : Cx) (i : Nat) (x : Str) : Bool := Zt X.env.scope X.N i x false || Zt X.env.scope X.N i x true || Zfz X.env.scope X.N i x
noncomputable def tgOk (X : Cx) (i : Nat) (x : Str) : Bool := (Zt X.env.scope X.N i x false || Zt X.env.scope X.N i x true && X.fn x) && decide X.N.Nodup
abbrev glX (X : Cx) (x : Str) : Prop := glOk X.env.scope x = true
section
variable {X : Cx} {x : Str} {i : Nat} {pos : Pos}
theorem qv (h : nmOk X i x = true := by kernel_rfl) : PE X (.Name x pos) (tVar i) := by
 unfold nmOk at h
 simp only [Bool.or_eq_true] at h
 rcases h with (h | h) | h
 . exact pvs h
 . exact pvs h
 . exact pvf h
theorem ql (h : nmOk X i x = true := by kernel_rfl) : PE X (.Name x pos) (tP X.K (ZT i)) := Zg3 (qv h)
theorem qq (h : tgOk X i x = true) : ∃ b, Zt X.env.scope X.N i x b = true /\ X.N.Nodup /\ (X.fn x = true \/ b = false) := by
 unfold tgOk at h
 simp only [Bool.or_eq_true, Bool.and_eq_true, decide_eq_true_eq] at h
 rcases h with ⟨h | ⟨h, hf⟩, n⟩
 . exact ⟨_, h, n, .inr rfl⟩
 . exact ⟨_, h, n, .inl hf⟩
theorem qa {e : Expr} {c : M D} {lk : Nat -> Bool} {pos' : Pos} (he : PE X e (tM X.K c)) (h : tgOk X i x = true := by kernel_rfl) (hs : swapsWith e (some (.Name x pos')) pos.line X.env = pure false := by rfl) : PS X (.Assign [.Name x pos'] e pos) (tS X.K lk (c.bnd fun d => (asgN lk i d).bnd fun _ => M.ret .nx)) := by
 obtain ⟨b, h, n, f⟩ := qq h
 exact Zlb h n he hs (hf := f)
theorem qg {es : List Expr} {is : List Nat} (hr : PGs X es (gNs is)) (h : tgOk X i x = true := by kernel_rfl) (hs : (assignEach (.Name x pos :: es) X.env).map (·.2) = assign (.Name x pos) X.env :: (assignEach es X.env).map (·.2) := by rfl) : PGs X (.Name x pos :: es) (gNs (i :: is)) := by
 obtain ⟨b, h, n, f⟩ := qq h
 exact ZoN h n hr rfl rfl f hs
theorem qt (h : tgOk X i x = true := by kernel_rfl) : PG X (.Name x pos) (gT X.K (.name i)) := by
 obtain ⟨b, h, n, f⟩ := qq h
 exact ZoO h n rfl rfl f
theorem cS {k : Nat} {js : List Nat} {scope : Scope} (N' : List Str) (h : Zfv X.env.scope X.N k js N' scope = true := by kernel_rfl) : CompScope X k js N' scope := .of h rfl rfl
theorem qs {lk : Nat -> Bool} {k : Nat} {js : List Nat} {N' : List Str} {scope : Scope} {tg elt iter : Expr} {ifs : List Expr} {ik : IK} {cs : M (List Op)} {tgt : Tg} {cc : M Bool} {celt : M D} {pos' spos : Pos} (S : CompScope X k js N' scope) (hi : PI X tg iter (tI X.K ik cs))
 (hin : ∀ (cl : List (Str × Addr)) (C : Addr) (s₀ : Shared) (H₀ : Hp) (ex : List Addr), PG (cxC X N' scope cl C s₀ H₀ ex) tg (gT X.K tgt) /\ PIf (cxC X N' scope cl C s₀ H₀ ex) ifs (tT X.K cc) /\ PE (cxC X N' scope cl C s₀ H₀ ex) elt (tM X.K celt))
 (h : (Zt X.env.scope X.N i x false && decide X.N.Nodup && Zda X.env.scope scope x) = true := by kernel_rfl) (hc : X.calm = true := by rfl) (hl : (pos'.line == pos.line) = true := by rfl) (hs : ∀ x, foldedSetIterable iter X.env x = pure x := by intro _; rfl) :
 PS X (.Assign [.Name x pos'] (.ListComp elt [⟨tg, iter, ifs, 0⟩] scope pos) spos) (tS X.K lk ((cs.bnd fun ps => (Z0 ps).bnd fun h => (lift (itW ik h.1)).bnd fun items => (ZW k js (Z9 (asgT (fun i => decide (k <= i)) tgt) cc celt items [])).bnd fun d => (Zar h.2).bnd fun _ => M.ret d).bnd fun d => (asgN lk i d).bnd fun _ => M.ret .nx)) := by
 simp only [Bool.and_eq_true, decide_eq_true_eq] at h
 exact Zla h.1.1 h.1.2 h.2 hc S hi hin hl rfl rfl hs
end
section
variable {X : Cx} {e a b l r o k ke : Expr} {es : List Expr} {p pos p2 pos2 : Pos} {x : Str} {j n : Nat} {ps : List Str} {fi : FI} {cs : M (List Op)} {ca cb : M Op} {A : Addr} {f : BF} {id ty : String} {tg : Expr}
theorem qf (G : FnAt X.prog X.w X.K X.mg X.base x j ps (spF X.K fi.run)) (hr : Room n X.A) (ha : PA X (e :: es) (tPs X.K cs)) (h : glX X x := by kernel_rfl) (hj : j <= n := by decide)
 (he : starEach (e :: es) X.env = (false, eval e X.env) :: starEach es X.env := by rfl) (hpl : (backTo pos (starEach es X.env)).any (·.1) = false := by rfl) :
 PE X (.Call (.Name x p) (e :: es) [] pos) (tM X.K (cs.bnd fun ps => ZaL fi ps)) := ZoM G hr ha hj (glk h) (dbk h) he hpl
theorem qn (G : MkAt X.prog X.w X.K X.mg X.base x A j ps (spF X.K fi.run)) (hr : Room n X.A) (ha : PA X (e :: es) (tPs X.K cs)) (h : glX X x := by kernel_rfl) (hj : j + 1 <= n := by decide)
 (he : starEach (e :: es) X.env = (false, eval e X.env) :: starEach es X.env := by rfl) (hpl : (backTo pos (starEach es X.env)).any (·.1) = false := by rfl) :
 PE X (.Call (.Name x p) (e :: es) [] pos) (tM X.K (cs.bnd fun ps => newF A fi ps)) := ZmD G hr ha hj (glk h) (dbk h) he hpl
theorem qB (hc : ZD X (.builtin id) (rNW X.K (bfW f))) (hm : X.mg x = none) (hv : bootBuiltins x = some (.builtin id)) (ha : PA X (e :: es) (tPs X.K cs)) (h : glX X x := by kernel_rfl)
 (he : starEach (e :: es) X.env = (false, eval e X.env) :: starEach es X.env := by rfl) (hpl : (backTo pos (starEach es X.env)).any (·.1) = false := by rfl) :
 PE X (.Call (.Name x p) (e :: es) [] pos) (tM X.K (cs.bnd fun ps => (views ps).bnd fun ws => lift (bfW f ws))) := Zmz hc (glk h) hm hv ha (nmk h) (dbk h) he hpl
theorem qT (hc : ZD X (.type ty) (rNW X.K (bfW f))) (hm : X.mg x = none) (hv : bootBuiltins x = some (.type ty)) (ha : PA X (e :: es) (tPs X.K cs)) (h : glX X x := by kernel_rfl)
 (he : starEach (e :: es) X.env = (false, eval e X.env) :: starEach es X.env := by rfl) (hpl : (backTo pos (starEach es X.env)).any (·.1) = false := by rfl) :
 PE X (.Call (.Name x p) (e :: es) [] pos) (tM X.K (cs.bnd fun ps => (views ps).bnd fun ws => lift (bfW f ws))) := Zm0 hc (glk h) hm hv ha (nmk h) (dbk h) he hpl
theorem qi {t : Ty} {n : String} (hm : X.mg "isinstance" = none) (ha : PE X a (tP X.K ca)) (hm2 : X.mg (Str.ofString n) = none) (hv : bootBuiltins (Str.ofString n) = some (.type n)) (h : glX X "isinstance" := by kernel_rfl) (h2 : glX X (Str.ofString n) := by kernel_rfl) (hn : tyS t = some n := by rfl)
 (hs : starEach [a, .Name (Str.ofString n) p2] X.env = [(false, eval a X.env), (false, eval (.Name (Str.ofString n) p2) X.env)] := by rfl) (hs1 : starEach [.Name (Str.ofString n) p2] X.env = [(false, eval (.Name (Str.ofString n) p2) X.env)] := by rfl) :
 PE X (.Call (.Name "isinstance" p) [a, .Name (Str.ofString n) p2] [] pos) (tM X.K ((ca.bnd fun p => (M.ret ([] : List Op)).bnd fun ps => M.ret (p :: ps)).bnd fun ps => (views ps).bnd fun ws => lift (bfW (.isi t) ws))) :=
 Zm4 hn (glk h) hm ha (Zku (glk h2) hm2 hv rfl (nmk h2) (dbk h2)) hs hs1
theorem qr1 (hm : X.mg "range" = none) (ha : PE X a (tP X.K ca)) (h : glX X "range" := by kernel_rfl) (hs : starEach [a] X.env = [(false, eval a X.env)] := by rfl) :
 PI X tg (.Call (.Name "range" p) [a] [] pos) (tI X.K .rng1 (ca.bnd fun p => (M.ret ([] : List Op)).bnd fun ps => M.ret (p :: ps))) := ZkX (glk h) hm ha hs
theorem qr2 (hm : X.mg "range" = none) (ha : PE X a (tP X.K ca)) (hb : PE X b (tP X.K cb)) (h : glX X "range" := by kernel_rfl) (hs : starEach [a, b] X.env = [(false, eval a X.env), (false, eval b X.env)] := by rfl) (hs2 : starEach [b] X.env = [(false, eval b X.env)] := by rfl) :
 PI X tg (.Call (.Name "range" p) [a, b] [] pos) (tI X.K .rng2 (ca.bnd fun p => (cb.bnd fun p => (M.ret ([] : List Op)).bnd fun ps => M.ret (p :: ps)).bnd fun ps => M.ret (p :: ps))) := ZkY (glk h) hm ha hb hs hs2
theorem qb {op : Operator} (ha : PE X a (tP X.K ca)) (hb : PE X b (tP X.K cb)) :
 PE X (.BinOp a op b pos) (tM X.K (ca.bnd fun p => cb.bnd fun q => (view p).bnd fun x => (view q).bnd fun y => lift (binW op x y))) := Zmv (Zmw _) ha hb
theorem qgi {i : Int} (h : ∃ t, X.mg x = some (.int i t)) (g : glX X x := by kernel_rfl) : PE X (.Name x p) (tM X.K (M.ret (.sc (.int i)))) := Zqd (glk g) h (dbk g)
theorem qgu {vs : List V} (h : ModT X.K X.mg x vs) (g : glX X x := by kernel_rfl) : PE X (.Name x p) (tM X.K (M.ret (.node .ftp false (vs.map D.sc)))) := Zlr (glk g) h (dbk g)
theorem g_ (h : glX X x := by kernel_rfl) : Gl X x := glk h
end
structure En where
 P : Program
 w : World
 K : Fg
 mg : Str -> Option Value
 base : Heap
abbrev En.fn (e : En) (x : Str) (k : Nat) (ps : List Str) (f : FI) : Prop := FnAt e.P e.w e.K e.mg e.base x k ps (spF e.K f.run)
abbrev En.me (e : En) (C : Addr) (x : Str) (k : Nat) (ps : List Str) (f : FI) : Prop := MeAt e.P e.w e.K e.mg e.base C x k ps (spF e.K f.run)
abbrev En.nw (e : En) (x : Str) (C : Addr) (k : Nat) (ps : List Str) (f : FI) : Prop := MkAt e.P e.w e.K e.mg e.base x C k ps (spF e.K f.run)
noncomputable def scOk (N P : List Str) (sc : Scope) : Bool := sc.kind == .function && !sc.isCoroutine && !sc.isGenerator && decide N.Nodup && N.take P.length == P && P.all (fun x => sc.names.lookup x == some .local || sc.names.lookup x == some .cell) && sc.names.all (fun y => y.2 != .free)
theorem Zfh {N P : List Str} {sc : Scope} (h : scOk N P sc = true) : FnScope N P sc := by
 unfold scOk at h
 simp only [Bool.and_eq_true, decide_eq_true_eq, List.all_eq_true, Bool.or_eq_true, beq_iff_eq, bne_iff_ne, Bool.not_eq_true'] at h
 obtain ⟨⟨⟨⟨⟨⟨h1, h2⟩, h3⟩, h4⟩, h5⟩, h6⟩, h7⟩ := h
 exact ⟨h1, h2, h3, h4, h5, h6, h7⟩
def NI (K : Fg) (x : Str) : Prop := PySem.W.nsIn K mainGlobals x = some none
def TI (K : Fg) (x : Str) (st : Stmt) : Prop := ∃ f fd, PySem.W.nsIn K mainGlobals x = some (some (.ref f)) /\ Fun K x x st f fd
def MI (K : Fg) (C : Addr) (x q : Str) (st : Stmt) : Prop := ∃ f fd, PySem.W.findIn K (.ref C) x = some (some (.ref f)) /\ PySem.W.isFn K (.ref f) = true /\ Fun K x q st f fd
structure CI (K : Fg) (x : Str) (C : Addr) : Prop where
 at_ : PySem.W.nsIn K mainGlobals x = some (some (.ref C))
 pg : PySem.W.plainGet K C Str.empty = true
 hd : PySem.W.hasDictIn K C = true
 po : PySem.W.plainOver K C = true
 sa : PySem.W.findIn K (.ref C) "__setattr__" = some (some (.builtin "object.__setattr__"))
 mk_ : PySem.W.makesIn K C = true
 kp : PySem.W.keepIn K (.ref C) = true
section
variable {K : Fg} {x q : Str} {st : Stmt} {f C : Addr} {oc : Value} {od an : Option Addr} {osl : Array (Option Value)} {kV doc pm cdv ct : Value}
theorem Zqk (h : PySem.W.nsIn K mainGlobals x = some (some (.ref f))) (l : K.lookup f = some ⟨oc, od, .func (PySem.W.fnOf x x (Zbv st) (Zaz st) (Zu st) .none kV doc pm an cdv ct), osl⟩) (c : PySem.W.codeIn K cdv x = true) (k : PySem.W.keepIn K (.ref f) = true) : TI K x st := ⟨f, _, h, Zif l c k⟩
theorem Zql (h : PySem.W.findIn K (.ref C) x = some (some (.ref f))) (y : PySem.W.isFn K (.ref f) = true) (l : K.lookup f = some ⟨oc, od, .func (PySem.W.fnOf x q (Zbv st) (Zaz st) (Zu st) .none kV doc pm an cdv ct), osl⟩) (c : PySem.W.codeIn K cdv q = true) (k : PySem.W.keepIn K (.ref f) = true) : MI K C x q st := ⟨f, _, h, y, Zif l c k⟩
end
theorem CI.cl {K : Fg} {x : Str} {C : Addr} (c : CI K x C) : Cls K C := ⟨c.pg, c.hd, c.po, c.sa⟩
def Bo (e : En) : Prop := ∃ h, e.K.In h /\ h.Ns mainGlobals e.mg
section
variable {e : En} {x q : Str} {st : Stmt} {N ps : List Str} {k n nN : Nat} {C : Ctx} {body : List S} {A : Addr}
abbrev us_ (st : Stmt) (x q : Str) (ps : List Str) : Prop := ∀ (kV doc pm : Value) (an : Option Addr) (cdv ct : Value) (us : List Value), us.length = ps.length -> bindArgs (PySem.W.fnOf x q (Zbv st) (Zaz st) (Zu st) .none kV doc pm an cdv ct) ⟨us, []⟩ = pure (ps.zip us)
abbrev bd_ (e : En) (N : List Str) (q : Str) (st : Stmt) (k n : Nat) (C : Ctx) (body : List S) : Prop := ∀ (f : Addr) (cdv : Value) (A : Around) (outer : List Env) (s : Shared) (H : Hp) (E : XK), Room k (A.deeper (envOfC q (Zu st) s.heap.objs.size f cdv)) ->
 PSs (cxOf CX0 e.P e.w e.K e.mg e.base N q (Zu st) f cdv A outer s H E).nox (Zaz st) (tS e.K (fun i => decide (i < n)) (exs { C with lock := fun i => decide (i < n) } body))
theorem Zac (Y : Bo e) (F : TI e.K x st) (N : List Str) (hb : bd_ e N x st k n C body) (hs : scOk N ps (Zu st) = true := by kernel_rfl) (hn : ps.length = n := by rfl) (hN : N.length = nN := by rfl)
 (us : us_ st x x ps := by intro _ _ _ _ _ _; first | exact us1 fun _ => rfl | exact us2 fun _ _ => rfl | exact us3 fun _ _ _ => rfl | exact us4 fun _ _ _ _ => rfl | exact us5 fun _ _ _ _ _ => rfl | exact us6 fun _ _ _ _ _ _ => rfl) :
 FnAt e.P e.w e.K e.mg e.base x (k + 1) ps (spF e.K (Zi C n nN body)) := by
 obtain ⟨f, fd, h1, F⟩ := F
 obtain ⟨h, X, G⟩ := Y
 exact ⟨f, fd, Zdu F (Zfh hs) hn hN fun cdv A o s H E => hb f cdv A o s H E, PySem.W.mg_of X G h1, F.kp, F.binds us⟩
theorem Zcq (cl : Cls e.K A) (F : MI e.K A x q st) (N : List Str) (hb : bd_ e N q st k n C body) (hs : scOk N ps (Zu st) = true := by kernel_rfl) (hn : ps.length = n := by rfl) (hN : N.length = nN := by rfl)
 (us : us_ st x q ps := by intro _ _ _ _ _ _; first | exact us1 fun _ => rfl | exact us2 fun _ _ => rfl | exact us3 fun _ _ _ => rfl | exact us4 fun _ _ _ _ => rfl | exact us5 fun _ _ _ _ _ => rfl | exact us6 fun _ _ _ _ _ _ => rfl) :
 MeAt e.P e.w e.K e.mg e.base A x (k + 1) ps (spF e.K (Zi C n nN body)) := by
 obtain ⟨f, fd, h1, y, F⟩ := F
 exact ⟨⟨f, fd, Zdu F (Zfh hs) hn hN fun cdv A o s H E => hb f cdv A o s H E, ⟨h1, y, F.kp⟩, F.binds us⟩, cl⟩
theorem Zqm (Y : Bo e) (c : CI e.K x A) (F : MI e.K A "__init__" q st) (N : List Str) (hb : bd_ e N q st k n C body) (hs : scOk N ps (Zu st) = true := by kernel_rfl) (hn : ps.length = n := by rfl) (hN : N.length = nN := by rfl)
 (us : us_ st "__init__" q ps := by intro _ _ _ _ _ _; first | exact us1 fun _ => rfl | exact us2 fun _ _ => rfl | exact us3 fun _ _ _ => rfl | exact us4 fun _ _ _ _ => rfl | exact us5 fun _ _ _ _ _ => rfl | exact us6 fun _ _ _ _ _ _ => rfl) :
 MkAt e.P e.w e.K e.mg e.base x A (k + 1) ps (spF e.K (Zi C n nN body)) := by
 obtain ⟨f, fd, h1, y, F⟩ := F
 obtain ⟨h, X, G⟩ := Y
 exact ⟨f, fd, Zdu F (Zfh hs) hn hN fun cdv A o s H E => hb f cdv A o s H E, ⟨c.mk_, h1, y, c.kp⟩, PySem.W.mg_of X G c.at_, F.binds us⟩
theorem Zn4 {f : Addr} {fd : FuncData} (F : Fun e.K x x st f fd) (N : List Str) (hb : bd_ e N x st k n C body) (hs : scOk N ps (Zu st) = true := by kernel_rfl) (hn : ps.length = n := by rfl) (hN : N.length = nN := by rfl) :
 FnOk e.P e.w e.K e.mg e.base CX0 (k + 1) f fd ps (spF e.K (Zi C n nN body)) := Zdu F (Zfh hs) hn hN fun cdv A o s H E => hb f cdv A o s H E
end
end T
namespace T
open PySem PySem.Spec L2 PyProof.Rows
def L0 (K : Fg) (mg : Str -> Option Value) (cn : Str) : Prop := ∃ D', mg cn = some (.ref D') /\ XN K [cn, "LabelError"] D' /\ PySem.W.findIn K (.ref D') (Str.ofString "__init__") = some (some (.builtin "ValueError.__init__"))
section
variable {X : Cx} {e a : Expr} {es : List Expr} {p p2 pos pos' np hp : Pos} {x cn : Str} {i j n : Nat} {ps ns : List Str} {fi : FI} {ca : M Op} {lk : Nat -> Bool} {c : M D} {body suite : List Stmt} {b₀ : Stmt} {C : Ctx} {es' : List E}
structure XMd (P : Program) (w : World) (K : Fg) (mg : Str -> Option Value) (base : Heap) (x : Str) (ns : List Str) (k : Nat) (ps : List Str) (sp : Sp) : Prop where
 ex : ∃ (C f : Addr) (fd : FuncData), XN K ns C /\ PySem.W.findIn K (.ref C) (Str.ofString "__init__") = some (some (.ref f)) /\ PySem.W.typeIn K (.ref f) = some (.type "function") /\ FnOk P w K mg base CX0 k f fd ps sp /\ mg x = some (.ref C) /\ Binds K fd ps [.none]
end
section
variable {e : En} {x q : Str} {st : Stmt} {N ps : List Str} {k n nN : Nat} {C : Ctx} {body : List S} {A L : Addr}
abbrev En.fx (e : En) (x : Str) (k : Nat) (ps : List Str) (f : FI) : Prop := FnAtX e.P e.w e.K e.mg e.base x k ps (spX e.K f.run)
abbrev En.xd (e : En) (x : Str) (k : Nat) (ps : List Str) (f : FI) : Prop := XMd e.P e.w e.K e.mg e.base x [x, "LabelError"] k ps (spF e.K f.run)
end
end T
namespace L2
open PySem PySem.Spec PyProof.Rows
section
variable {prog : Program} {w : World} {K : Type} [DecidableEq K] {knd : KeyKind prog w K} {A : Around} {E : Value -> Shared -> Prop} {s : Shared}
theorem Zhz {d : Addr} {kz : List (K × Value)} {k : K} {key v : Value} {Q : Value -> Shared -> Prop} (hq0 : knd.is k key = true) (hm : s.heap.DictOf knd d kz)
 (h1 : ∀ x, valueAt kz k = some x -> Q x { s with toks := s.toks + 1 })
 (h2 : valueAt kz k = none -> ∀ h', h'.DictOf knd d (stored kz k v) -> Heap.SameBut d s.heap h' -> Q v { s with heap := h', toks := s.toks + 1 })
 (hsz : kz.length <= sizeLine) : wpAny (model prog w) A (dictSetDefault d key v) Q E s := by
 (obtain ⟨o, es, ep, ho, hc, hd, hk, hp, hn⟩ := hm)
 have hes : es.size <= sizeLine := by
  have e1 := hp.length
  have e2 : es.toList.length = es.size := by simp
  omega
 unfold dictSetDefault
 try with_reducible refine wpAny_holding ?_
 refine wpAny_bind (knd.pyHash hq0 ?_)
 refine wpAny_bind (wpAny_dictFind_of (s := { s with toks := s.toks + 1 }) hq0 ho hd hk ?_)
 have hix : (es.findIdx? fun e => knd.is k e.key) = kz.findIdx? fun kv => decide (kv.1 = k) := by
  rw [<- hp.findIdx k]
  obtain ⟨l⟩ := es
  simp
 cases hi : (es.findIdx? fun e => knd.is k e.key) with
 | some i =>
  have hl : (es.toList.findIdx? fun e => knd.is k e.key) = some i := by
   rw [<- hi]
   obtain ⟨l⟩ := es
   simp
  (obtain ⟨e, he, hek, hev⟩ := hp.at hl)
  (refine wpAny_bind (wpAny_dictEntries (s := { s with toks := s.toks + 1 }) ho hd ?_))
  have he' : es[i]? = some e := by
   rw [<- he]
   obtain ⟨l⟩ := es
   simp
  rw [he']
  exact wpAny_bind (wpAny_rule (wpAny_pure (h1 e.val hev)))
 | none =>
  have hnot : k ∉ kz.map (·.1) := not_mem_of_findIdx_none (hix ▸ hi)
  have hay : ¬ (kz.any fun kv => decide (kv.1 = k)) = true := by
   rw [List.any_eq_true]
   rintro ⟨kv, hkv, he⟩
   (exact hnot (List.mem_map.mpr ⟨kv, hkv, of_decide_eq_true he⟩))
  have hv : valueAt kz k = none := by
   unfold valueAt
   rw [List.find?_eq_none.mpr fun kv hkv e => hay (List.any_eq_true.mpr ⟨kv, hkv, by simpa using e⟩)]
   rfl
  refine wpAny_bind (wpAny_rule (wpAny_bind (wpAny_updateDictKeys (hz := hes) (s := { s with toks := s.toks + 1 }) ho hd (wpAny_pure (h2 hv _ ⟨_, _, ep + 1, Heap.get?_update_self _ ho (Obj.isFreed_of_dict (Obj.data_mapDictKeys hd _)),
   hc.mapDictKeys _, Obj.data_mapDictKeys hd _, hk.push hq0 _, ?_, ?_⟩ (Heap.SameBut.update ..))))))
  . rw [stored, if_neg hay]
    have := hp.append hq0 (knd.hash k) v
    obtain ⟨l⟩ := es
    simpa using this
  . rw [stored, if_neg hay, List.map_append, List.nodup_append]
    refine ⟨hn, by simp, ?_⟩
    intro a ha b hb
    (simp only [List.map_cons, List.map_nil, List.mem_singleton] at hb)
    subst hb
    exact fun e => hnot (e ▸ ha)
end
section
variable {prog : Program} {w : World} {K : Type} [DecidableEq K] {k : K} {key : Value} (knd : KeyKind prog w K) (d : Addr)
theorem Zh0 (hq0 : knd.is k key = true) (hd : (d == sysModules) = false) (v : Value) :
 MeetsIn prog w (Builtin.«dict.setdefault» ⟨[.ref d, key, v], []⟩) (fun _ R s => ∃ kz, s.heap.DictOf knd d kz /\ kz.length <= sizeLine /\
  (∀ x, valueAt kz k = some x -> R (.ok (.ret x)) { s with toks := s.toks + 1 }) /\
  (valueAt kz k = none -> ∀ h', h'.DictOf knd d (stored kz k v) -> Heap.SameBut d s.heap h' -> R (.ok (.ret v)) { s with heap := h', toks := s.toks + 1 })) :=
 .of_wp fun A R s ⟨kz, hm, hz, h1, h2⟩ => by
  (unfold Builtin.«dict.setdefault»)
  refine wpAny_bind ?_
  (unfold Builtin.Dict.keyAndDefault)
  (refine wpAny_bind (wpAny_notOrdered_dict hm.typeIs ?_))
  show wpAny _ _ (pure (d, key, some v)) _ _ s
  refine wpAny_pure ?_
  show wpAny _ _ (if (d == sysModules) = true then _ else (dictSetDefault d key v >>= _)) _ _ s
  (rw [if_neg (by rw [hd]; exact Bool.false_ne_true)])
  exact wpAny_bind (Zhz hq0 hm (fun x hv => wpAny_pure ⟨x, rfl, h1 x hv⟩) (fun hn h' hm' hs' => wpAny_pure ⟨v, rfl, h2 hn h' hm' hs'⟩) hz)
end
def Zqn (td ty tx : TE) : TE := fun σ H Q => td σ H fun x H1 => ∃ a, x = .ref a /\ IsD H1 a /\ ty σ H1 fun y H2 => tx σ H2 fun z H3 => ∃ kvs k, H3 a = some (.dK kvs) /\ y = kV k /\
 (∀ v, valV kvs k = some v -> Q v H3) /\ (valV kvs k = none -> kvs.length < sizeLine /\ Q z (upd H3 a (.dK (putK kvs k z))))
section
variable {X : Cx} {o e f : Expr} {p apos cpos pos : Pos} {td ty tx : TE}
theorem Zls (ho : PE X o td) (he : PE X e ty) (hf : PE X f tx) (m : M2 X o "setdefault" apos e f cpos) : PE X (.Call (.Attribute o "setdefault" apos) [e, f] [] cpos) (Zqn td ty tx) := by
 intro pins s σ H Q I h
 refine wpAny_Call_method m.base m.few m.line PySem.F.plainAttrs_dict PySem.F.slot_dict_setdefault PySem.F.type_dict_setdefault (thn (ho pins s σ H _ I h) fun u s1 z0 => ?_)
 obtain ⟨x, H1, I1, rx, a, ex, d, q1⟩ := z0
 subst ex
 obtain rfl : u = Value.ref a := rx
 obtain ⟨t1, t2, _⟩ := Zic I1 d
 refine ⟨t1, t2, ?_⟩
 rw [m.trees]
 refine Calls.callWith_builtin rfl (Calls.evalArgs_plain (Calls.spliced_cons (thn (he pins s1 σ H1 _ I1 q1) fun iv s2 ⟨y, H2, I2, ry, q2⟩ =>
  Calls.spliced_cons (thn (hf pins s2 σ H2 _ I2 q2) fun fv s3 ⟨z, H3, I3, rz, kvs, k, ea, ey, q3, q4⟩ => Calls.spliced_nil ?_))))
 subst ey
 obtain ⟨hz, hd, vs, rel, dd⟩ := Zkb I3.hok ea
 refine call_meetsIn PySem.F.slot_dict_setdefault dd.typeIs PySem.F.entry_dict_setdefault (PySem.F.args_dict_setdefault_3 _ _ _) (Zh0 (ZC X.prog X.w) a (Zdp ry) hd fv) ⟨vs, dd, by rw [<- rel.length]; exact hz, fun x hx => ?_, fun hn h' dd' hs => ?_⟩
 . have := rel.val k
   rw [hx] at this
   cases l : valV kvs k with
   | none => rw [l] at this; exact this.elim
   | some v => rw [l] at this; exact ⟨v, H3, I3.tok _, this, q3 v l⟩
 . have := rel.val k
   rw [hn] at this
   cases l : valV kvs k with
   | some v => rw [l] at this; exact this.elim
   | none =>
    have hl2 : (putK kvs k z).length <= sizeLine := by have := Zcy kvs k z; have := (q4 l).1; omega
    have hh : ∃ q, h'.get? a = some q := let ⟨q, _, _, hq, _⟩ := dd'; ⟨q, hq⟩
    exact ⟨z, _, Zey I3 (by rw [ea]; exact True.intro) hs hh (Zia hl2 hd (rel.put k rz) dd'), rz, (q4 l).2⟩
def Zn5 (td : TE) : TE := fun σ H Q => td σ H fun x H1 => ∃ a kvs, x = .ref a /\ Rd H1 a (.dK kvs) /\ ∀ l, H1 l = none -> Q (.ref l) (upd H1 l (.lst (kvs.map (·.2))))
theorem Zlt {kvs : List (Key × V)} {vs : List (Key × Value)} (r : KV kvs vs) : Vals (kvs.map (·.2)) (vs.map (·.2)) := by
 induction r with
 | nil => exact .nil
 | cons a b ih => exact .cons a.2 ih
theorem Zj5 (hc : X.calm = true) (hg : Gl X "list") (hm : X.mg "list" = none) (ho : PE X o td)
 (hs : starEach [.Call (.Attribute o "values" apos) [] [] cpos] X.env = [(false, eval (.Call (.Attribute o "values" apos) [] [] cpos) X.env)] := by rfl)
 (hbase : attributeBase o "values" X.env (eval o X.env) = eval o X.env := by rfl) (hline : (apos.endLine == cpos.line) = true := by rfl) :
 PE X (.Call (.Name "list" p) [.Call (.Attribute o "values" apos) [] [] cpos] [] pos) (Zn5 td) := by
 intro pins s σ H Q I h
 refine Call_ (ZaQ I hg hm (by decide +kernel) (PyProof.Rows.callWith_type1 (T := "list") ?_ hs rfl))
 rw [hs]
 show wpAny _ _ (spliced [(false, eval (.Call (.Attribute o "values" apos) [] [] cpos) X.env)]) _ _ s
 refine Calls.spliced_cons ?_
 refine wpAny_Call_method0_late hbase hline (thn (ho pins s σ H _ I h) fun v s1 z0 => ?_)
 obtain ⟨x, H1, I1, r1, a, kvs, rfl, hr, q⟩ := z0
 obtain rfl : v = Value.ref a := r1
 obtain ⟨t1, t2, hd⟩ := Zic I1 (.inl ⟨kvs, hr⟩)
 refine ⟨"dict", _, PySem.F.plainAttrs_dict, PySem.F.slot_dict_values, PySem.F.type_dict_values, t1, t2, Calls.callWith_builtin rfl (PySem.evalArgs_none ?_)⟩
 obtain ⟨hz, hd, vs, rel, dd⟩ := Zcl I1.hok hr
 refine call_meetsIn PySem.F.slot_dict_values dd.typeIs PySem.F.entry_dict_values (PySem.F.args_dict_values_1 _) (meets_dict_values (ZC X.prog X.w) a hd) ⟨⟨vs, dd⟩, ?_⟩
 refine Calls.spliced_nil ?_
 have I2 : Inv X pins σ H1 { s1 with heap := s1.heap.push { cls := .type "dict_values", data := .fields #[.ref a] } } := I1.kept fun b o e => Heap.get?_push_of_some _ e
 obtain ⟨ep, dat⟩ := (dd.push { cls := .type "dict_values", data := .fields #[.ref a] }).dictAt
 refine PySem.W.kdl_call (PySem.W.kdl_values (knd := ZC X.prog X.w) (r := s1.heap.objs.size) (d := a) (kvs := vs) (ep := ep)) (I1.ok.hd hc) ⟨⟨_, Heap.get?_push_size _ rfl, rfl, rfl⟩, dat⟩ (by rw [<- rel.length]; exact hz) fun h' tk acc' c' hk hS hacc => ?_
 have ea : acc'.toList = vs.map (·.2) := PySem.W.kdl_vals_eq acc'.toList (by rw [Array.length_toList]; exact hacc.1) fun j v e => hacc.2 j v (by rw [<- Array.getElem?_toList]; exact e)
 have hf := I2.hok.fresh (Nat.le_refl _)
 refine ⟨.ref _, upd H1 _ (.lst _), I2.laid (t' := tk) hk (Nat.le_refl _) ⟨by rw [List.length_map]; exact hz, acc'.toList, c', ?_, by rw [Array.toArray_toList]; exact hS⟩, rfl, q _ hf⟩
 rw [ea]
 exact Zlt rel
end
end L2
namespace T
open PySem PySem.Spec L2
section
variable {K : Fg} {H Hs : Hp}
theorem Zlu {σ : St} {M : Bud} {δ δ' : List D} {u : Unit} {i : Nat} (g : Good H Hs M) (s : RepS K H Hs σ δ M) (h : chkD i δ = .ok (u, δ')) : δ' = δ /\ ∃ p, σ[i]? = some (some (.ref p)) /\ IsD H p := by
 unfold chkD at h
 split at h
 . rename_i kd oo ds hi
   split at h
   . cases h
     obtain ⟨v, m1, m2, e1, q, l, f⟩ := s.slot hi (by simp)
     refine ⟨rfl, ?_⟩
     cases q with
     | own n r _ => exact ⟨_, e1, .inl ⟨_, .inl n.2⟩⟩
     | shd n r => exact ⟨_, e1, .inl ⟨_, .inl (g.sub _ _ n.2)⟩⟩
   . cases h
 . cases h
theorem Rep.shd0 {v : V} {d : D} {m : Bud} (h : ZdX d = true) (r : Rep K H Hs v d m) : Rep K H Hs v d (fun _ => 0) := by
 cases r with
 | sc v m => exact .sc v _
 | hole v m => cases h
 | own n r l => cases h
 | shd n r => exact .shd n r
end
section
variable {X : Cx} {o e k : Expr} {p apos cpos pos : Pos} {i : Nat}
theorem Zlv {ck cv : M D} (ho : PE X o (tVar i)) (hk : PE X k (tM X.K ck)) (he : PE X e (tM X.K cv))
 (h1 : attributeBase o "setdefault" X.env (eval o X.env) = eval o X.env := by rfl)
 (h2 : ((backTo cpos (starEach [k, e] X.env)).all (fun x => !x.1) && (backToKw cpos (keywordEach [] X.env)).all (fun x => x.1.isSome)
  && decide (([k, e] : List Expr).length + ([] : List Keyword).length + (if ([] : List Keyword).isEmpty then 0 else 1) < 30)) = true := by rfl)
 (h3 : (apos.endLine == cpos.line) = true := by rfl) (h4 : backTo cpos (starEach [k, e] X.env) = [(false, eval k X.env), (false, eval e X.env)] := by rfl) :
 PE X (.Call (.Attribute o "setdefault" apos) [k, e] [] cpos) (tM X.K (Zfe i ck cv)) := PE.imp (Zls ho hk he ⟨h1, h2, h3, h4⟩) fun σ H Q h => by
 obtain ⟨δ, Hs, M, d, δ', g, s, ea, q⟩ := h
 obtain ⟨u, δ0, e0, eb⟩ := Zb ea
 obtain ⟨dk, δ1, e1, ec⟩ := Zb eb
 obtain ⟨dv, δ2, e2, ed⟩ := Zb ec
 obtain ⟨rfl, p0, h1, h2⟩ := Zlu g s e0
 refine ⟨_, h1, p0, rfl, h2, δ0, Hs, M, dk, δ1, g, s, e1, fun y H1 Hs1 m1 M1 g1 st1 r1 s1 => ?_⟩
 refine ⟨δ1, Hs1, M1, dv, δ2, g1.re, s1, e2, fun z H2 Hs2 m2 M2 g2 st2 r2 s2 => ?_⟩
 obtain ⟨G2, S2, k2⟩ := Zm g g1 st1 g2 st2
 have r1' := r1.frame st2.grow k2
 obtain ⟨kd, ds0, k', ds', hi, hf, rfl⟩ := Zc5 ed
 have G3 : Good H2 Hs2 (fun b => (m1 b + m2 b) + M2 b) := G2.re fun b => by (try dsimp only); omega
 have S3 : Stp H Hs M H2 Hs2 (fun b => (m1 b + m2 b) + M2 b) := S2.drop (fun b => by (try dsimp only); omega) G2.le
 obtain ⟨p1, us, m', n2, e8, n, rl, le, fin⟩ := modL (B := fun b => m1 b + m2 b) G3 s2 hi
 rw [h1] at e8
 cases e8
 unfold ZdY at hf
 split at hf
 . rename_i ks
   split at hf
   . rename_i v
     split at hf
     . rename_i kk hkk
       have hy := Zdw hkk
       subst hy
       cases r1'
       split at hf
       . rename_i x hx
         split at hf
         . rename_i hsh
           cases hf
           obtain ⟨z1, n1, a1, a2, a3⟩ := rl.look hx
           refine ⟨_, kk, n.2, rfl, fun v hv => ?_, fun hn => ?_⟩
           . rw [Zby, a1] at hv
             cases hv
             rw [ZB hi] at q
             exact q _ H2 Hs2 (fun _ => 0) M2 (G3.re fun b => by (try dsimp only); omega) (S3.drop (fun b => by (try dsimp only); omega) G3.le) (a2.shd0 hsh) s2
           . rw [Zby, a1] at hn
             cases hn
         . cases hf
       . rename_i hx
         split at hf
         . rename_i hsh
           simp only [Bool.and_eq_true, decide_eq_true_eq] at hsh
           simp only [Option.map_eq_some_iff] at hf
           obtain ⟨rr, hst, hf⟩ := hf
           cases hf
           have rz := r2.shd0 hsh.1
           obtain ⟨us', b1, b2, b3⟩ := RepL.stor rz n.1 rl hst
           have hl := rl.len
           refine ⟨_, kk, n.2, rfl, fun v hv => ?_, fun hn => ⟨by rw [List.length_zip, n.1]; omega, ?_⟩⟩
           . have := rl.lookS (k := kk) (ks := ks)
             rw [Zby] at hv
             rw [hv, hx] at this
             cases this
           . rw [b3]
             obtain ⟨G, S, R, SS⟩ := fin (.dK (rr.1.zip us')) (.dic rr.1) us' rr.2 m' (fun _ => 0) z d (fun b => by (try dsimp only); omega) ⟨b1, Zk⟩ (b2.mono fun b => by (try dsimp only); omega) rz
             have zz := Zm (m1 := fun _ => 0) g (G3.re fun b => by simp) (S3.drop (fun b => by simp) G3.le) G S
             exact q _ _ Hs2 _ _ G (zz.2.1.drop (fun b => by simp) zz.1.le) R SS
         . cases hf
     . cases hf
   . cases hf
 . cases hf
theorem ZfI {α : Type} : ∀ {ks : List Key} {us : List α}, ks.length = us.length -> (ks.zip us).map (·.2) = us
 | [], [], _ => rfl
 | _ :: _, _ :: _, h => by rw [List.zip_cons_cons, List.map_cons, ZfI (by simpa using h)]
 | [], _ :: _, h => by cases h
 | _ :: _, [], h => by cases h
theorem Zj6 (hc : X.calm = true) (hm : X.mg "list" = none) (ho : PE X o (tVar i)) (h : glX X "list" := by kernel_rfl)
 (hs : starEach [.Call (.Attribute o "values" apos) [] [] cpos] X.env = [(false, eval (.Call (.Attribute o "values" apos) [] [] cpos) X.env)] := by rfl)
 (hbase : attributeBase o "values" X.env (eval o X.env) = eval o X.env := by rfl) (hline : (apos.endLine == cpos.line) = true := by rfl) :
 PE X (.Call (.Name "list" p) [.Call (.Attribute o "values" apos) [] [] cpos] [] pos) (tM X.K (Zdr i)) := PE.imp (Zj5 hc (glk h) hm ho hs hbase hline) fun σ H Q h => by
 obtain ⟨δ, Hs, M, d, δ', g, s, ea, q⟩ := h
 obtain ⟨w, δ1, e1, eb⟩ := Zb ea
 obtain ⟨e2, rfl⟩ := ZL eb
 unfold Zht at e2
 split at e2
 . split at e2
   . cases e2
     have hv : ∃ v, σ[i]? = some (some v) := by
      unfold view at e1
      dsimp only at e1
      split at e1
      . cases e1
      . rename_i hi
        obtain ⟨v, m1, m2, e3, _⟩ := s.slot hi (by simp)
        exact ⟨v, e3⟩
      . rename_i hi
        obtain ⟨v, m1, m2, e3, _⟩ := s.slot hi (by simp)
        exact ⟨v, e3⟩
      . cases e1
     obtain ⟨v, hv⟩ := hv
     refine ⟨v, hv, ?_⟩
     obtain ⟨Hs3, M3, g3, st3, v3, s3⟩ := Za1 (B := fun _ => 0) (m := fun _ => 0) (p := .late i) (v := v) (Zax g) s (show σ[i]? = _ from hv) e1
     have st : Stp H Hs M H Hs3 (fun b => 0 + M3 b) := ⟨fun b o h z => st3.keep b o h (by simpa using z), fun b h => by simpa using st3.own b h, st3.grow, fun b h h' => by simpa using st3.shr b h h', st3.stay⟩
     have oo := Zba st g3 s3 q
     cases v3 with
     | nd n r =>
      refine ⟨_, _, rfl, .inl n.2, fun l hl => ?_⟩
      rw [ZfI n.1]
      exact oo.new (fun b => by simp) (fun b hb => by simp at hb) hl (vs := _) Zk r
   . cases e2
 . cases e2
end
section
variable (C : Ctx) (i : Nat) (k v : E)
theorem Zn6 : (evb C (.sdef i k v)).1 = Zfe i (evb C k).1 (evb C v).1 := (rfl)
theorem Zn7 (c : M D) : Zj (.sdef i k v) c = c.bnd fun d => M.ret (.tmp d) := (rfl)
theorem Zlw : (evb C (.dvals i)).1 = Zdr i := (rfl)
theorem Zlx (c : M D) : Zj (.dvals i) c = c.bnd fun d => M.ret (.tmp d) := (rfl)
end
end T
namespace T
open PySem PySem.Spec L2
theorem Zh {X : Cx} {i : Int} {j} {pos : Pos} : PE X (.Constant (.int i) j pos) (tP X.K ((M.ret (.sc (.int i))).bnd fun d => M.ret (.tmp d))) := Za (ok_k Z4)
theorem Zq0 {X : Cx} {sc : Scope} {N} {i : Nat} {x : Str} {b : Bool} {pos : Pos} (h : Zt sc N i x b = true) (e1 : X.env.scope = sc := by rfl) (e2 : X.N = N := by rfl) : PE X (.Name x pos) (tP X.K (ZT i)) := Zg3 (pvs h e1 e2)
end T
namespace My
open PySem PySem.Spec L2 T
local macro_rules | `(tactic| walk_at "d") => `(tactic| decide +kernel)
section
seal L2.PE L2.PS L2.PSs L2.PT L2.PI L2.PA L2.PG L2.PGs L2.PX L2.PXs L2.PEx
noncomputable def top (i : Nat) : Stmt := PySem.Challenge.pw_barlabel_k51_whole_gathered.main.body.getD i (.Pass ⟨0, 0, 0, 0⟩)
noncomputable def Z6 (s : Stmt) (i : Nat) : Stmt := match s with
 | .ClassDef (body := b) .. => b.getD i (.Pass ⟨0, 0, 0, 0⟩)
 | _ => .Pass ⟨0, 0, 0, 0⟩
noncomputable def Cw : T.Ctx := { C0 with fuel := 1000 }
noncomputable def CK (C : Addr) : T.Ctx := { C0 with fok := fun A f => decide (A = C) && (f == "size" || f == "room") }
noncomputable def Zek (K : Fg) : Addr := match PySem.W.nsIn K mainGlobals "Roll" with
 | some (some (.ref C)) => C
 | _ => 0
structure Txt (e : T.En) (C : Addr) : Prop where
 Y : T.Bo e
 all_ : e.mg "all" = none
 any_ : e.mg "any" = none
 bool_ : e.mg "bool" = none
 enumerate_ : e.mg "enumerate" = none
 int_ : e.mg "int" = none
 isinstance_ : e.mg "isinstance" = none
 len_ : e.mg "len" = none
 list_ : e.mg "list" = none
 max_ : e.mg "max" = none
 range_ : e.mg "range" = none
 sum_ : e.mg "sum" = none
 zip_ : e.mg "zip" = none
 BESIDES_ : ∃ t, e.mg "BESIDES" = some (.int 5 t)
 CHECK_SYMBOLS_ : ∃ t, e.mg "CHECK_SYMBOLS" = some (.int 2 t)
 LENGTH_AT_ : ∃ t, e.mg "LENGTH_AT" = some (.int 2 t)
 PIECE_AT_ : ∃ t, e.mg "PIECE_AT" = some (.int 3 t)
 PRIMES_ : T.ModT e.K e.mg "PRIMES" (([5, 7, 11, 13, 17, 19, 23, 29, 31, 37, 41, 43, 47] : List Int).map V.int)
 ci : T.CI e.K "Roll" C
 nF_size : Zay e.K C "size"
 nF_room : Zay e.K C "room"
theorem Txt.fok {e : T.En} {C : Addr} (Z : Txt e C) : ∀ A f, (CK C).fok A f = true -> Cls e.K A /\ Zay e.K A f := fun A f h => by
 unfold CK at h
 simp only [Bool.and_eq_true, Bool.or_eq_true, decide_eq_true_eq, beq_iff_eq] at h
 obtain ⟨rfl, h⟩ := h
 rcases h with rfl | rfl
 . exact ⟨Z.ci.cl, Z.nF_size⟩
 . exact ⟨Z.ci.cl, Z.nF_room⟩
variable {e : T.En} {C : Addr}
noncomputable def Zb5 : List T.S := [.ret (.and (.bf (.isi .int) [.v 0]) (.nt (.bf (.isi .bool) [.v 0])))]
noncomputable def Za5 : T.FI := ⟨true, T.Zi C0 1 1 Zb5⟩
abbrev ZcL (e : T.En) : Prop := e.fn "is_whole" 1 ["thing"] Za5
theorem Zgo (F : T.TI e.K "is_whole" (top 10)) (Z : Txt e C)  : ZcL e :=
 T.Zac (C := C0) (body := Zb5) (k := 0) Z.Y F ["thing"] fun _ _ _ _ _ _ _ hr =>
 (Zc (Zp (Zbb (Za (qi Z.isinstance_ ql Z.int_ Zke)) (Zcb (Zg4 (Za (qi Z.isinstance_ ql Z.bool_ Zii))))))
  Zg)
noncomputable def Zbk : List T.S := [.ret (.and (.call Za5 [.v 1]) (.chain .LtE .Lt (.k (.int 0)) (.v 1) (.v 0)))]
noncomputable def ZG : T.FI := ⟨true, T.Zi C0 2 2 Zbk⟩
abbrev Zcz (e : T.En) : Prop := e.fn "is_symbol" 2 ["count", "thing"] ZG
theorem ZfJ (F : T.TI e.K "is_symbol" (top 11)) (Z : Txt e C) (g0 : ZcL e) : Zcz e :=
 T.Zac (C := C0) (body := Zbk) (k := 1) Z.Y F ["count", "thing"] fun _ _ _ _ _ _ _ hr =>
 have hu := hr.units
 (Zc (Zp (Zbb (Za (qf g0 hr (Zd ql Zf))) (Zcb (ZfA hu Zh ql ql))))
  Zg)
noncomputable def Za6 : List T.S := [.for_ (.tup [2, 3]) .enum [.v 1, .k (.int 0)] [.iff (.nt (.call ZG [.v 0, .v 3])) [.raise (.k .non)] []]]
noncomputable def ZY : T.FI := ⟨true, T.Zi C0 2 4 Za6⟩
abbrev Zbl (e : T.En) : Prop := e.fn "check_symbols" 3 ["count", "row"] ZY
theorem ZdK (F : T.TI e.K "check_symbols" (top 12)) (Z : Txt e C) (g1 : Zcz e) : Zbl e :=
 T.Zac (C := C0) (body := Za6) (k := 2) Z.Y F ["count", "row", "number", "thing"] fun _ _ _ _ _ _ _ hr =>
 (Zc (ZbC PassesOwn.never rfl (Zcp _ _) (hw_2 (Zdv rfl) (ZbD rfl)) (ZcK g_ Z.enumerate_ ql) (Zdz rfl (qg (qg ZcH)))
  (Zc (ZO (Za2 (Zas (Za (qf g1 hr (Zd ql (Zd ql Zf)))))) (Zc Za4
  Zg) Zg)
  Zg))
  Zg)
noncomputable def Zbm : List T.S := [.ret (.bin .Mod (.bf .sum [.v 1]) (.v 0))]
noncomputable def Zaw : T.FI := ⟨true, T.Zi C0 2 2 Zbm⟩
abbrev Zc0 (e : T.En) : Prop := e.fn "plain_sum" 1 ["prime", "row"] Zaw
theorem ZfK (F : T.TI e.K "plain_sum" (top 15)) (Z : Txt e C)  : Zc0 e :=
 T.Zac (C := C0) (body := Zbm) (k := 0) Z.Y F ["prime", "row"] fun _ _ _ _ _ _ _ hr =>
 (Zc (Zp (qb (Za (qB (Zed rfl) Z.sum_ Zeh (Zd ql Zf))) ql))
  Zg)
noncomputable def ZaN : List T.S := [.ret (.bin .Mod (.bf .sum [.comp 2 [] (.tup [0, 1]) .enum [.v 1, .k (.int 1)] [] (.bin .Mult (.v 0) (.v 1))]) (.v 0))]
noncomputable def Zap : T.FI := ⟨true, T.Zi C0 2 2 ZaN⟩
abbrev ZbI (e : T.En) : Prop := e.fn "weighed_sum" 1 ["prime", "row"] Zap
theorem Ze5 (F : T.TI e.K "weighed_sum" (top 16)) (Z : Txt e C)  : ZbI e :=
 T.Zac (C := C0) (body := ZaN) (k := 0) Z.Y F ["prime", "row"] fun _ _ _ _ _ _ _ hr =>
 (Zc (Zp (qb (Za (qB (Zed rfl) Z.sum_ Zeh (Zd (Za (ZaM rfl (cS ["place", "symbol"]) (Zj0 g_ Z.enumerate_ ql Z4) (fun _ _ _ _ _ => ⟨(Zdz rfl (qg (qg ZcH))), ZaH, (qb ql ql)⟩))) Zf))) ql))
  Zg)
noncomputable def Zel : List T.S := [.ret (.and (.cmp .Eq (.call Zaw [.v 0, .v 1]) (.k (.int 0))) (.cmp .Eq (.call Zap [.v 0, .v 1]) (.k (.int 0))))]
noncomputable def Zcr : T.FI := ⟨true, T.Zi C0 2 2 Zel⟩
abbrev ZeP (e : T.En) : Prop := e.fn "is_good" 2 ["prime", "row"] Zcr
theorem Zh1 (F : T.TI e.K "is_good" (top 17)) (Z : Txt e C) (g4 : ZbI e) (g3 : Zc0 e) : ZeP e :=
 T.Zac (C := C0) (body := Zel) (k := 1) Z.Y F ["prime", "row"] fun _ _ _ _ _ _ _ hr =>
 have hu := hr.units
 (Zc (Zp (Zbb (Za (Zbz hu (Za (qf g3 hr (Zd ql (Zd ql Zf)))) Zh)) (Zcb (Zbz hu (Za (qf g4 hr (Zd ql (Zd ql Zf)))) Zh))))
  Zg)
noncomputable def Zb6 : List T.S := [.ret (.ix (.comp 1 [1, 0, 2] (.name 0) .rng1 [.v 0] [.cmp .Eq (.bin .Mod (.bin .Mult (.v 0) (.v 3)) (.v 2)) (.v 1)] (.v 0)) (.k (.int 0)))]
noncomputable def ZbQ : T.FI := ⟨true, T.Zi C0 3 3 Zb6⟩
abbrev Zem (e : T.En) : Prop := e.fn "quotient" 1 ["prime", "rest", "divisor"] ZbQ
theorem Zgp (F : T.TI e.K "quotient" (top 18)) (Z : Txt e C)  : Zem e :=
 T.Zac (C := C0) (body := Zb6) (k := 0) Z.Y F ["prime", "rest", "divisor"] fun _ _ _ _ _ _ _ hr =>
 have hu := hr.units
 (Zc (Zp (Zr hu (Za (ZaM rfl (cS ["symbol", "rest", "prime", "divisor"]) (qr1 Z.range_ ql) (fun _ _ _ _ _ => ⟨qt, (Zix (Zz hu (Za (qb (Za (qb ql ql)) ql)) ql)), (ok_v qv)⟩))) Zh))
  Zg)
noncomputable def Zat : List T.S := [.asg 4 (.bin .Add (.v 2) (.k (.int 1))), .asg 5 (.bin .Mod (.bin .Sub (.bin .Mult (.v 4) (.call Zaw [.v 0, .v 1])) (.call Zap [.v 0, .v 1])) (.v 0)), .asg 6 (.bf .list [.v 1]), .sub 6 [] (.v 3) (.call ZbQ [.v 0, .v 5, .bin .Sub (.v 3) (.v 2)]), .sub 6 [] (.v 2) (.bin .Mod (.neg (.call Zaw [.v 0, .v 6])) (.v 0)), .ret (.v 6)]
noncomputable def Zab : T.FI := ⟨true, T.Zi C0 4 7 Zat⟩
abbrev ZbJ (e : T.En) : Prop := e.fn "with_two_filled" 2 ["prime", "row", "earlier", "later"] Zab
theorem Zde (F : T.TI e.K "with_two_filled" (top 19)) (Z : Txt e C) (g3 : Zc0 e) (g4 : ZbI e) (g6 : Zem e) : ZbJ e :=
 T.Zac (C := C0) (body := Zat) (k := 1) Z.Y F ["prime", "row", "earlier", "later", "place", "rest", "filled"] fun _ _ _ _ _ _ _ hr =>
 have hu := hr.units
 (Zc (qa (qb ql Zh))
  (Zc (qa (qb (Za (qb (Za (qb ql (Za (qf g3 hr (Zd ql (Zd ql Zf)))))) (Za (qf g4 hr (Zd ql (Zd ql Zf)))))) ql))
  (Zc (qa (qT ZbV Z.list_ ZbY (Zd ql Zf)))
  (Zc (Zdy hu qv ql (qf g6 hr (Zd ql (Zd ql (Zd (Za (qb ql ql)) Zf)))))
  (Zc (Zdy hu qv ql (qb (Za (Zea (Za (qf g3 hr (Zd ql (Zd ql Zf)))))) ql))
  (Zc (Zp (ZbA qv))
  Zg))))))
noncomputable def Zb7 : List T.S := [.ex (.call ZY [.v 0, .v 1]), .asg 2 (.bf .len [.v 1]), .iff (.cmp .Gt (.v 2) (.bin .Sub (.v 0) (.k (.int 2)))) [.raise (.k .non)] [], .ret (.call Zab [.v 0, .bin .Add (.v 1) (.lst [.k (.int 0), .k (.int 0)]), .v 2, .bin .Add (.v 2) (.k (.int 1))])]
noncomputable def Za7 : T.FI := ⟨true, T.Zi C0 2 3 Zb7⟩
abbrev ZcM (e : T.En) : Prop := e.fn "labelled" 4 ["prime", "row"] Za7
theorem Zgq (F : T.TI e.K "labelled" (top 20)) (Z : Txt e C) (g2 : Zbl e) (g7 : ZbJ e) : ZcM e :=
 T.Zac (C := C0) (body := Zb7) (k := 3) Z.Y F ["prime", "row", "length"] fun _ _ _ _ _ _ _ hr =>
 have hu := hr.units
 (Zc (Zao (qf g2 hr (Zd ql (Zd ql Zf))))
  (Zc (qa (qB ZaB Z.len_ ZaC (Zd ql Zf)))
  (Zc (ZO (Zz hu ql (Za (qb ql (Za (qgi Z.CHECK_SYMBOLS_))))) (Zc Za4
  Zg) Zg)
  (Zc (Zp (qf g7 hr (Zd ql (Zd (Za (qb ql (Za (Zah (Zx (ok_k Z4) (Zx (ok_k Z4) Z7)))))) (Zd ql (Zd (Za (qb ql Zh)) Zf))))))
  Zg))))
noncomputable def ZbR : List T.S := [.iff (.or (.nt (.call Za5 [.v 0])) (.cmp .NotIn (.v 0) (.g (.node .ftp false ((([5, 7, 11, 13, 17, 19, 23, 29, 31, 37, 41, 43, 47] : List Int).map V.int).map D.sc))))) [.ret (.k (.bl false))] [], .ret (.and (.call Za5 [.v 1]) (.chain .LtE .LtE (.k (.int 1)) (.v 1) (.bin .Sub (.v 0) (.k (.int 5)))))]
noncomputable def Zcs : T.FI := ⟨true, T.Zi C0 2 2 ZbR⟩
abbrev ZeQ (e : T.En) : Prop := e.fn "is_roll" 2 ["prime", "room"] Zcs
theorem Zh2 (F : T.TI e.K "is_roll" (top 25)) (Z : Txt e C) (g0 : ZcL e) : ZeQ e :=
 T.Zac (C := C0) (body := ZbR) (k := 1) Z.Y F ["prime", "room"] fun _ _ _ _ _ _ _ hr =>
 have hu := hr.units
 (Zc (ZO (PW.pt (Zca (Za2 (Zas (Za (qf g0 hr (Zd ql Zf))))) (Zc4 (Zz hu ql (Za (qgu Z.PRIMES_)))))) (Zc (Zp (ok_k Zcj))
  Zg) Zg)
  (Zc (Zp (Zbb (Za (qf g0 hr (Zd ql Zf))) (Zcb (ZfA hu Zh ql (Za (qb ql (Za (qgi Z.BESIDES_))))))))
  Zg))
noncomputable def Zbn : List T.S := [.ret (.comp 1 [0, 1] (.name 0) .rng3 [.k (.int 0), .bf .max [.k (.int 1), .bf .len [.v 0]], .v 1] [] (.sl (.v 1) (.v 0) (.bin .Add (.v 0) (.v 2))))]
noncomputable def ZaT : T.FI := ⟨true, T.Zi C0 2 2 Zbn⟩
abbrev Zd9 (e : T.En) : Prop := e.fn "pieces_of" 1 ["row", "room"] ZaT
theorem ZfL (F : T.TI e.K "pieces_of" (top 26)) (Z : Txt e C)  : Zd9 e :=
 T.Zac (C := C0) (body := Zbn) (k := 0) Z.Y F ["row", "room"] fun _ _ _ _ _ _ _ hr =>
 (Zc (Zp (ZaM rfl (cS ["first", "row", "room"]) (Zlp g_ Z.range_ (Zd Zh (Zd (Za (qB (Zm3 rfl) Z.max_ ZmA (Zd Zh (Zd (Za (qB ZaB Z.len_ ZaC (Zd ql Zf))) Zf)))) (Zd ql Zf)))) (fun _ _ _ _ _ => ⟨qt, ZaH, (ZbO ql (Zae ql) (Zae (Za (qb ql ql))))⟩)))
  Zg)
noncomputable def Zbt : List T.S := [.asg 1 (.dct0), .for_ (.tup [2, 3]) .enum [.v 0, .k (.int 0)] [.iff (.or (.cmp .NotEq (.ix (.v 3) (.k (.int 1))) (.ix (.ix (.v 0) (.k (.int 0))) (.k (.int 1)))) (.cmp .NotEq (.sdef 1 (.ix (.v 3) (.k (.int 0))) (.v 3)) (.v 3))) [.raise (.k .non)] []], .ret (.v 1)]
noncomputable def Zau : T.FI := ⟨false, T.Zi C0 1 4 Zbt⟩
abbrev ZbE (e : T.En) : Prop := e.fn "labels_by_number" 1 ["labels"] Zau
theorem ZcT (F : T.TI e.K "labels_by_number" (top 27)) (Z : Txt e C)  : ZbE e :=
 T.Zac (C := C0) (body := Zbt) (k := 0) Z.Y F ["labels", "found", "number", "label"] fun _ _ _ _ _ _ _ hr =>
 have hu := hr.units
 (Zc (qa Zqa)
  (Zc (ZbC PassesOwn.never rfl (Zcp _ _) (hw_2 (Zdv rfl) (ZbD rfl)) (ZcK g_ Z.enumerate_ ql) (Zdz rfl (qg (qg ZcH)))
  (Zc (ZO (PW.pt (Zca (Zz hu (Za (Zr hu ql Zh)) (Za (Zr hu (Za (Zr hu ql Zh)) Zh))) (Zc4 (Zz hu (Za (Zlv qv (Zr hu ql Zh) (ok_v qv))) ql)))) (Zc Za4
  Zg) Zg)
  Zg))
  (Zc (Zp (ZbA qv))
  Zg)))
noncomputable def Za8 (C : Addr) : List T.S := [.iff (.nt (.call Zcs [.v 1, .v 2])) [.raise (.k .non)] [], .attr 0 "size" (.v 1), .attr 0 "room" (.v 2)]
noncomputable def ZJ (C : Addr) : T.FI := ⟨true, T.Zi (CK C) 3 3 (Za8 C)⟩
abbrev Zct (e : T.En) (C : Addr) : Prop := e.nw "Roll" C 3 ["self", "prime", "room"] (ZJ C)
theorem ZdL (F : T.MI e.K C "__init__" "Roll.__init__" (Z6 (top 28) 0)) (Z : Txt e C) (g9 : ZeQ e) : Zct e C :=
 T.Zqm (C := (CK C)) (body := (Za8 C)) (k := 2) Z.Y Z.ci F ["self", "prime", "room"] fun _ _ _ _ _ _ _ hr =>
 (Zc (ZO (Za2 (Zas (Za (qf g9 hr (Zd ql (Zd ql Zf)))))) (Zc Za4
  Zg) Zg)
  (Zc (ZgC Z.fok qv (ok_v qv))
  (Zc (ZgC Z.fok qv (ok_v qv))
  Zg)))
noncomputable def Zak (C : Addr) : List T.S := [.asg 4 (.bin .Mult (.lst [.k (.int 0)]) (.bin .Sub (.fld (.v 0) "room") (.bf .len [.v 3]))), .ret (.call Za7 [.fld (.v 0) "size", .bin .Add (.bin .Add (.lst [.v 1, .v 2, .bf .len [.v 3]]) (.v 3)) (.v 4)])]
noncomputable def Zy (C : Addr) : T.FI := ⟨true, T.Zi (CK C) 4 5 (Zak C)⟩
abbrev ZbF (e : T.En) (C : Addr) : Prop := e.me C "piece_label" 5 ["self", "number", "count", "piece"] (Zy C)
theorem ZcU (F : T.MI e.K C "piece_label" "Roll.piece_label" (Z6 (top 28) 2)) (Z : Txt e C) (g8 : ZcM e) : ZbF e C :=
 T.Zcq (C := (CK C)) (body := (Zak C)) (k := 4) Z.ci.cl F ["self", "number", "count", "piece", "noughts"] fun _ _ _ _ _ _ _ hr =>
 (Zc (qa (qb (Za (Zah (Zx (ok_k Z4) Z7))) (Za (qb (Za (ZaA Z.fok ql)) (Za (qB ZaB Z.len_ ZaC (Zd ql Zf)))))))
  (Zc (Zp (qf g8 hr (Zd (Za (ZaA Z.fok ql)) (Zd (Za (qb (Za (qb (Za (Zah (Zx (ok_v qv) (Zx (ok_v qv) (Zx (qB ZaB Z.len_ ZaC (Zd ql Zf)) Z7))))) ql)) ql)) Zf))))
  Zg))
noncomputable def ZaG (C : Addr) : List T.S := [.asg 4 (.lst [.v 1, .v 2]), .for_ (.name 5) .rng2 [.k (.int 2), .bin .Add (.k (.int 3)) (.fld (.v 0) "room")] [.ex (.mut .append 4 [] [.bin .Mod (.neg (.bor (.bf .sum [.comp 1 [5] (.name 0) .val [.v 3] [] (.ix (.v 0) (.v 1))]))) (.fld (.v 0) "size")])], .ret (.call Za7 [.fld (.v 0) "size", .v 4])]
noncomputable def ZR (C : Addr) : T.FI := ⟨true, T.Zi (CK C) 4 6 (ZaG C)⟩
abbrev Zb1 (e : T.En) (C : Addr) : Prop := e.me C "balance" 5 ["self", "number", "count", "others"] (ZR C)
theorem Zen (F : T.MI e.K C "balance" "Roll.balance" (Z6 (top 28) 3)) (Z : Txt e C) (g8 : ZcM e) : Zb1 e C :=
 T.Zcq (C := (CK C)) (body := (ZaG C)) (k := 4) Z.ci.cl F ["self", "number", "count", "others", "row", "place"] fun _ _ _ _ _ _ _ hr =>
 have hu := hr.units
 (Zc (qa (Zah (Zx (ok_v qv) (Zx (ok_v qv) Z7))))
  (Zc (ZbC PassesOwn.never rfl (Zcp _ _) (hw_2 (ZbD rfl) (ZbD rfl)) (qr2 Z.range_ (Za (qgi Z.LENGTH_AT_)) (Za (qb (Za (qgi Z.PIECE_AT_)) (Za (ZaA Z.fok ql))))) qt
  (Zc (Zao (Zbc qv (Zx (qb (Za (Zea (Za (Zej (qB (Zed rfl) Z.sum_ Zeh (Zd (Za (ZaM rfl (cS ["label", "place"]) (ZbB ql) (fun _ _ _ _ _ => ⟨qt, ZaH, (Zr hu ql ql)⟩))) Zf)))))) (Za (ZaA Z.fok ql))) Z7)))
  Zg))
  (Zc (Zp (qf g8 hr (Zd (Za (ZaA Z.fok ql)) (Zd ql Zf))))
  Zg)))
noncomputable def ZaO (C : Addr) : List T.S := [.ex (.call ZY [.fld (.v 0) "size", .v 1]), .asg 2 (.call ZaT [.v 1, .fld (.v 0) "room"]), .asg 3 (.bf .len [.v 2]), .iff (.cmp .GtE (.v 3) (.fld (.v 0) "size")) [.raise (.k .non)] [], .asg 4 (.comp 2 [3, 0] (.tup [0, 1]) .enum [.v 2, .k (.int 0)] [] (.meth C "piece_label" (Zy C) (.v 3) [.v 0, .v 2, .v 1])), .ex (.mut .append 4 [] [.meth C "balance" (ZR C) (.v 0) [.v 3, .v 3, .v 4]]), .ret (.v 4)]
noncomputable def ZZ (C : Addr) : T.FI := ⟨true, T.Zi (CK C) 2 5 (ZaO C)⟩
abbrev ZcR (e : T.En) (C : Addr) : Prop := e.me C "parted" 6 ["self", "row"] (ZZ C)
theorem Ze6 (F : T.MI e.K C "parted" "Roll.parted" (Z6 (top 28) 1)) (Z : Txt e C) (g2 : Zbl e) (g10 : Zd9 e) (g13 : ZbF e C) (g14 : Zb1 e C) : ZcR e C :=
 T.Zcq (C := (CK C)) (body := (ZaO C)) (k := 5) Z.ci.cl F ["self", "row", "pieces", "count", "labels"] fun _ _ _ _ _ _ _ hr =>
 have hu := hr.units
 (Zc (Zao (qf g2 hr (Zd (Za (ZaA Z.fok ql)) (Zd ql Zf))))
  (Zc (qa (qf g10 hr (Zd ql (Zd (Za (ZaA Z.fok ql)) Zf))))
  (Zc (qa (qB ZaB Z.len_ ZaC (Zd ql Zf)))
  (Zc (ZO (Zz hu ql (Za (ZaA Z.fok ql))) (Zc Za4
  Zg) Zg)
  (Zc (qs (cS ["number", "piece", "count", "self"]) (ZcK g_ Z.enumerate_ ql) (fun _ _ _ _ _ => ⟨(Zdz rfl (qg (qg ZcH))), ZaH, (ZM g13 hr ql (Zd ql (Zd ql (Zd ql Zf))))⟩))
  (Zc (Zao (Zbc qv (Zx (ZM g14 hr ql (Zd ql (Zd ql (Zd ql Zf)))) Z7)))
  (Zc (Zp (ZbA qv))
  Zg)))))))
noncomputable def Zcg (C : Addr) : List T.S := [.iff (.or (.nt (.bf (.isi .list) [.v 1])) (.cmp .NotEq (.bf .len [.v 1]) (.bin .Add (.fld (.v 0) "room") (.k (.int 5))))) [.ret (.k (.bl false))] [], .iff (.or (.nt (.bf .all [.comp 1 [0] (.name 0) .val [.v 1] [] (.call ZG [.fld (.v 1) "size", .v 0])])) (.nt (.call Zcr [.fld (.v 0) "size", .v 1]))) [.ret (.k (.bl false))] [], .ret (.and (.cmp .NotEq (.ix (.v 1) (.k (.int 1))) (.k (.int 0))) (.cmp .LtE (.ix (.v 1) (.k (.int 0))) (.ix (.v 1) (.k (.int 1)))))]
noncomputable def Z1 (C : Addr) : T.FI := ⟨true, T.Zi (CK C) 2 2 (Zcg C)⟩
abbrev Zcu (e : T.En) (C : Addr) : Prop := e.me C "is_label" 3 ["self", "thing"] (Z1 C)
theorem ZdM (F : T.MI e.K C "is_label" "Roll.is_label" (Z6 (top 28) 4)) (Z : Txt e C) (g5 : ZeP e) (g1 : Zcz e) : Zcu e C :=
 T.Zcq (C := (CK C)) (body := (Zcg C)) (k := 2) Z.ci.cl F ["self", "thing"] fun _ _ _ _ _ _ _ hr =>
 have hu := hr.units
 (Zc (ZO (PW.pt (Zca (Za2 (Zas (Za (qi Z.isinstance_ ql Z.list_ Zfy)))) (Zc4 (Zz hu (Za (qB ZaB Z.len_ ZaC (Zd ql Zf))) (Za (qb (Za (ZaA Z.fok ql)) (Za (qgi Z.BESIDES_)))))))) (Zc (Zp (ok_k Zcj))
  Zg) Zg)
  (Zc (ZO (PW.pt (Zca (Za2 (Zas (Za (qB (Ziu rfl) Z.all_ Ziz (Zd (Za (ZaM rfl (cS ["symbol", "self"]) (ZbB ql) (fun _ _ _ _ _ => ⟨qt, ZaH, (qf g1 hr (Zd (Za (ZaA Z.fok ql)) (Zd ql Zf)))⟩))) Zf))))) (Zc4 (Za2 (Zas (Za (qf g5 hr (Zd (Za (ZaA Z.fok ql)) (Zd ql Zf))))))))) (Zc (Zp (ok_k Zcj))
  Zg) Zg)
  (Zc (Zp (Zbb (Za (Zbz hu (Za (Zr hu ql Zh)) Zh)) (Zcb (Zbz hu (Za (Zr hu ql Zh)) (Za (Zr hu ql Zh))))))
  Zg)))
noncomputable def Zbo (C : Addr) : List T.S := [.for_ (.tup [2, 3]) .enum [.v 1, .k (.int 0)] [.iff (.nt (.meth C "is_label" (Z1 C) (.v 0) [.v 3])) [.raise (.k .non)] []]]
noncomputable def Zal (C : Addr) : T.FI := ⟨true, T.Zi (CK C) 2 4 (Zbo C)⟩
abbrev Zbu (e : T.En) (C : Addr) : Prop := e.me C "check_labels" 4 ["self", "labels"] (Zal C)
theorem ZcN (F : T.MI e.K C "check_labels" "Roll.check_labels" (Z6 (top 28) 5)) (Z : Txt e C) (g16 : Zcu e C) : Zbu e C :=
 T.Zcq (C := (CK C)) (body := (Zbo C)) (k := 3) Z.ci.cl F ["self", "labels", "number", "thing"] fun _ _ _ _ _ _ _ hr =>
 (Zc (ZbC PassesOwn.never rfl (Zcp _ _) (hw_2 (Zdv rfl) (ZbD rfl)) (ZcK g_ Z.enumerate_ ql) (Zdz rfl (qg (qg ZcH)))
  (Zc (ZO (Za2 (Zas (Za (ZM g16 hr ql (Zd ql Zf))))) (Zc Za4
  Zg) Zg)
  Zg))
  Zg)
noncomputable def ZbK (C : Addr) : List T.S := [.asg 2 (.call Zau [.v 1]), .iff (.nt (.v 1)) [.raise (.k .non)] [], .asg 3 (.ix (.ix (.v 1) (.k (.int 0))) (.k (.int 1))), .asg 4 (.comp 1 [2] (.name 0) .rng1 [.bin .Add (.v 3) (.k (.int 1))] [.cmp .NotIn (.v 0) (.v 1)] (.v 0)), .iff (.cmp .Gt (.bf .len [.v 4]) (.k (.int 1))) [.raise (.k .non)] [], .iff (.v 4) [.sub 2 [] (.ix (.v 4) (.k (.int 0))) (.meth C "balance" (ZR C) (.v 0) [.ix (.v 4) (.k (.int 0)), .v 3, .dvals 2])] [], .ret (.comp 1 [2] (.name 0) .rng1 [.bin .Add (.v 3) (.k (.int 1))] [] (.bf .list [.ix (.v 1) (.v 0)]))]
noncomputable def Zaj (C : Addr) : T.FI := ⟨true, T.Zi (CK C) 2 5 (ZbK C)⟩
abbrev Zch (e : T.En) (C : Addr) : Prop := e.me C "completed" 6 ["self", "labels"] (Zaj C)
theorem Zd3 (F : T.MI e.K C "completed" "Roll.completed" (Z6 (top 28) 6)) (Z : Txt e C) (g11 : ZbE e) (g14 : Zb1 e C) : Zch e C :=
 T.Zcq (C := (CK C)) (body := (ZbK C)) (k := 5) Z.ci.cl F ["self", "labels", "found", "count", "lacking"] fun _ _ _ _ _ _ _ hr =>
 have hu := hr.units
 (Zc (qa (qf g11 hr (Zd ql Zf)))
  (Zc (ZO (Za2 (Zas ql)) (Zc Za4
  Zg) Zg)
  (Zc (qa (Zr hu (Za (Zr hu ql Zh)) Zh))
  (Zc (qs (cS ["number", "found"]) (qr1 Z.range_ (Za (qb ql Zh))) (fun _ _ _ _ _ => ⟨qt, (Zix (Zz hu ql ql)), (ok_v qv)⟩))
  (Zc (ZO (Zz hu (Za (qB ZaB Z.len_ ZaC (Zd ql Zf))) Zh) (Zc Za4
  Zg) Zg)
  (Zc (ZO (Zas ql) (Zc (Zdy hu qv (Za (Zr hu ql Zh)) (ZM g14 hr ql (Zd (Za (Zr hu ql Zh)) (Zd ql (Zd (Za (Zj6 rfl Z.list_ qv)) Zf)))))
  Zg) Zg)
  (Zc (Zp (ZaM rfl (cS ["number", "found"]) (qr1 Z.range_ (Za (qb ql Zh))) (fun _ _ _ _ _ => ⟨qt, ZaH, (qT ZbV Z.list_ ZbY (Zd (Za (Zr hu ql ql)) Zf))⟩)))
  Zg)))))))
noncomputable def ZbG (C : Addr) : List T.S := [.ex (.meth C "check_labels" (Zal C) (.v 0) [.v 1]), .asg 2 (.meth C "completed" (Zaj C) (.v 0) [.v 1]), .iff (.bor (.bf .any [.comp 1 [0] (.name 0) .val [.sl (.v 2) (.k .non) (.neg (.k (.int 1)))] [] (.cmp .Gt (.ix (.v 0) (.k (.int 2))) (.fld (.v 1) "room"))])) [.raise (.k .non)] [], .ret (.v 2)]
noncomputable def Zq (C : Addr) : T.FI := ⟨true, T.Zi (CK C) 2 3 (ZbG C)⟩
abbrev ZaP (e : T.En) (C : Addr) : Prop := e.me C "all_labels" 7 ["self", "labels"] (Zq C)
theorem Zdf (F : T.MI e.K C "all_labels" "Roll.all_labels" (Z6 (top 28) 7)) (Z : Txt e C) (g17 : Zbu e C) (g18 : Zch e C) : ZaP e C :=
 T.Zcq (C := (CK C)) (body := (ZbG C)) (k := 6) Z.ci.cl F ["self", "labels", "found"] fun _ _ _ _ _ _ _ hr =>
 have hu := hr.units
 (Zc (Zao (ZM g17 hr ql (Zd ql Zf)))
  (Zc (qa (ZM g18 hr ql (Zd ql Zf)))
  (Zc (ZO (Zas (Za (Zej (qB (Zm2 rfl) Z.any_ Zm9 (Zd (Za (ZaM rfl (cS ["label", "self"]) (ZbB (Za (ZbO ql Zec (Zae (Za (Zea Zh)))))) (fun _ _ _ _ _ => ⟨qt, ZaH, (Zbz hu (Za (Zr hu ql (Za (qgi Z.LENGTH_AT_)))) (Za (ZaA Z.fok ql)))⟩))) Zf))))) (Zc Za4
  Zg) Zg)
  (Zc (Zp (ZbA qv))
  Zg))))
noncomputable def Zci (C : Addr) : List T.S := [.asg 2 (.lst []), .for_ (.name 3) .val [.sl (.meth C "all_labels" (Zq C) (.v 0) [.v 1]) (.k .non) (.neg (.k (.int 1)))] [.ex (.mut .extend 2 [] [.sl (.v 3) (.k (.int 3)) (.bin .Add (.k (.int 3)) (.ix (.v 3) (.k (.int 2))))])], .ret (.v 2)]
noncomputable def Z2 (C : Addr) : T.FI := ⟨true, T.Zi (CK C) 2 4 (Zci C)⟩
abbrev Zcv (e : T.En) (C : Addr) : Prop := e.me C "gathered" 8 ["self", "labels"] (Z2 C)
theorem ZdN (F : T.MI e.K C "gathered" "Roll.gathered" (Z6 (top 28) 8)) (Z : Txt e C) (g19 : ZaP e C) : Zcv e C :=
 T.Zcq (C := (CK C)) (body := (Zci C)) (k := 7) Z.ci.cl F ["self", "labels", "row", "label"] fun _ _ _ _ _ _ _ hr =>
 have hu := hr.units
 (Zc (qa (Zah Z7))
  (Zc (ZbC PassesOwn.never rfl (Zcp _ _) (hw_1 (ZbD rfl)) (ZbB (Za (ZbO (Za (ZM g19 hr ql (Zd ql Zf))) Zec (Zae (Za (Zea Zh)))))) qt
  (Zc (Zao (Zi2 qv (Zd (Za (ZbO ql (Zae (Za (qgi Z.PIECE_AT_))) (Zae (Za (qb (Za (qgi Z.PIECE_AT_)) (Za (Zr hu ql (Za (qgi Z.LENGTH_AT_))))))))) Zf)))
  Zg))
  (Zc (Zp (ZbA qv))
  Zg)))
noncomputable def Zbp : List T.S := [.ret (.bf .sum [.sl (.v 0) (.v 1) (.bin .Add (.v 1) (.k (.int 1)))])]
noncomputable def ZA : T.FI := ⟨true, T.Zi C0 2 2 Zbp⟩
abbrev Zc1 (e : T.En) : Prop := e.fn "_law_here" 1 ["_law_script", "_law_place"] ZA
theorem ZfM (F : T.TI e.K "_law_here" (top 30)) (Z : Txt e C)  : Zc1 e :=
 T.Zac (C := C0) (body := Zbp) (k := 0) Z.Y F ["_law_script", "_law_place"] fun _ _ _ _ _ _ _ hr =>
 (Zc (Zp (qB (Zed rfl) Z.sum_ Zeh (Zd (Za (ZbO ql (Zae ql) (Zae (Za (qb ql Zh))))) Zf)))
  Zg)
noncomputable def Zaf : List T.S := [.asg 2 (.bin .FloorDiv (.v 0) (.k (.int 2))), .asg 3 (.bin .Mod (.v 2) (.k (.int 1999999973))), .asg 4 (.bin .Mod (.bin .FloorDiv (.v 2) (.k (.int 1999999973))) (.k (.int 1999999943))), .asg 5 (.lst []), .for_ (.name 6) .rng1 [.bin .Add (.v 1) (.k (.int 2))] [.asg 7 (.bin .Add (.bin .Add (.bin .Add (.bin .Mult (.v 3) (.k (.int 1664525))) (.bin .Mult (.v 4) (.v 4))) (.bin .Mult (.k (.int 97)) (.v 6))) (.k (.int 40503))), .asg 3 (.v 4), .asg 4 (.bin .Mod (.v 7) (.k (.int 1999999973))), .ex (.mut .append 5 [] [.v 4])], .asg 5 (.sl (.v 5) (.k (.int 2)) (.k .non)), .iff (.cmp .Eq (.bin .Mod (.v 0) (.k (.int 2))) (.k (.int 0))) [.ret (.v 5)] [], .for_ (.name 8) .rng1 [.v 1] [.iff (.cmp .Gt (.v 2) (.k (.int 0))) [.sub 5 [] (.v 8) (.bin .Mod (.v 2) (.k (.int 1999999973))), .asg 2 (.bin .FloorDiv (.v 2) (.k (.int 1999999973)))] []], .ret (.v 5)]
noncomputable def Zo : T.FI := ⟨true, T.Zi C0 2 9 Zaf⟩
abbrev ZaX (e : T.En) : Prop := e.fn "_law_shaken" 1 ["_law_cell", "_law_many"] Zo
theorem Ze7 (F : T.TI e.K "_law_shaken" (top 31)) (Z : Txt e C)  : ZaX e :=
 T.Zac (C := C0) (body := Zaf) (k := 0) Z.Y F ["_law_cell", "_law_many", "_law_rest", "_law_one", "_law_two", "_law_found", "_law_turn", "_law_more", "_law_k"] fun _ _ _ _ _ _ _ hr =>
 have hu := hr.units
 (Zc (qa (qb ql Zh))
  (Zc (qa (qb ql Zh))
  (Zc (qa (qb (Za (qb ql Zh)) Zh))
  (Zc (qa (Zah Z7))
  (Zc (ZbC PassesOwn.never rfl (Zcp _ _) (hw_1 (ZbD rfl)) (qr1 Z.range_ (Za (qb ql Zh))) qt
  (Zc (qa (qb (Za (qb (Za (qb (Za (qb ql Zh)) (Za (qb ql ql)))) (Za (qb Zh ql)))) Zh))
  (Zc (qa (ok_v qv))
  (Zc (qa (qb ql Zh))
  (Zc (Zao (Zbc qv (Zx (ok_v qv) Z7)))
  Zg)))))
  (Zc (qa (ZbO ql (Zae Zh) Zec))
  (Zc (ZO (Zz hu (Za (qb ql Zh)) Zh) (Zc (Zp (ZbA qv))
  Zg) Zg)
  (Zc (ZbC PassesOwn.never rfl (Zcp _ _) (hw_1 (Zdv rfl)) (qr1 Z.range_ ql) qt
  (Zc (ZO (Zz hu ql Zh) (Zc (Zdy hu qv ql (qb ql Zh))
  (Zc (qa (qb ql Zh))
  Zg)) Zg)
  Zg))
  (Zc (Zp (ZbA qv))
  Zg)))))))))
noncomputable def Za3 (fi : T.FI) : List T.S := [.iff (.bf (.isi .list) [.v 1]) [.iff (.or (.nt (.bf (.isi .list) [.v 0])) (.cmp .NotEq (.bf .len [.v 0]) (.bf .len [.v 1]))) [.ret (.k (.bl false))] [], .ret (.bf .all [.comp 2 [] (.tup [0, 1]) .zip [.v 0, .v 1] [] (.call fi [.v 0, .v 1])])] [], .ret (.and (.bf (.isi .int) [.v 0]) (.and (.nt (.bf (.isi .bool) [.v 0])) (.cmp .Eq (.v 0) (.v 1))))]
noncomputable def Zw : Nat -> List T.D -> T.Rs (T.D × List T.D)
 | 0 => T.Zi C0 2 2 [.raise (.k .non)]
 | n + 1 => T.Zi C0 2 2 (Za3 ⟨true, Zw n⟩)
noncomputable def Zad : T.FI := ⟨true, Zw 3⟩
abbrev Zgr (e : T.En) : Prop := e.fn "_law_same" 4 ["_law_found", "_law_due"] Zad
theorem ZfN (F : T.TI e.K "_law_same" (top 32)) (Z : Txt e C) : ∀ n, e.fn "_law_same" (n + 1) ["_law_found", "_law_due"] ⟨true, Zw n⟩ := fun n => by
 induction n with
 | zero => exact T.Zac (C := C0) (body := [.raise (.k .non)]) (k := 0) Z.Y F ["_law_found", "_law_due"] fun _ _ _ _ _ _ _ _ => T.Zj4
 | succ n G_self => exact T.Zac (C := C0) (body := Za3 ⟨true, Zw n⟩) (k := n + 1) Z.Y F ["_law_found", "_law_due"] fun _ _ _ _ _ _ _ hr =>
  have hu := hr.units
  (Zc (ZO (Zas (Za (qi Z.isinstance_ ql Z.list_ Zfy))) (Zc (ZO (PW.pt (Zca (Za2 (Zas (Za (qi Z.isinstance_ ql Z.list_ Zfy)))) (Zc4 (Zz hu (Za (qB ZaB Z.len_ ZaC (Zd ql Zf))) (Za (qB ZaB Z.len_ ZaC (Zd ql Zf))))))) (Zc (Zp (ok_k Zcj))
   Zg) Zg)
   (Zc (Zp (qB (Ziu rfl) Z.all_ Ziz (Zd (Za (ZaM rfl (cS ["_law_one", "_law_other"]) (Zn2 g_ Z.zip_ ql ql) (fun _ _ _ _ _ => ⟨(Zdz rfl (qg (qg ZcH))), ZaH, (qf G_self hr (Zd ql (Zd ql Zf)) (hj := Nat.le_refl _))⟩))) Zf)))
   Zg)) Zg)
   (Zc (Zp (Zbb (Za (qi Z.isinstance_ ql Z.int_ Zke)) (Zbb (Za (Zg4 (Za (qi Z.isinstance_ ql Z.bool_ Zii)))) (Zcb (Zbz hu ql ql)))))
   Zg))
noncomputable def Zbq : List T.S := [.asg 1 (.call Zo [.call ZA [.v 0, .k (.int 0)], .k (.int 3)]), .asg 2 (.ix (.kl [(.int 7), (.int 11), (.int 13), (.int 17), (.int 19), (.int 23), (.int 29), (.int 31), (.int 37), (.int 41), (.int 43), (.int 47)]) (.bin .Mod (.ix (.v 1) (.k (.int 0))) (.k (.int 12)))), .ret (.tup [.v 2, .ix (.lst [.bin .Add (.k (.int 1)) (.bin .Mod (.ix (.v 1) (.k (.int 1))) (.bin .Sub (.v 2) (.k (.int 5)))), .k (.int 1), .bin .Sub (.v 2) (.k (.int 5)), .bin .Add (.k (.int 1)) (.bin .Mod (.bin .Mod (.ix (.v 1) (.k (.int 1))) (.k (.int 4))) (.bin .Sub (.v 2) (.k (.int 5))))]) (.bin .Mod (.ix (.v 1) (.k (.int 2))) (.k (.int 4)))])]
noncomputable def ZaU : T.FI := ⟨true, T.Zi C0 1 3 Zbq⟩
abbrev ZdA (e : T.En) : Prop := e.fn "_law_roll" 2 ["_law_script"] ZaU
theorem ZfO (F : T.TI e.K "_law_roll" (top 33)) (Z : Txt e C) (g22 : ZaX e) (g21 : Zc1 e) : ZdA e :=
 T.Zac (C := C0) (body := Zbq) (k := 1) Z.Y F ["_law_script", "_law_xs", "_law_prime"] fun _ _ _ _ _ _ _ hr =>
 have hu := hr.units
 (Zc (qa (qf g22 hr (Zd (Za (qf g21 hr (Zd ql (Zd Zh Zf)))) (Zd Zh Zf))))
  (Zc (qa (Zr hu (Za (ZoQ (vs := [(.int 7), (.int 11), (.int 13), (.int 17), (.int 19), (.int 23), (.int 29), (.int 31), (.int 37), (.int 41), (.int 43), (.int 47)]) (by kernel_rfl))) (Za (qb (Za (Zr hu ql Zh)) Zh))))
  (Zc (Zp (Zmy (Zx (ok_v qv) (Zx (Zr hu (Za (Zah (Zx (qb Zh (Za (qb (Za (Zr hu ql Zh)) (Za (qb ql Zh))))) (Zx (ok_k Z4) (Zx (qb ql Zh) (Zx (qb Zh (Za (qb (Za (qb (Za (Zr hu ql Zh)) Zh)) (Za (qb ql Zh))))) Z7)))))) (Za (qb (Za (Zr hu ql Zh)) Zh))) Z7))))
  Zg)))
noncomputable def Zb8 : List T.S := [.asg 3 (.lst []), .for_ (.name 4) .val [.sl (.v 0) (.k (.int 30)) (.k (.int 63))] [.asg 5 (.call Zo [.v 4, .k (.int 5)]), .asg 3 (.bin .Add (.v 3) (.comp 1 [1] (.name 0) .val [.sl (.v 5) (.k .non) (.bin .Mod (.ix (.v 5) (.k (.int 4))) (.k (.int 5)))] [] (.bin .Mod (.v 0) (.v 1))))], .ret (.sl (.v 3) (.k .non) (.bin .Mult (.v 2) (.bin .Sub (.v 1) (.k (.int 1)))))]
noncomputable def Zbr : T.FI := ⟨true, T.Zi C0 3 6 Zb8⟩
abbrev Zeo (e : T.En) : Prop := e.fn "_law_row" 2 ["_law_script", "_law_prime", "_law_room"] Zbr
theorem Zgs (F : T.TI e.K "_law_row" (top 34)) (Z : Txt e C) (g22 : ZaX e) : Zeo e :=
 T.Zac (C := C0) (body := Zb8) (k := 1) Z.Y F ["_law_script", "_law_prime", "_law_room", "_law_row_here", "_law_cell", "_law_xs"] fun _ _ _ _ _ _ _ hr =>
 have hu := hr.units
 (Zc (qa (Zah Z7))
  (Zc (ZbC PassesOwn.never rfl (Zcp _ _) (hw_1 (ZbD rfl)) (ZbB (Za (ZbO ql (Zae Zh) (Zae Zh)))) qt
  (Zc (qa (qf g22 hr (Zd ql (Zd Zh Zf))))
  (Zc (qa (qb ql (Za (ZaM rfl (cS ["_law_x", "_law_prime"]) (ZbB (Za (ZbO ql Zec (Zae (Za (qb (Za (Zr hu ql Zh)) Zh)))))) (fun _ _ _ _ _ => ⟨qt, ZaH, (qb ql ql)⟩)))))
  Zg)))
  (Zc (Zp (ZbO ql Zec (Zae (Za (qb ql (Za (qb ql Zh)))))))
  Zg)))
noncomputable def ZcS : List T.S := [.asg 2 (.call Zo [.call ZA [.v 0, .k (.int 1)], .k (.int 2)]), .asg 3 (.comp 1 [] (.name 0) .val [.v 1] [] (.bf .list [.v 0])), .iff (.cmp .Gt (.bin .Mod (.ix (.v 2) (.k (.int 0))) (.k (.int 3))) (.k (.int 0))) [.ex (.mut .popAt 3 [] [.bin .Mod (.ix (.v 2) (.k (.int 1))) (.bf .len [.v 3])])] [], .asg 4 (.lst []), .asg 5 (.k (.int 0)), .while_ (.cmp .NotEq (.v 3) (.lst [])) [.asg 6 (.call Zo [.bin .Add (.call ZA [.v 0, .bin .Add (.k (.int 2)) (.bin .Mod (.v 5) (.k (.int 28)))]) (.bin .FloorDiv (.v 5) (.k (.int 28))), .k (.int 2)]), .ex (.mut .append 4 [] [.mut .popAt 3 [] [.bin .Mod (.ix (.v 6) (.k (.int 0))) (.bf .len [.v 3])]]), .iff (.cmp .Eq (.bin .Mod (.ix (.v 6) (.k (.int 1))) (.k (.int 4))) (.k (.int 1))) [.ex (.mut .append 4 [] [.bf .list [.ix (.v 4) (.bin .Mod (.bin .FloorDiv (.ix (.v 6) (.k (.int 1))) (.k (.int 4))) (.bf .len [.v 4]))]])] [], .asg 5 (.bin .Add (.v 5) (.k (.int 1)))], .ret (.v 4)]
noncomputable def Zbs : T.FI := ⟨true, T.Zi Cw 2 7 ZcS⟩
abbrev Zdg (e : T.En) : Prop := e.fn "_law_dealt" 2 ["_law_script", "_law_labels"] Zbs
theorem Zfa (F : T.TI e.K "_law_dealt" (top 35)) (Z : Txt e C) (g22 : ZaX e) (g21 : Zc1 e) : Zdg e :=
 T.Zac (C := Cw) (body := ZcS) (k := 1) Z.Y F ["_law_script", "_law_labels", "_law_xs", "_law_left", "_law_found", "_law_turn", "_law_number"] fun _ _ _ _ _ _ _ hr =>
 have hu := hr.units
 (Zc (qa (qf g22 hr (Zd (Za (qf g21 hr (Zd ql (Zd Zh Zf)))) (Zd Zh Zf))))
  (Zc (qs (cS ["_law_label"]) (ZbB ql) (fun _ _ _ _ _ => ⟨qt, ZaH, (qT ZbV Z.list_ ZbY (Zd ql Zf))⟩))
  (Zc (ZO (Zz hu (Za (qb (Za (Zr hu ql Zh)) Zh)) Zh) (Zc (Zao (ZfB qv (Zd (Za (qb (Za (Zr hu ql Zh)) (Za (qB ZaB Z.len_ ZaC (Zd ql Zf))))) Zf)))
  Zg) Zg)
  (Zc (qa (Zah Z7))
  (Zc (qa (ok_k Z4))
  (Zc (Zjt PassesOwn.never (Zz hu ql (Za (Zah Z7))) (Zc (qa (qf g22 hr (Zd (Za (qb (Za (qf g21 hr (Zd ql (Zd (Za (qb Zh (Za (qb ql Zh)))) Zf)))) (Za (qb ql Zh)))) (Zd Zh Zf))))
  (Zc (Zao (Zbc qv (Zx (ZfB qv (Zd (Za (qb (Za (Zr hu ql Zh)) (Za (qB ZaB Z.len_ ZaC (Zd ql Zf))))) Zf)) Z7)))
  (Zc (ZO (Zz hu (Za (qb (Za (Zr hu ql Zh)) Zh)) Zh) (Zc (Zao (Zbc qv (Zx (qT ZbV Z.list_ ZbY (Zd (Za (Zr hu ql (Za (qb (Za (qb (Za (Zr hu ql Zh)) Zh)) (Za (qB ZaB Z.len_ ZaC (Zd ql Zf))))))) Zf)) Z7)))
  Zg) Zg)
  (Zc (qa (qb ql Zh))
  Zg)))))
  (Zc (Zp (ZbA qv))
  Zg)))))))
noncomputable def Zep (C : Addr) : List T.S := [.unp [1, 2] (.call ZaU [.v 0]), .asg 3 (.call Zbr [.v 0, .v 1, .v 2]), .asg 4 (.meth C "parted" (ZZ C) (.new C (ZJ C) [.v 1, .v 2]) [.bf .list [.v 3]]), .asg 5 (.call Zbs [.v 0, .v 4]), .asg 6 (.comp 1 [] (.name 0) .val [.v 5] [] (.bf .list [.v 0])), .asg 7 (.new C (ZJ C) [.v 1, .v 2]), .asg 8 (.new C (ZJ C) [.ix (.lst [.k (.int 7), .k (.int 11)]) (.bf .int [.cmp .Eq (.v 1) (.k (.int 7))]), .k (.int 1)]), .iff (.cmp .NotEq (.meth C "gathered" (Z2 C) (.v 8) [.meth C "parted" (ZZ C) (.v 8) [.lst [.k (.int 1), .k (.int 2)]]]) (.lst [.k (.int 1), .k (.int 2)])) [.ret (.k (.bl false))] [], .asg 9 (.meth C "gathered" (Z2 C) (.v 7) [.v 6]), .asg 10 (.meth C "all_labels" (Zq C) (.v 7) [.v 6]), .iff (.or (.nt (.call Zad [.v 9, .v 3])) (.or (.nt (.bor (.call Zad [.v 10, .v 4]))) (.cmp .NotEq (.v 6) (.v 5)))) [.ret (.k (.bl false))] [], .ex (.mut .append 9 [] [.k (.int 1)]), .sub 10 [.k (.int 0)] (.k (.int 2)) (.bin .Add (.bor (.ix (.ix (.v 10) (.k (.int 0))) (.k (.int 2)))) (.k (.int 1))), .ex (.mut .pop 10 [] []), .iff (.cmp .NotEq (.meth C "gathered" (Z2 C) (.v 8) [.meth C "parted" (ZZ C) (.v 8) [.lst [.k (.int 2), .k (.int 1), .k (.int 0)]]]) (.lst [.k (.int 2), .k (.int 1), .k (.int 0)])) [.ret (.k (.bl false))] [], .ret (.and (.call Zad [.meth C "all_labels" (Zq C) (.v 7) [.v 6], .v 4]) (.call Zad [.meth C "gathered" (Z2 C) (.v 7) [.v 6], .v 3]))]
noncomputable def Zfi (C : Addr) : T.FI := ⟨true, T.Zi (CK C) 1 11 (Zep C)⟩
theorem Zn8 {f : Addr} {fd : FuncData} (F : Fun e.K "law" "law" (top 36) f fd) (Z : Txt e C) (g24 : ZdA e) (g25 : Zeo e) (g15 : ZcR e C) (g12 : Zct e C) (g26 : Zdg e) (g20 : Zcv e C) (g19 : ZaP e C) (g23 : Zgr e) : FnOk e.P e.w e.K e.mg e.base CX0 9 f fd ["_law_script"] (T.spF e.K (Zfi C).run) :=
 T.Zn4 (C := (CK C)) (body := (Zep C)) (k := 8) F ["_law_script", "_law_prime", "_law_room", "_law_row_here", "_law_labels", "_law_dealt_here", "_law_handed", "_law_roll_here", "_law_other", "_law_found", "_law_told"] fun _ _ _ _ _ _ _ hr =>
 have hu := hr.units
 (Zc (Zm6 rfl (Za (qf g24 hr (Zd ql Zf))) (qg (qg ZcH)))
  (Zc (qa (qf g25 hr (Zd ql (Zd ql (Zd ql Zf)))))
  (Zc (qa (ZM g15 hr (Za (qn g12 hr (Zd ql (Zd ql Zf)))) (Zd (Za (qT ZbV Z.list_ ZbY (Zd ql Zf))) Zf)))
  (Zc (qa (qf g26 hr (Zd ql (Zd ql Zf))))
  (Zc (qs (cS ["_law_label"]) (ZbB ql) (fun _ _ _ _ _ => ⟨qt, ZaH, (qT ZbV Z.list_ ZbY (Zd ql Zf))⟩))
  (Zc (qa (qn g12 hr (Zd ql (Zd ql Zf))))
  (Zc (qa (qn g12 hr (Zd (Za (Zr hu (Za (Zah (Zx (ok_k Z4) (Zx (ok_k Z4) Z7)))) (Za (qT Zm1 Z.int_ ZmB (Zd (Za (Zbz hu ql Zh)) Zf))))) (Zd Zh Zf))))
  (Zc (ZO (Zz hu (Za (ZM g20 hr ql (Zd (Za (ZM g15 hr ql (Zd (Za (Zah (Zx (ok_k Z4) (Zx (ok_k Z4) Z7)))) Zf))) Zf))) (Za (Zah (Zx (ok_k Z4) (Zx (ok_k Z4) Z7))))) (Zc (Zp (ok_k Zcj))
  Zg) Zg)
  (Zc (qa (ZM g20 hr ql (Zd ql Zf)))
  (Zc (qa (ZM g19 hr ql (Zd ql Zf)))
  (Zc (ZO (PW.pt (Zca (Za2 (Zas (Za (qf g23 hr (Zd ql (Zd ql Zf)))))) (Zca (Za2 (Zas (Za (Zej (qf g23 hr (Zd ql (Zd ql Zf))))))) (Zc4 (Zz hu ql ql))))) (Zc (Zp (ok_k Zcj))
  Zg) Zg)
  (Zc (Zao (Zbc qv (Zx (ok_k Z4) Z7)))
  (Zc (Zlq qv Z4 Z4 (qb (Za (Zej (Zr hu (Za (Zr hu ql Zh)) Zh))) Zh))
  (Zc (Zao (Znz qv))
  (Zc (ZO (Zz hu (Za (ZM g20 hr ql (Zd (Za (ZM g15 hr ql (Zd (Za (Zah (Zx (ok_k Z4) (Zx (ok_k Z4) (Zx (ok_k Z4) Z7))))) Zf))) Zf))) (Za (Zah (Zx (ok_k Z4) (Zx (ok_k Z4) (Zx (ok_k Z4) Z7)))))) (Zc (Zp (ok_k Zcj))
  Zg) Zg)
  (Zc (Zp (Zbb (Za (qf g23 hr (Zd (Za (ZM g19 hr ql (Zd ql Zf))) (Zd ql Zf)))) (Zcb (qf g23 hr (Zd (Za (ZM g20 hr ql (Zd ql Zf))) (Zd ql Zf))))))
  Zg))))))))))))))))
theorem Zn9 {l : PySem.W.OpenLaw} {w : World} {K : Fg} {h : Heap} {mg : Str -> Option Value} {fa C : Addr} (X : K.In h) (G : h.Ns mainGlobals mg) (hfa : mg "law" = some (.ref fa))
 (cC : T.CI K "Roll" C)
 (nF0 : PySem.W.findIn K (.ref C) "size" = some none)
 (nF1 : PySem.W.findIn K (.ref C) "room" = some none)
 (d0 : T.TI K "is_whole" (top 10))
 (d1 : T.TI K "is_symbol" (top 11))
 (d2 : T.TI K "check_symbols" (top 12))
 (d3 : T.TI K "plain_sum" (top 15))
 (d4 : T.TI K "weighed_sum" (top 16))
 (d5 : T.TI K "is_good" (top 17))
 (d6 : T.TI K "quotient" (top 18))
 (d7 : T.TI K "with_two_filled" (top 19))
 (d8 : T.TI K "labelled" (top 20))
 (d9 : T.TI K "is_roll" (top 25))
 (d10 : T.TI K "pieces_of" (top 26))
 (d11 : T.TI K "labels_by_number" (top 27))
 (d12 : T.MI K C "__init__" "Roll.__init__" (Z6 (top 28) 0))
 (d13 : T.MI K C "piece_label" "Roll.piece_label" (Z6 (top 28) 2))
 (d14 : T.MI K C "balance" "Roll.balance" (Z6 (top 28) 3))
 (d15 : T.MI K C "parted" "Roll.parted" (Z6 (top 28) 1))
 (d16 : T.MI K C "is_label" "Roll.is_label" (Z6 (top 28) 4))
 (d17 : T.MI K C "check_labels" "Roll.check_labels" (Z6 (top 28) 5))
 (d18 : T.MI K C "completed" "Roll.completed" (Z6 (top 28) 6))
 (d19 : T.MI K C "all_labels" "Roll.all_labels" (Z6 (top 28) 7))
 (d20 : T.MI K C "gathered" "Roll.gathered" (Z6 (top 28) 8))
 (d21 : T.TI K "_law_here" (top 30))
 (d22 : T.TI K "_law_shaken" (top 31))
 (d23 : T.TI K "_law_same" (top 32))
 (d24 : T.TI K "_law_roll" (top 33))
 (d25 : T.TI K "_law_row" (top 34))
 (d26 : T.TI K "_law_dealt" (top 35))
 (d27 : T.TI K "law" (top 36))
 (z0 : T.NI K "all")
 (z1 : T.NI K "any")
 (z2 : T.NI K "bool")
 (z3 : T.NI K "enumerate")
 (z4 : T.NI K "int")
 (z5 : T.NI K "isinstance")
 (z6 : T.NI K "len")
 (z7 : T.NI K "list")
 (z8 : T.NI K "max")
 (z9 : T.NI K "range")
 (z10 : T.NI K "sum")
 (z11 : T.NI K "zip")
 {tc0 : Tok} (zc0 : PySem.W.nsIn K mainGlobals "BESIDES" = some (some (.int 5 tc0)))
 {tc1 : Tok} (zc1 : PySem.W.nsIn K mainGlobals "CHECK_SYMBOLS" = some (some (.int 2 tc1)))
 {tc2 : Tok} (zc2 : PySem.W.nsIn K mainGlobals "LENGTH_AT" = some (some (.int 2 tc2)))
 {tc3 : Tok} (zc3 : PySem.W.nsIn K mainGlobals "PIECE_AT" = some (some (.int 3 tc3)))
 {at0 : Addr} {dt0 : Option Addr} {it0 : Array Value} {nt0 : Nat} {st0 : Array (Option Value)} (zt0 : PySem.W.nsIn K mainGlobals "PRIMES" = some (some (.ref at0))) (zl0 : K.lookup at0 = some ⟨.type "tuple", dt0, .seq it0 nt0, st0⟩) (zz0 : it0.size <= 1000) (zi0 : it0.toList.map T.unV = (([5, 7, 11, 13, 17, 19, 23, 29, 31, 37, 41, 43, 47] : List Int).map V.int).map some)
 : ∃ fd : FuncData, (∀ (s : Shared) (v : Value), BindsTo s fd ⟨[v], []⟩ [("_law_script", v)]) /\ ∀ base : Heap, K.In base -> base.Ns mainGlobals mg -> FnOk l.prog w K mg base CX0 9 fa fd ["_law_script"] (T.spF K (Zfi (Zek K)).run) := by
 have hC : Zek K = C := by unfold Zek; rw [cC.at_]
 rw [hC]
 obtain ⟨f, fd, x, F⟩ := d27
 cases hfa.symm.trans (PySem.W.mg_of X G x)
 refine ⟨fd, fun s v => ?_, fun base _ _ => ?_⟩
 . obtain ⟨oc, od, kV, doc, pm, an, cdv, ct, osl, rfl, lk, hcd⟩ := F.ex
   exact .of_eq rfl
 have m : ∀ {x : Str}, T.NI K x -> mg x = none := PySem.W.mg_none_of X G
 have Z : Txt ⟨l.prog, w, K, mg, base⟩ C := ⟨⟨h, X, G⟩, m z0, m z1, m z2, m z3, m z4, m z5, m z6, m z7, m z8, m z9, m z10, m z11, ⟨tc0, PySem.W.mg_of X G zc0⟩, ⟨tc1, PySem.W.mg_of X G zc1⟩, ⟨tc2, PySem.W.mg_of X G zc2⟩, ⟨tc3, PySem.W.mg_of X G zc3⟩, T.Zj3 X G zt0 zl0 (by rw [T.szl]; omega) zi0, cC, nF0, nF1⟩
 have g0 := Zgo d0 Z
 have g1 := ZfJ d1 Z g0
 have g2 := ZdK d2 Z g1
 have g3 := ZfK d3 Z
 have g4 := Ze5 d4 Z
 have g5 := Zh1 d5 Z g4 g3
 have g6 := Zgp d6 Z
 have g7 := Zde d7 Z g3 g4 g6
 have g8 := Zgq d8 Z g2 g7
 have g9 := Zh2 d9 Z g0
 have g10 := ZfL d10 Z
 have g11 := ZcT d11 Z
 have g12 := ZdL d12 Z g9
 have g13 := ZcU d13 Z g8
 have g14 := Zen d14 Z g8
 have g15 := Ze6 d15 Z g2 g10 g13 g14
 have g16 := ZdM d16 Z g5 g1
 have g17 := ZcN d17 Z g16
 have g18 := Zd3 d18 Z g11 g14
 have g19 := Zdf d19 Z g17 g18
 have g20 := ZdN d20 Z g19
 have g21 := ZfM d21 Z
 have g22 := Ze7 d22 Z
 have g23 := ZfN d23 Z 3
 have g24 := ZfO d24 Z g22 g21
 have g25 := Zgs d25 Z g22
 have g26 := Zfa d26 Z g22 g21
 exact Zn8 F Z g24 g25 g15 g12 g26 g20 g19 g23
end
theorem runB {f : FI} {C : T.Ctx} {n N : Nat} {b : List T.S} {ds : List D} {R : Rs (D × List D)} (e : f.run = Zi C n N b) (hl : ds.length = n) (h : ZdZ n (exs { C with lock := fun i => decide (i < n) } b (ds ++ List.replicate (N - n) .hole)) = R) : f.run ds = R := by rw [e, runA hl]; exact h
variable (lk : Nat -> Bool) (fok : Addr -> Str -> Bool) (fuel : Nat)
local macro_rules | `(tactic| walk_at "r") => `(tactic| (refine runB rfl rfl ?_; show ZdZ _ (exs _ (_ :: _) _) = _; simp only [List.replicate, Nat.reduceSub]))
local macro_rules | `(tactic| walk_at "ev") => `(tactic| simp only [bndA, Zle, retA, ZoR, Zlf, ZoS, ZoT, ZmG, ZmH, ZoU, ZmI, ZoV, ZoW, Zlg, Zlh, valA, ZmJ, ZoX, movA, ZmK, ZoY, ZoZ, ZmL, Zpa, Zpb, Zpc, ZmM, ZmN, Zpd, Zpe, ZmO, ZmP, Zpf, ZmQ, ZmR, ZmS, ZmT, Zpg, ZmU, exs1, exs0, Zlj, Zlk, Zli, e_k, o_k, e_g, o_g, Zph, Zpi, Zpj, Zpk, Zpl, Zpm, Zpn, Ze4, e_nt, t_nt, o_nt, Zpo, t_or, e_ix, o_ix, e_sl, o_sl, Zpp, Zpq, Zpr, Zps, Zpt, e_kl, o_kl, ZmV, ZmW, ZmX, e_bf, t_bf, o_bf, ZmY, ZmZ, Zna, Zpu, Zpv, Zln, Znb, e_v, t_v, Zjy, Zp2, Zp3, evs0, evs1, Zp4, Zp5, Zp6, Zp7, Zp8, Zne, x_ex, Zp9, ZpA, Znf, ZdH, ZpB, r_k, ZpC, ZpD, r_ix, r_sl, ZpE, Zng, r_bf, Znh, ZpF, ZpG, c_lt, c_le, ZpH, ZpI, ZpJ, Zni, Znj, Znc, ZpK, ZpL, ZpM, ZpN, ZpO, ZpP, ZpQ, Znk, Znl, Znm, Znn, Zno, Znp, intp, sl_l, sl_f, ZpR, ZpS, ZpT, Znq, asgn, Znr, Zns, Znt, Znu, ZpU, ZpV, Znv, Znw, Znx, Zny, it_l, modA, ZpW, chkA, ZpX, ix_l, shrL, shr, walked, C0, scr, List.getElem?_cons_zero, List.getElem?_cons_succ, List.set_cons_zero, List.set_cons_succ, List.length_cons, List.length_nil, Option.map_some, Option.bind_some, Option.toList_none, Option.toList_some, List.nil_append, List.append_nil, List.cons_append, List.map_cons, List.map_nil, if_true, if_false, Bool.false_eq_true, Bool.and_true, Bool.true_and, Bool.or_true, Bool.true_or, Bool.or_false, Bool.false_or, Bool.not_false, Bool.not_true, decide_true, decide_false, Nat.reduceLT, Nat.reduceAdd, Nat.reduceLeDiff, beq_self_eq_true, Nat.reduceBEq, Bool.and_false, Bool.false_and, reduceCtorEq, ite_true, ite_false, Zpy, Zpz, Zp0, Zp1, Znd, Zpx, Zpw, ix_d, Zn6, Zn7, Zlw, Zlx, Cw])
local macro_rules | `(tactic| simp_all [$xs,*]) => `(tactic| repeat (first | walk_at "ev" | simp only [$xs,*]))
noncomputable abbrev I (i : Int) : D := .sc (.int i)
noncomputable abbrev Ls (o : Bool) (xs : List Int) : D := .node .lst o (dI xs)
noncomputable def wts : Int -> List Int -> List Int
 | _, [] => []
 | c, x :: xs => c * x :: wts (c + 1) xs
theorem Zly (c : Int) (xs : List Int) : (wts c xs).length = xs.length := by
 induction xs generalizing c with
 | nil => rfl
 | cons x xs ih => rw [wts, List.length_cons, List.length_cons, ih]
theorem Zdh (p : Int) (xs : List Int) (o : Bool) (hp : 0 < p) : Zaw.run [I p, Ls o xs] = .ok (I (xs.sum % p), [I p, Ls o xs]) := by
 show Zi C0 2 2 Zbm [I p, Ls o xs] = _
 rw [runA (show [I p, Ls o xs].length = 2 from rfl)]
 unfold Zbm
 simp only [List.replicate, Nat.reduceSub]
 cases o <;> (simp_all [Zl, Zb0, ZI _ _ hp]) <;> rfl
theorem wloop (h0 : lk 0 = false) (h1 : lk 1 = false) : ∀ (xs : List Int) (c : Int) (acc : List Int) (a b : D), 0 <= c -> c + xs.length < 2 ^ 64 -> ∃ a' b', Z9 (asgT lk (.tup [0, 1])) (tsts ⟨lk, fok, fuel⟩ []) (evb ⟨lk, fok, fuel⟩ (.bin .Mult (.v 0) (.v 1))).1 (ZE c (dI xs)) (dI acc) [a, b] = .ok (dI (acc ++ wts c xs), [a', b']) := by
 intro xs
 induction xs with
 | nil => exact fun c acc a b _ _ => ⟨a, b, by rw [wts, List.append_nil]; rfl⟩
 | cons x xs ih =>
  intro c acc a b hc hl
  rw [List.length_cons] at hl
  obtain ⟨a', b', ih⟩ := ih (c + 1) (acc ++ [c * x]) (I c) (I x) (by omega) (by omega)
  refine ⟨a', b', ?_⟩
  have hm : binW .Mult (.sc (.int c)) (.sc (.int x)) = some (.sc (.int (c * x))) := ZcJ c x (.inl ⟨by omega, by omega⟩)
  rw [ZN, ZE, ZaD]
  rw [Zaa] at ih
  simp_all [h0, h1, Zcf, hm]
  rw [wts]
  have e : acc ++ c * x :: wts (c + 1) xs = acc ++ [c * x] ++ wts (c + 1) xs := by simp
  rw [e]
  exact ih
theorem ZdB (p : Int) (xs : List Int) (o : Bool) (hp : 0 < p) (hl : xs.length <= 1000) : Zap.run [I p, Ls o xs] = .ok (I ((wts 1 xs).sum % p), [I p, Ls o xs]) := by
 show Zi C0 2 2 ZaN [I p, Ls o xs] = _
 rw [runA (show [I p, Ls o xs].length = 2 from rfl)]
 unfold ZaN
 simp only [List.replicate, Nat.reduceSub]
 have hz : (dI ([] ++ wts 1 xs)).length <= sizeLine := by rw [Zv, List.nil_append, Zly, szl]; omega
 obtain ⟨a', b', hw⟩ := wloop (fun i => decide (2 <= i)) (fun _ _ => false) 0 rfl rfl xs 1 [] .hole .hole (by decide) (by omega)
 replace hw : ZF (fun _ _ => false) 0 2 (.tup [0, 1]) [] (.bin .Mult (.v 0) (.v 1)) (ZE 1 (dI xs)) [] [.hole, .hole] = _ := hw
 cases o
 . simp_all [Zl, it_e _ 1 (by decide)]
   rw [ZQ (js := []) (caps := []) rfl hw hz]
   simp_all [ZaS, Zb0, ZI _ _ hp]
   rfl
 . simp_all [Zl, it_e _ 1 (by decide)]
   rw [ZQ (js := []) (caps := []) rfl hw hz]
   simp_all [ZaS, Zb0, ZI _ _ hp]
   rfl
theorem ZgI (c : Int) (xs ys : List Int) : wts c (xs ++ ys) = wts c xs ++ wts (c + xs.length) ys := by
 induction xs generalizing c with
 | nil => simp [wts]
 | cons x xs ih =>
  rw [List.cons_append, wts, wts, ih, List.cons_append, List.length_cons]
  have : c + 1 + (xs.length : Int) = c + ((xs.length + 1 : Nat) : Int) := by omega
  rw [this]
noncomputable def other (p : Int) (xs : List Int) (l : Int) : Int := (0 - xs.sum - l) % p
theorem Zkm (i : Int) : tyW .int (.sc (.int i)) = some true := (rfl)
theorem Zkn (i : Int) : tyW .bool (.sc (.int i)) = some false := (rfl)
theorem Zko (w : W) : bfW (.isi .int) [w] = (tyW .int w).map fun b => .sc (.bl b) := (rfl)
theorem Zd1 (w : W) : bfW (.isi .list) [w] = (tyW .list w).map fun b => .sc (.bl b) := (rfl)
theorem Zeq (ds : List D) : tyW .list (.nd .lst ds) = some true := (rfl)
theorem Zdi (x : Int) : Za5.run [I x] = .ok (.sc (.bl true), [I x]) := by
 show Zi C0 1 1 Zb5 [I x] = _
 rw [runA (show [I x].length = 1 from rfl)]
 unfold Zb5
 simp only [List.replicate, Nat.reduceSub]
 simp_all [Zko, Zkl, Zkm, Zkn]
 rfl
theorem ZgJ (p x : Int) (h0 : 0 <= x) (h1 : x < p) : ZG.run [I p, I x] = .ok (.sc (.bl true), [I p, I x]) := by
 show Zi C0 2 2 Zbk [I p, I x] = _
 rw [runA (show [I p, I x].length = 2 from rfl)]
 unfold Zbk
 simp only [List.replicate, Nat.reduceSub]
 have l1 : Za5.lend = true := rfl
 simp_all [l1, Zdi, Ze4, h0, h1]
 rfl
theorem Zh3 (h2 : lk 2 = false) (h3 : lk 3 = false) (p : Int) (X : D) : ∀ (xs : List Int) (c : Int) (a b : D), (∀ x ∈ xs, 0 <= x /\ x < p) -> ∃ a' b',
 forL (asgT lk (.tup [2, 3])) (exs ⟨lk, fok, fuel⟩ [.iff (.nt (.call ZG [.v 0, .v 3])) [.raise (.k .non)] []]) (ZE c (dI xs)) [I p, X, a, b] = .ok (.nx, [I p, X, a', b']) := by
 intro xs
 induction xs with
 | nil => exact fun c a b _ => ⟨a, b, rfl⟩
 | cons x xs ih =>
  intro c a b hx
  obtain ⟨a', b', ih⟩ := ih (c + 1) (I c) (I x) fun y hy => hx y (List.mem_cons_of_mem _ hy)
  refine ⟨a', b', ?_⟩
  rw [<- ih, ZN, ZE, ZbP]
  have hr := ZgJ p x (hx x List.mem_cons_self).1 (hx x List.mem_cons_self).2
  have l1 : ZG.lend = true := rfl
  simp_all [h2, h3, Zcf, l1, hr]
theorem ZeR (p : Int) (xs : List Int) (o : Bool) (hx : ∀ x ∈ xs, 0 <= x /\ x < p) : ZY.run [I p, Ls o xs] = .ok (.sc .non, [I p, Ls o xs]) := by
 show Zi C0 2 4 Za6 [I p, Ls o xs] = _
 rw [runA (show [I p, Ls o xs].length = 2 from rfl)]
 unfold Za6
 simp only [List.replicate, Nat.reduceSub]
 have hs := fun X => Zh3 (fun j => decide (j < 2) || walked [.v 1, .k (.int 0)] j) (fun _ _ => false) 0 rfl rfl p X xs 0 .hole .hole hx
 simp only [walked, Bool.or_false] at hs
 cases o
 . obtain ⟨a', b', hs⟩ := hs (Ls false xs)
   simp_all [Zl, it_e _ 0 (by decide), hs]
   rfl
 . obtain ⟨a', b', hs⟩ := hs .hole
   simp_all [Zl, it_e _ 0 (by decide), hs]
   rfl
theorem Zj7 (h0 : lk 0 = false) (p q : Int) (hp : 0 < p) : ∀ (ss acc : List Int) (a : D), ∃ a',
 Z9 (asgT lk (.name 0)) (tsts ⟨lk, fok, fuel⟩ [.cmp .Eq (.bin .Mod (.bin .Mult (.v 0) (.v 3)) (.v 2)) (.v 1)]) (evb ⟨lk, fok, fuel⟩ (.v 0)).1 (dI ss) (dI acc) [a, I q, I p, I 1] = .ok (dI (acc ++ ss.filter fun s => decide (s % p = q)), [a', I q, I p, I 1]) := by
 intro ss
 induction ss with
 | nil => exact fun acc a => ⟨a, by rw [List.filter_nil, List.append_nil]; rfl⟩
 | cons s ss ih =>
  intro acc a
  have hm : binW .Mult (.sc (.int s)) (.sc (.int 1)) = some (.sc (.int (s * 1))) := ZcJ _ _ (.inr (by decide))
  rw [ZN, ZaD]
  by_cases h : s % p = q
  . obtain ⟨a', ih⟩ := ih (acc ++ [s]) (I s)
    refine ⟨a', ?_⟩
    have e : acc ++ (s :: ss).filter (fun s => decide (s % p = q)) = acc ++ [s] ++ ss.filter (fun s => decide (s % p = q)) := by
     rw [List.filter_cons_of_pos (by simpa using h)]
     simp
    rw [e, <- ih, Zaa]
    simp_all [h0, hm, Int.mul_one, ZI _ _ hp, h, V.int.injEq]
  . obtain ⟨a', ih⟩ := ih acc (I s)
    refine ⟨a', ?_⟩
    rw [List.filter_cons_of_neg (by simpa using h), <- ih]
    simp_all [h0, hm, Int.mul_one, ZI _ _ hp, h, V.int.injEq]
theorem Zlz (p q : Int) (hp : 0 < p) (hp2 : p <= 1000) (h0 : 0 <= q) (h1 : q < p) : ZbQ.run [I p, I q, I 1] = .ok (I q, [I p, I q, I 1]) := by
 show Zi C0 3 3 Zb6 [I p, I q, I 1] = _
 rw [runA (show [I p, I q, I 1].length = 3 from rfl)]
 unfold Zb6
 simp only [List.replicate, Nat.reduceSub]
 obtain ⟨a', hc⟩ := Zj7 (fun i => decide (1 <= i)) (fun _ _ => false) 0 rfl p q hp (rngI 0 p.toNat) [] .hole
 rw [List.nil_append] at hc
 have hall : ∀ s ∈ (rngI 0 p.toNat).filter (fun s => decide (s % p = q)), s = q := fun s hs => by
  rw [List.mem_filter, Zai] at hs
  obtain ⟨⟨b1, b2⟩, b3⟩ := hs
  rw [decide_eq_true_eq, Int.emod_eq_of_lt b1 (by omega)] at b3
  exact b3
 have hin : q ∈ (rngI 0 p.toNat).filter (fun s => decide (s % p = q)) := by
  rw [List.mem_filter, Zai, decide_eq_true_eq, Int.emod_eq_of_lt h0 h1]
  exact ⟨⟨h0, by omega⟩, rfl⟩
 have hlen : ((rngI 0 p.toNat).filter (fun s => decide (s % p = q))).length <= p.toNat := by
  have := List.length_filter_le (fun s => decide (s % p = q)) (rngI 0 p.toNat)
  rwa [Z5] at this
 generalize (rngI 0 p.toNat).filter (fun s => decide (s % p = q)) = L at hc hall hin hlen
 cases L with
 | nil => simp at hin
 | cons s L =>
  obtain rfl := hall s List.mem_cons_self
  replace hc : ZF (fun _ _ => false) 0 1 (.name 0) [.cmp .Eq (.bin .Mod (.bin .Mult (.v 0) (.v 3)) (.v 2)) (.v 1)] (.v 0) (dI (rngI 0 p.toNat)) [] [.hole, I s, I p, I 1] = _ := hc
  have hm : ZW 1 [1, 0, 2] (ZF (fun _ _ => false) 0 1 (.name 0) [.cmp .Eq (.bin .Mod (.bin .Mult (.v 0) (.v 3)) (.v 2)) (.v 1)] (.v 0) (dI (rngI 0 p.toNat)) []) [I p, I s, I 1] = .ok (Ls true (s :: L), [I p, I s, I 1]) := by
   rw [ZQ (js := [1, 0, 2]) (caps := [I s, I p, I 1]) (δ1 := [.hole, .hole, .hole]) rfl hc (by rw [Zv, szl]; omega)]
   rfl
  have hr := Zfg p (by omega)
  have hi := ixI (s :: L) 0 (by decide) (by rw [List.length_cons]; omega)
  have hg : (s :: L).getD (0 : Int).toNat 0 = s := rfl
  rw [hg] at hi
  generalize s :: L = M at hm hi
  simp_all [hr, hm, hi]
  rfl
noncomputable def lst2 (p : Int) (xs : List Int) : Int := (((xs.length : Int) + 1) * xs.sum - (wts 1 xs).sum) % p
noncomputable def lab (p : Int) (xs : List Int) : List Int := xs ++ [other p xs (lst2 p xs), lst2 p xs]
theorem Zqo (xs : List Int) : (xs ++ [0, 0]).sum = xs.sum := by simp
theorem Zqp (xs : List Int) : (wts 1 (xs ++ [0, 0])).sum = (wts 1 xs).sum := by rw [ZgI]; simp [wts]
theorem Zl0 (p : Int) (xs : List Int) (_o : Bool) (hp : 0 < p) (hp2 : p <= 1000) (hl : xs.length <= 500) : Zab.run [I p, Ls true (xs ++ [0, 0]), I xs.length, I ((xs.length : Int) + 1)] = .ok (Ls true (lab p xs), [I p, Ls true (xs ++ [0, 0]), I xs.length, I ((xs.length : Int) + 1)]) := by
 rw [show Zab.run = Zi C0 4 7 Zat from rfl]
 rw [runA (show [I p, Ls true (xs ++ [0, 0]), I xs.length, I ((xs.length : Int) + 1)].length = 4 from rfl)]
 unfold Zat
 simp only [List.replicate, Nat.reduceSub]
 have hlen : (xs ++ [(0 : Int), 0]).length <= 1000 := by rw [List.length_append]; show xs.length + 2 <= _; omega
 have l1 : Zaw.lend = true := rfl
 have l2 : Zap.lend = true := rfl
 have l3 : ZbQ.lend = true := rfl
 have r1 := fun o => Zdh p (xs ++ [0, 0]) o hp
 have r2 := fun o => ZdB p (xs ++ [0, 0]) o hp hlen
 have r4 := fun o => Zdh p (xs ++ [0, lst2 p xs]) o hp
 rw [Zqo] at r1
 rw [Zqp] at r2
 have hq : (((xs.length : Int) + 1) * (xs.sum % p) - (wts 1 xs).sum % p) % p = lst2 p xs := by
  unfold lst2
  rw [Int.sub_emod, Int.mul_emod, Int.emod_emod, Int.emod_emod, <- Int.mul_emod, <- Int.sub_emod]
 have r3 := Zlz p (lst2 p xs) hp hp2 (Int.emod_nonneg _ (by omega)) (Int.emod_lt_of_pos _ hp)
 have hd : (xs.length : Int) + 1 - xs.length = 1 := by omega
 have ho : -((xs ++ [0, lst2 p xs]).sum % p) % p = other p xs (lst2 p xs) := by
  unfold other
  rw [<- Int.zero_sub, Int.sub_emod, Int.emod_emod, <- Int.sub_emod]
  congr 1
  simp only [List.sum_append, List.sum_cons, List.sum_nil]
  omega
 have hm : ∀ u : Int, binW .Mult (.sc (.int ((xs.length : Int) + 1))) (.sc (.int u)) = some (.sc (.int (((xs.length : Int) + 1) * u))) := fun u => ZcJ _ _ (.inl (by omega))
 have hi1 : ixN' (dI (xs ++ [(0 : Int), 0])).length ((xs.length : Int) + 1) = some (xs.length + 1) := by
  have := Zbx (dI (xs ++ [(0 : Int), 0])).length (xs.length + 1) (by rw [Zv, List.length_append]; show xs.length + 1 < xs.length + 2; omega)
  rwa [show ((xs.length + 1 : Nat) : Int) = (xs.length : Int) + 1 by omega] at this
 have hi2 : ixN' (dI (xs ++ [0, lst2 p xs])).length (xs.length : Int) = some xs.length := Zbx _ _ (by rw [Zv, List.length_append]; show xs.length < xs.length + 2; omega)
 have s1 : ∀ (δ : List D) (v : Int), mdR 6 δ (Zbj (.sc (.int ((xs.length : Int) + 1))) (.sc (.int v))) (some (.node .lst true (dI (xs ++ [0, 0])))) = .ok (.sc .non, δ.set 6 (Ls true (xs ++ [0, v]))) := fun δ v => by
  rw [Zf9 6 δ _ _ _ _ hi1]
  have : (dI (xs ++ [0, 0])).set (xs.length + 1) (.sc (.int v)) = dI (xs ++ [0, v]) := by
   rw [Zaa, List.set_append_right _ _ (by rw [Zv]; omega), Zv, Zaa, show xs.length + 1 - xs.length = 1 by omega]
   rfl
  rw [this]
 have s2 : ∀ (δ : List D) (v : Int), mdR 6 δ (Zbj (.sc (.int (xs.length : Int))) (.sc (.int v))) (some (.node .lst true (dI (xs ++ [0, lst2 p xs])))) = .ok (.sc .non, δ.set 6 (Ls true (xs ++ [v, lst2 p xs]))) := fun δ v => by
  rw [Zf9 6 δ _ _ _ _ hi2]
  have : (dI (xs ++ [0, lst2 p xs])).set xs.length (.sc (.int v)) = dI (xs ++ [v, lst2 p xs]) := by
   rw [Zaa, List.set_append_right _ _ (by rw [Zv]; omega), Zv, Zaa, show xs.length - xs.length = 0 by omega]
   rfl
  rw [this]
 (simp_all [Zl, l1, l2, l3, r1, r2, r3, r4, hm, ZI _ _ hp, hq, hd, ho, s1, s2]) <;> rfl
theorem Zdj (p : Int) (xs : List Int) (_o : Bool) (hp : 0 < p) (hp2 : p <= 1000) (hl : (xs.length : Int) <= p - 2) (hl2 : xs.length <= 500) (hx : ∀ x ∈ xs, 0 <= x /\ x < p) : Za7.run [I p, Ls true xs] = .ok (Ls true (lab p xs), [I p, Ls true xs]) := by
 rw [show Za7.run = Zi C0 2 3 Zb7 from rfl]
 rw [runA (show [I p, Ls true xs].length = 2 from rfl)]
 unfold Zb7
 simp only [List.replicate, Nat.reduceSub]
 have l1 : ZY.lend = true := rfl
 have l2 : Zab.lend = true := rfl
 have r1 := fun o => ZeR p xs o hx
 have r2 := Zl0 p xs true hp hp2 hl2
 have hz : (2 : Nat) <= sizeLine := by rw [szl]; decide
 have hn : ∀ u v : D, newL [u, v] = some (.node .lst true [u, v]) := fun u v => ZX _ (by simpa using hz)
 have hcat : binW .Add (.nd .lst (dI xs)) (.nd .lst [.sc (.int 0), .sc (.int 0)]) = some (Ls true (xs ++ [0, 0])) := by
  rw [Zff (dI xs) [.sc (.int 0), .sc (.int 0)] (by rw [List.length_append, Zv, szl]; show xs.length + 2 <= _; omega), Ls, Zaa]
  rfl
 have hlt : ¬ p - 2 < (xs.length : Int) := by omega
 have hdl := Zv xs
 (simp_all [Zl, l1, l2, r1, r2, hn, hcat, hdl, hlt]) <;> rfl
theorem Zl1 (p : Int) (hp : 0 < p) (xs : List Int) (hx : ∀ x ∈ xs, 0 <= x /\ x < p) : ∀ y ∈ lab p xs, 0 <= y /\ y < p := fun y hy => by
 rcases List.mem_append.mp hy with h | h
 . exact hx y h
 . simp only [List.mem_cons, List.not_mem_nil, or_false] at h
   rcases h with rfl | rfl
   . exact ⟨Int.emod_nonneg _ (by omega), Int.emod_lt_of_pos _ hp⟩
   . exact ⟨Int.emod_nonneg _ (by omega), Int.emod_lt_of_pos _ hp⟩
theorem Ze8 (p : Int) (xs : List Int) : (lab p xs).length = xs.length + 2 := by unfold lab; rw [List.length_append]; rfl
theorem Zh4 (xs ys : List Int) : ZV .NotEq (.nd .lst (dI xs)) (.nd .lst (dI ys)) = some (!decide (xs = ys)) := by
 have h2 : eqW (.nd .lst (dI xs)) (.nd .lst (dI ys)) = some (decide (xs = ys)) := Zqf xs ys
 show (eqW (.nd .lst (dI xs)) (.nd .lst (dI ys))).map (!·) = _
 rw [h2]
 rfl
theorem Zj8 {ys zs : List Int} (hl : ys.length = zs.length) (h : ∀ k, k < ys.length -> ys.getD k 0 = zs.getD k 0) : ys = zs := by
 apply List.ext_getElem hl
 intro k h1 h2
 have := h k h1
 rwa [List.getD_eq_getElem?_getD, List.getD_eq_getElem?_getD, List.getElem?_eq_getElem h1, List.getElem?_eq_getElem h2] at this
noncomputable abbrev PR : List Int := [5, 7, 11, 13, 17, 19, 23, 29, 31, 37, 41, 43, 47]
noncomputable abbrev fs2 : List Str := ["size", "room"]
noncomputable abbrev Ro (C : Addr) (o : Bool) (p r : Int) : D := .node (.ins C fs2) o [I p, I r]
theorem Zkp (C : Addr) (f : Str) (h : f ∈ fs2) : (CK C).fok C f = true := by
 show (decide (C = C) && _) = true
 simp only [decide_true, Bool.true_and, Bool.or_eq_true, beq_iff_eq]
 simp only [List.mem_cons, List.not_mem_nil, or_false] at h
 rcases h with rfl | rfl
 . exact .inl rfl
 . exact .inr rfl
theorem Zkq (C : Addr) (f : Str) (fs : List Str) (ds : List D) (x : D) (hf : f ∈ fs2) (hl : Zcm f fs ds = some x) : fldW (CK C).fok f (.nd (.ins C fs) ds) = some x := by
 show (if (CK C).fok C f = true then Zcm f fs ds else none) = _
 rw [if_pos (Zkp C f hf), hl]
theorem Zd2 (C : Addr) (a b : D) : fldW (CK C).fok "size" (.nd (.ins C fs2) [a, b]) = some a := Zkq C _ _ _ _ (by decide) rfl
theorem Zer (C : Addr) (a b : D) : fldW (CK C).fok "room" (.nd (.ins C fs2) [a, b]) = some b := Zkq C _ _ _ _ (by decide) rfl
theorem Zi8 (C : Addr) (i : Nat) (δ : List D) (f : Str) (hf : f ∈ fs2) (d : D) (fs : List Str) (ds : List D) (hl : fs.length < 1000) : mdR i δ (putD (CK C).fok f d) (some (.node (.ins C fs) true ds)) = .ok (.sc .non, δ.set i (.node (.ins C (putN f fs)) true (putV f d fs ds))) := by
 have e : putD (CK C).fok f d (.ins C fs) ds = some (.sc .non, .ins C (putN f fs), putV f d fs ds) := by
  show (if fs.length < 1000 /\ (CK C).fok C f = true then some (D.sc .non, Kd.ins C (putN f fs), T.putV f d fs ds) else none) = _
  rw [if_pos ⟨hl, Zkp C f hf⟩]
 show (match putD (CK C).fok f d (.ins C fs) ds with | some (r, k', ds') => Rs.ok (r, δ.set i (.node k' true ds')) | none => .stuck) = _
 rw [e]
theorem Zgt (p r : Int) (hp : p ∈ PR) (h1 : 1 <= r) (h2 : r <= p - 5) : Zcs.run [I p, I r] = .ok (.sc (.bl true), [I p, I r]) := by
 show Zi C0 2 2 ZbR [I p, I r] = _
 rw [runA (show [I p, I r].length = 2 from rfl)]
 unfold ZbR
 simp only [List.replicate, Nat.reduceSub]
 have l1 : Za5.lend = true := rfl
 have w1 := Zdi p
 have w2 := Zdi r
 have hn : ZV .NotIn (.sc (.int p)) (.nd .ftp ((PR.map V.int).map D.sc)) = some false := by
  show some (!decide (p ∈ PR)) = some false
  rw [decide_eq_true hp]
  rfl
 have hsh : shrL ((PR.map V.int).map D.sc) = (PR.map V.int).map D.sc := rfl
 generalize (PR.map V.int).map D.sc = pr at hn hsh
 (simp_all [l1, w1, w2, hn, hsh, Ze4, h1, h2]) <;> rfl
theorem ZfP (C : Addr) (p r : Int) (hp : p ∈ PR) (h1 : 1 <= r) (h2 : r <= p - 5) : (ZJ C).run [.node (.ins C []) true [], I p, I r] = .ok (.sc .non, [Ro C true p r, I p, I r]) := by
 rw [show (ZJ C).run = Zi (CK C) 3 3 (Za8 C) from rfl]
 rw [runA (show [D.node (.ins C []) true [], I p, I r].length = 3 from rfl)]
 unfold Za8
 simp only [List.replicate, Nat.reduceSub]
 have l1 : Zcs.lend = true := rfl
 have r1 := Zgt p r hp h1 h2
 have p1 := fun (δ : List D) (d : D) => Zi8 C 0 δ "size" (by decide) d [] [] (by decide)
 have p2 := fun (δ : List D) (a d : D) => Zi8 C 0 δ "room" (by decide) d ["size"] [a] (by decide)
 have e1 : putN "size" [] = ([Str.ofString "size"] : List Str) := rfl
 have e2 : putN "room" ["size"] = fs2 := by decide
 have e3 : ∀ d : D, putV "size" d [] [] = [d] := fun d => rfl
 have e4 : ∀ a d : D, putV "room" d ["size"] [a] = [a, d] := fun a d => rfl
 (simp_all [l1, r1, p1, p2, e1, e2, e3, e4]) <;> rfl
theorem new2 {A : Addr} {fi : FI} {δ : List D} {i j : Nat} {p r : Int} {x : D} (hi : δ[i]? = some (I p)) (hj : δ[j]? = some (I r)) (h : fi.run [.node (.ins A []) true [], I p, I r] = .ok (.sc .non, [x, I p, I r])) : newF A fi [.late i, .late j] δ = .ok (x, δ) := by
 have t1 : ZaK fi.lend (.late i) δ = .ok (I p, δ) := by unfold ZaK; dsimp only; rw [hi]
 have t2 : ZaK fi.lend (.late j) δ = .ok (I r, δ) := by unfold ZaK; dsimp only; rw [hj]
 have t : Za0 fi.lend [.late i, .late j] δ = .ok ([I p, I r], δ) := by
  show ((ZaK fi.lend (.late i)).bnd fun d => ((ZaK fi.lend (.late j)).bnd fun d => (M.ret []).bnd fun ds => M.ret (d :: ds)).bnd fun ds => M.ret (d :: ds)) δ = _
  rw [ZP t1, ZP (ZP t2)]
  rfl
 have g1 : ZaF (.late i) (I p) δ = .ok ((), δ) := by unfold ZaF; dsimp only; rw [hi]
 have g2 : ZaF (.late j) (I r) δ = .ok ((), δ) := by unfold ZaF; dsimp only; rw [hj]
 unfold newF
 rw [ZP t, h]
 show (((ZaF (.late i) (I p)).bnd fun _ => (ZaF (.late j) (I r)).bnd fun _ => M.ret ()).bnd fun _ => M.ret x) δ = _
 rw [ZP (show ((ZaF (.late i) (I p)).bnd fun _ => (ZaF (.late j) (I r)).bnd fun _ => M.ret ()) δ = .ok ((), δ) by rw [ZP g1, ZP g2]; rfl)]
 rfl
noncomputable abbrev dL (o : Bool) (ls : List (List Int)) : List D := ls.map (Ls o)
theorem Z3 (o : Bool) (ls : List (List Int)) : shrL (dL o ls) = dL false ls := by
 induction ls with
 | nil => rfl
 | cons l ls ih =>
  show shr (Ls o l) :: shrL (dL o ls) = _
  rw [ih]
  show D.node .lst false (shrL (dI l)) :: _ = _
  rw [Zl]
  rfl
theorem Zb2 (o : Bool) (l : List Int) (ls : List (List Int)) : dL o (l :: ls) = Ls o l :: dL o ls := (rfl)
theorem ZaV (o : Bool) (l m : List (List Int)) : dL o (l ++ m) = dL o l ++ dL o m := List.map_append
theorem ZK (o : Bool) (l : List (List Int)) : (dL o l).length = l.length := List.length_map _
noncomputable def piece (row : List Int) (r a : Int) : List Int := cutI row (some a) (some (a + r))
theorem Zqq (n : Int) : bfW .max [.sc (.int 1), .sc (.int n)] = some (.sc (.int (if 1 < n then n else 1))) := by
 show maxB [.sc (.int 1), .sc (.int n)] = _
 unfold maxB
 rfl
theorem Zgu (h0 : lk 0 = false) (row : List Int) (r : Int) (o : Bool) : ∀ (as : List Int) (acc : List (List Int)) (a : D), ∃ a',
 Z9 (asgT lk (.name 0)) (tsts ⟨lk, fok, fuel⟩ []) (evb ⟨lk, fok, fuel⟩ (.sl (.v 1) (.v 0) (.bin .Add (.v 0) (.v 2)))).1 (dI as) (dL true acc) [a, Ls o row, I r] = .ok (dL true (acc ++ as.map (piece row r)), [a', Ls o row, I r]) := by
 intro as
 induction as with
 | nil => exact fun acc a => ⟨a, by rw [List.map_nil, List.append_nil]; rfl⟩
 | cons x as ih =>
  intro acc a
  obtain ⟨a', ih⟩ := ih (acc ++ [piece row r x]) (I x)
  refine ⟨a', ?_⟩
  rw [List.map_cons, show acc ++ (piece row r x :: as.map (piece row r)) = acc ++ [piece row r x] ++ as.map (piece row r) by rw [List.append_assoc]; rfl, <- ih, ZN, ZaD, ZaV]
  have hc : cutD (dI row) (some x) (some (x + r)) = dI (piece row r x) := ZaI row _ _
  cases o <;> simp_all [h0, Zl, hc]
noncomputable def starts (n : Nat) (r : Int) : List Int := rngS 0 (if (1 : Int) < n then n else 1) r
theorem Zh5 (row : List Int) (r : Int) (hl : row.length <= 1000) (h1 : 1 <= r) (h2 : r <= 100) : ZaT.run [Ls true row, I r] = .ok (.node .lst true (dL true ((starts row.length r).map (piece row r))), [Ls true row, I r]) := by
 rw [show ZaT.run = Zi C0 2 2 Zbn from rfl]
 rw [runA (show [Ls true row, I r].length = 2 from rfl)]
 unfold Zbn
 simp only [List.replicate, Nat.reduceSub]
 obtain ⟨a', hc⟩ := Zgu (fun i => decide (1 <= i)) (fun _ _ => false) 0 rfl row r true (starts row.length r) [] .hole
 rw [List.nil_append] at hc
 have hmx := Zqq (row.length : Int)
 have hdl : ((dI row).length : Int) = (row.length : Int) := by rw [Zv]
 have hm : (if (1 : Int) < row.length then (row.length : Int) else 1) <= 1000 /\ 1 <= (if (1 : Int) < row.length then (row.length : Int) else 1) := by split <;> omega
 have hit : itW .rng3 [.sc (.int 0), .sc (.int (if (1 : Int) < row.length then (row.length : Int) else 1)), .sc (.int r)] = some (dI (starts row.length r)) := by
  show (if _ then _ else _) = _
  rw [if_pos (by simp only [okR, Bool.and_eq_true, decide_eq_true_eq]; omega)]
  rfl
 have hsz : (starts row.length r).length <= 1000 := by
  unfold starts rngS
  rw [List.length_map, List.length_range]
  (unfold Builtin.Range.rangeSize)
  rw [if_pos (by omega), if_pos (by omega)]
  have := Int.ediv_le_self (a := (if (1 : Int) < row.length then (row.length : Int) else 1) - 0 - 1) r (by omega)
  omega
 generalize starts row.length r = as at hc hit hsz
 generalize (if (1 : Int) < row.length then (row.length : Int) else 1) = m at hmx hit
 replace hc : ZF (fun _ _ => false) 0 1 (.name 0) [] (.sl (.v 1) (.v 0) (.bin .Add (.v 0) (.v 2))) (dI as) [] [.hole, Ls true row, I r] = _ := hc
 have hm1 : ZW 1 [0, 1] (ZF (fun _ _ => false) 0 1 (.name 0) [] (.sl (.v 1) (.v 0) (.bin .Add (.v 0) (.v 2))) (dI as) []) [Ls true row, I r] = .ok (.node .lst true (dL true (as.map (piece row r))), [Ls true row, I r]) := by
  rw [ZQ (js := [0, 1]) (caps := [Ls true row, I r]) (δ1 := [.hole, .hole]) rfl hc (by rw [ZK, List.length_map, szl]; omega)]
  rfl
 (simp_all [Zl, hdl, hmx, hit, hm1]) <;> rfl
noncomputable def bdy (r : Int) (xs : List Int) : List Int := [(xs.length : Int)] ++ xs ++ List.replicate (r - xs.length).toNat 0
noncomputable def lbl (p r c k : Int) (xs : List Int) : List Int := lab p ([k, c] ++ bdy r xs)
theorem Zc7 (r : Int) (xs : List Int) (h : (xs.length : Int) <= r) : (bdy r xs).length = r.toNat + 1 := by
 unfold bdy
 rw [List.length_append, List.length_append, List.length_replicate]
 show 1 + xs.length + _ = _
 omega
theorem ZgK (p r : Int) (xs : List Int) (h : (xs.length : Int) <= r) (hr : r < p) (hx : ∀ x ∈ xs, 0 <= x /\ x < p) : ∀ x ∈ bdy r xs, 0 <= x /\ x < p := fun x hm => by
 unfold bdy at hm
 (rcases List.mem_append.mp hm with hm | hm)
 . (rcases List.mem_append.mp hm with hm | hm)
   . rw [List.mem_singleton.mp hm]; omega
   . exact hx x hm
 . rw [(List.mem_replicate.mp hm).2]; omega
theorem Zqr (n : Int) (h1 : -100 <= n) (h2 : n <= 100) : binW .Mult (.nd .lst [.sc (.int 0)]) (.sc (.int n)) = some (Ls true (List.replicate n.toNat 0)) := by
 show (if _ then _ else _) = _
 rw [if_pos (by rw [szl]; show -(2 ^ 63) <= n /\ n < 2 ^ 63 /\ 1 * n.toNat <= 16777216; omega)]
 show some (D.node .lst true ((List.replicate n.toNat [(0 : Int)]).flatten.map fun i => D.sc (.int i))) = _
 rw [List.flatten_replicate_singleton]
theorem ZnA (C : Addr) (p r k c : Int) (xs : List Int) (o : Bool) (hp : 7 <= p) (hp2 : p <= 47) (h1 : 1 <= r) (h2 : r <= p - 5) (hk : 0 <= k /\ k < p) (hc : 0 <= c /\ c < p) (hl : (xs.length : Int) <= r) (hx : ∀ x ∈ xs, 0 <= x /\ x < p) :
 (Zy C).run [Ro C true p r, I k, I c, Ls o xs] = .ok (Ls true (lbl p r c k xs), [Ro C true p r, I k, I c, Ls o xs]) := by
 rw [show (Zy C).run = Zi (CK C) 4 5 (Zak C) from rfl]
 rw [runA (show [Ro C true p r, I k, I c, Ls o xs].length = 4 from rfl)]
 unfold Zak
 simp only [List.replicate, Nat.reduceSub]
 have l1 : Za7.lend = true := rfl
 have hw1 : ∀ u : D, newL [u] = some (.node .lst true [u]) := fun u => ZX _ (by rw [szl]; simp)
 have hw3 : ∀ u v w : D, newL [u, v, w] = some (.node .lst true [u, v, w]) := fun u v w => ZX _ (by rw [szl]; simp)
 have hdl : ((dI xs).length : Int) = (xs.length : Int) := by rw [Zv]
 have hm := Zqr (r - xs.length) (by omega) (by omega)
 have hb := Zc7 r xs hl
 have hbs := ZgK p r xs hl (by omega) hx
 have e : [k, c] ++ bdy r xs = [k, c, (xs.length : Int)] ++ xs ++ List.replicate (r - xs.length).toNat 0 := by unfold bdy; simp
 have c1 : binW .Add (.nd .lst [.sc (.int k), .sc (.int c), .sc (.int xs.length)]) (.nd .lst (dI xs)) = some (Ls true ([k, c, (xs.length : Int)] ++ xs)) := by
  rw [Zff _ _ (by rw [List.length_append, Zv, szl]; show 3 + xs.length <= _; omega), Ls, Zaa]
  rfl
 have c2 : binW .Add (.nd .lst (dI ([k, c, (xs.length : Int)] ++ xs))) (.nd .lst (dI (List.replicate (r - xs.length).toNat 0))) = some (Ls true ([k, c] ++ bdy r xs)) := by
  rw [Zff _ _ (by rw [List.length_append, Zv, Zv, List.length_replicate, List.length_append, szl]; show 3 + xs.length + _ <= _; omega), e, <- Zaa]
 have hlab := Zdj p ([k, c] ++ bdy r xs) true (by omega) (by omega) (by rw [List.length_append, hb]; show ((2 + (r.toNat + 1) : Nat) : Int) <= _; omega) (by rw [List.length_append, hb]; show 2 + (r.toNat + 1) <= _; omega) (fun x h => by
  (rcases List.mem_append.mp h with h | h)
  . simp only [List.mem_cons, List.not_mem_nil, or_false] at h
    rcases h with rfl | rfl
    . exact hk
    . exact hc
  . exact hbs x h)
 generalize List.replicate (r - xs.length).toNat 0 = zs at hm c2
 generalize ([k, c, (xs.length : Int)] ++ xs) = as at c1 c2
 unfold lbl
 generalize ([k, c] ++ bdy r xs) = bs at c2 hlab
 have f1 := Zd2 C (I p) (I r)
 have f2 := Zer C (I p) (I r)
 cases o <;> (simp_all [Zl, l1, hw1, hw3, hdl, f1, f2, hm, c1, c2, hlab]) <;> rfl
theorem Zj9 (h0 : lk 0 = false) (q : Int) (hq : 0 <= q) : ∀ (ls : List (List Int)) (acc : List Int) (a : D), (∀ l ∈ ls, q < (l.length : Int)) -> ∃ a',
 Z9 (asgT lk (.name 0)) (tsts ⟨lk, fok, fuel⟩ []) (evb ⟨lk, fok, fuel⟩ (.ix (.v 0) (.v 1))).1 (dL false ls) (dI acc) [a, I q] = .ok (dI (acc ++ ls.map fun l => l.getD q.toNat 0), [a', I q]) := by
 intro ls
 induction ls with
 | nil => exact fun acc a _ => ⟨a, by rw [List.map_nil, List.append_nil]; rfl⟩
 | cons l ls ih =>
  intro acc a hl
  obtain ⟨a', ih⟩ := ih (acc ++ [l.getD q.toNat 0]) (Ls false l) fun x hx => hl x (List.mem_cons_of_mem _ hx)
  refine ⟨a', ?_⟩
  rw [List.map_cons, show acc ++ (l.getD q.toNat 0 :: ls.map fun l => l.getD q.toNat 0) = acc ++ [l.getD q.toNat 0] ++ ls.map (fun l => l.getD q.toNat 0) by rw [List.append_assoc]; rfl, <- ih, Zb2, ZaD, Zaa]
  have ix := ixI l q hq (hl l List.mem_cons_self)
  simp_all [h0, ix]
noncomputable def col (p : Int) (ls : List (List Int)) (q : Int) : Int := -((ls.map fun l => l.getD q.toNat 0).sum) % p
theorem ZjA (C : Addr) (lk : Nat -> Bool) (h4 : lk 4 = false) (h5 : lk 5 = false) (p r : Int) (hp : 0 < p) (x1 x2 : Int) (o o' oo : Bool) (ls : List (List Int)) (hls : ls.length <= 1000) : ∀ (qs : List Int) (row : List Int) (a : D), row.length + qs.length <= 1000 -> (∀ q ∈ qs, 0 <= q /\ ∀ l ∈ ls, q < (l.length : Int)) -> ∃ a',
 forL (asgT lk (.name 5)) (exs ⟨lk, (CK C).fok, (CK C).fuel⟩ [.ex (.mut .append 4 [] [.bin .Mod (.neg (.bor (.bf .sum [.comp 1 [5] (.name 0) .val [.v 3] [] (.ix (.v 0) (.v 1))]))) (.fld (.v 0) "size")])]) (dI qs) [Ro C oo p r, I x1, I x2, .node .lst o' (dL o ls), Ls true row, a]
  = .ok (.nx, [Ro C oo p r, I x1, I x2, .node .lst o' (dL o ls), Ls true (row ++ qs.map (col p ls)), a']) := by
 intro qs
 induction qs with
 | nil => exact fun row a _ _ => ⟨a, by rw [List.map_nil, List.append_nil]; rfl⟩
 | cons q qs ih =>
  intro row a hl hq
  rw [List.length_cons] at hl
  obtain ⟨a', ih⟩ := ih (row ++ [col p ls q]) (I q) (by rw [List.length_append, List.length_singleton]; omega) fun x hx => hq x (List.mem_cons_of_mem _ hx)
  refine ⟨a', ?_⟩
  obtain ⟨b', hc⟩ := Zj9 (fun i => decide (1 <= i)) (CK C).fok (CK C).fuel rfl q (hq q List.mem_cons_self).1 ls [] .hole (hq q List.mem_cons_self).2
  rw [List.nil_append] at hc
  replace hc : ZF (CK C).fok (CK C).fuel 1 (.name 0) [] (.ix (.v 0) (.v 1)) (dL false ls) [] [.hole, I q] = _ := hc
  have hm1 : ∀ x0 x1 x2 x3 x4 : D, ZW 1 [5] (ZF (CK C).fok (CK C).fuel 1 (.name 0) [] (.ix (.v 0) (.v 1)) (dL false ls) []) [x0, x1, x2, x3, x4, I q] = .ok (Ls true (ls.map fun l => l.getD q.toNat 0), [x0, x1, x2, x3, x4, I q]) := fun x0 x1 x2 x3 x4 => by
   rw [ZQ (js := [5]) (caps := [I q]) (δ1 := [x0, x1, x2, x3, x4, .hole]) rfl hc (by rw [Zv, List.length_map, szl]; omega)]
   rfl
  have hs : -((ls.map fun l => l.getD q.toNat 0).sum) % p = col p ls q := rfl
  have ap : ∀ δ : List D, mdR 4 δ (appD (.sc (.int (col p ls q)))) (some (.node .lst true (dI row))) = .ok (.sc .non, δ.set 4 (.node .lst true (dI (row ++ [col p ls q])))) := fun δ => by
   rw [Zc6 4 δ _ _ (by rw [Zv, szl]; omega), Zaa]
   rfl
  generalize hcs : (ls.map fun l => l.getD q.toNat 0) = cs at hm1 hs
  have sm := Zb0 cs
  have f1 := Zd2 C (I p) (I r)
  rw [List.map_cons, show row ++ (col p ls q :: qs.map (col p ls)) = row ++ [col p ls q] ++ qs.map (col p ls) by rw [List.append_assoc]; rfl, <- ih, ZN, ZbP]
  cases oo <;> cases o' <;> (simp_all [h4, h5, Zl, Z3, hm1, sm, f1, ZI _ _ hp, hs, ap])
theorem ZgL (C : Addr) (p r m c : Int) (o o' oo : Bool) (ls : List (List Int)) (hp : 7 <= p) (hp2 : p <= 47) (h1 : 1 <= r) (h2 : r <= p - 5) (hm : 0 <= m /\ m < p) (hc : 0 <= c /\ c < p) (hn : ls.length <= 1000) (hls : ∀ l ∈ ls, r + 3 <= (l.length : Int)) :
 (ZR C).run [Ro C oo p r, I m, I c, .node .lst o' (dL o ls)] = .ok (Ls true (lab p ([m, c] ++ (rngI 2 (r + 1).toNat).map (col p ls))), [Ro C oo p r, I m, I c, .node .lst o' (dL o ls)]) := by
 rw [show (ZR C).run = Zi (CK C) 4 6 (ZaG C) from rfl]
 rw [runA (show [Ro C oo p r, I m, I c, .node .lst o' (dL o ls)].length = 4 from rfl)]
 unfold ZaG
 simp only [List.replicate, Nat.reduceSub]
 have hrl : (rngI 2 (r + 1).toNat).length = (r + 1).toNat := by
  have : ∀ (n : Nat) (a : Int), (rngI a n).length = n := fun n => by
   induction n with
   | zero => exact fun a => rfl
   | succ n ih => exact fun a => by rw [rngI, List.length_cons, ih]
  exact this _ _
 have hmem : ∀ (n : Nat) (a x : Int), x ∈ rngI a n -> a <= x /\ x < a + n := fun n => by
  induction n with
  | zero => intro a x h; simp [rngI] at h
  | succ n ih =>
   intro a x h
   rw [rngI] at h
   (rcases List.mem_cons.mp h with rfl | h)
   . omega
   . have := ih (a + 1) x h; omega
 obtain ⟨a', hf⟩ := ZjA C (fun j => decide (j < 4) || walked [.k (.int 2), .bin .Add (.k (.int 3)) (.fld (.v 0) "room")] j) rfl rfl p r (by omega) m c o o' oo ls hn (rngI 2 (r + 1).toNat) [m, c] .hole (by rw [hrl]; show 2 + _ <= _; omega) (fun q hq => by
  have := hmem _ _ _ hq
  exact ⟨by omega, fun l hl => by have := hls l hl; omega⟩)
 have hit : itW .rng2 [.sc (.int 2), .sc (.int (3 + r))] = some (dI (rngI 2 (r + 1).toNat)) := by
  have := Zqg 2 (3 + r) (by omega)
  rwa [show (3 + r - 2).toNat = (r + 1).toNat by omega] at this
 have hcs : ∀ x ∈ (rngI 2 (r + 1).toNat).map (col p ls), 0 <= x /\ x < p := fun x h => by
  obtain ⟨q, _, rfl⟩ := List.mem_map.mp h
  exact ⟨Int.emod_nonneg _ (by omega), Int.emod_lt_of_pos _ (by omega)⟩
 have hcl : ((rngI 2 (r + 1).toNat).map (col p ls)).length = (r + 1).toNat := by rw [List.length_map, hrl]
 have hlab := Zdj p ([m, c] ++ (rngI 2 (r + 1).toNat).map (col p ls)) true (by omega) (by omega) (by rw [List.length_append, hcl]; show ((2 + (r + 1).toNat : Nat) : Int) <= _; omega) (by rw [List.length_append, hcl]; show 2 + (r + 1).toNat <= _; omega) (fun x h => by
  (rcases List.mem_append.mp h with h | h)
  . simp only [List.mem_cons, List.not_mem_nil, or_false] at h
    rcases h with rfl | rfl
    . exact hm
    . exact hc
  . exact hcs x h)
 generalize rngI 2 (r + 1).toNat = rg at hf hit hlab
 simp only [walked, Bool.or_false, Ls, ZN, Zce] at hf
 generalize ([m, c] ++ rg.map (col p ls)) = row at hf hlab
 have l1 : Za7.lend = true := rfl
 have hw2 : ∀ u v : D, newL [u, v] = some (.node .lst true [u, v]) := fun u v => ZX _ (by rw [szl]; simp)
 have f1 := Zd2 C (I p) (I r)
 have f2 := Zer C (I p) (I r)
 cases oo <;> cases o' <;> (simp_all [Zl, Z3, l1, hw2, f1, f2, hit, hf, hlab]) <;> rfl
theorem ZbS (C : Addr) (m : Str) (i : Nat) (δ : List D) (fs : List Str) (o : Bool) (ds : List D) (h : δ[i]? = some (.node (.ins C fs) o ds)) (hm : m ∉ fs) : chkI C m (.late i) δ = .ok ((), δ) := by
 unfold chkI
 dsimp only
 rw [h]
 exact if_pos ⟨rfl, hm⟩
theorem ZeS (row : List Int) (r a : Int) : ∀ x ∈ piece row r a, x ∈ row := fun x h => by
 unfold piece cutI at h
 exact List.mem_of_mem_drop (List.mem_of_mem_take h)
theorem Zdk (row : List Int) (r a : Int) (ha : 0 <= a) (hr : 0 <= r) : ((piece row r a).length : Int) <= r := by
 unfold piece cutI
 rw [List.length_take]
 have e1 : HT.sIx row.length 0 (some a) = min a.toNat row.length := by
  have := HT.Zdo row.length 0 a.toNat
  rwa [Int.toNat_of_nonneg ha] at this
 have e2 : HT.sIx row.length row.length (some (a + r)) = min (a + r).toNat row.length := by
  have := HT.Zdo row.length row.length (a + r).toNat
  rwa [Int.toNat_of_nonneg (show 0 <= a + r by omega)] at this
 rw [e1, e2]
 omega
theorem ZcO (n : Nat) (r : Int) (hr : 0 <= r) : ∀ a ∈ starts n r, 0 <= a := fun a h => by
 unfold starts rngS at h
 obtain ⟨k, _, rfl⟩ := List.mem_map.mp h
 have := Int.mul_nonneg (Int.natCast_nonneg k) hr
 omega
theorem Zes (n : Nat) (r p : Int) (hr : 1 <= r) (hp : 2 <= p) (hn : (n : Int) <= r * (p - 1)) : 1 <= (starts n r).length /\ ((starts n r).length : Int) < p := by
 unfold starts rngS
 rw [List.length_map, List.length_range]
 have hm : 1 <= (if (1 : Int) < n then (n : Int) else 1) /\ (if (1 : Int) < n then (n : Int) else 1) <= r * (p - 1) := by
  have : 1 * 1 <= r * (p - 1) := Int.mul_le_mul hr (by omega) (by decide) (by omega)
  split <;> omega
 generalize (if (1 : Int) < n then (n : Int) else 1) = m at hm
 (unfold Builtin.Range.rangeSize)
 rw [if_pos (by omega), if_pos (by omega)]
 have h0 := Int.ediv_nonneg (a := m - 0 - 1) (b := r) (by omega) (by omega)
 have h1 : (m - 0 - 1) / r < p - 1 := Int.ediv_lt_of_lt_mul (by omega) (by rw [Int.mul_comm]; omega)
 omega
noncomputable def lbls (p r c : Int) : Int -> List (List Int) -> List (List Int)
 | _, [] => []
 | k, x :: xs => lbl p r c k x :: lbls p r c (k + 1) xs
theorem ZfQ (p r c : Int) : ∀ (xs : List (List Int)) (k : Int), (lbls p r c k xs).length = xs.length
 | [], _ => rfl
 | x :: xs, k => by rw [lbls, List.length_cons, List.length_cons, ZfQ]
theorem ZfR (p r c : Int) : ∀ (xs : List (List Int)) (k : Int), (∀ x ∈ xs, (x.length : Int) <= r) -> 0 <= r -> ∀ l ∈ lbls p r c k xs, r + 3 <= (l.length : Int)
 | [], _, _, _, l, h => by simp [lbls] at h
 | x :: xs, k, hx, hr, l, h => by
  rw [lbls] at h
  (rcases List.mem_cons.mp h with rfl | h)
  . unfold lbl
    rw [Ze8, List.length_append, Zc7 r x (hx x List.mem_cons_self)]
    show _ <= ((2 + (r.toNat + 1) + 2 : Nat) : Int)
    omega
  . exact ZfR p r c xs (k + 1) (fun y hy => hx y (List.mem_cons_of_mem _ hy)) hr l h
theorem ZjB (C : Addr) (lk : Nat -> Bool) (h0 : lk 0 = false) (h1 : lk 1 = false) (p r c : Int) (hp : 7 <= p) (hp2 : p <= 47) (hr1 : 1 <= r) (hr2 : r <= p - 5) (hc : 0 <= c /\ c < p) : ∀ (xs : List (List Int)) (k : Int) (acc : List (List Int)) (a b : D), 0 <= k -> k + xs.length <= p -> (∀ x ∈ xs, (x.length : Int) <= r /\ ∀ y ∈ x, 0 <= y /\ y < p) -> ∃ a' b',
 Z9 (asgT lk (.tup [0, 1])) (tsts ⟨lk, (CK C).fok, (CK C).fuel⟩ []) (evb ⟨lk, (CK C).fok, (CK C).fuel⟩ (.meth C "piece_label" (Zy C) (.v 3) [.v 0, .v 2, .v 1])).1 (ZE k (dL false xs)) (dL true acc) [a, b, I c, Ro C true p r] = .ok (dL true (acc ++ lbls p r c k xs), [a', b', I c, Ro C true p r]) := by
 intro xs
 induction xs with
 | nil => exact fun k acc a b _ _ _ => ⟨a, b, by rw [lbls, List.append_nil]; rfl⟩
 | cons x xs ih =>
  intro k acc a b hk hkl hx
  rw [List.length_cons] at hkl
  obtain ⟨a', b', ih⟩ := ih (k + 1) (acc ++ [lbl p r c k x]) (I k) (Ls false x) (by omega) (by omega) fun y hy => hx y (List.mem_cons_of_mem _ hy)
  refine ⟨a', b', ?_⟩
  rw [lbls, show acc ++ (lbl p r c k x :: lbls p r c (k + 1) xs) = acc ++ [lbl p r c k x] ++ lbls p r c (k + 1) xs by rw [List.append_assoc]; rfl, <- ih, Zb2, ZE, ZaD, ZaV]
  have hr := ZnA C p r k c x false hp hp2 hr1 hr2 (by omega) hc (hx x List.mem_cons_self).1 (hx x List.mem_cons_self).2
  have l1 : (Zy C).lend = true := rfl
  have hck : ∀ x0 x1 x2 : D, chkI C "piece_label" (.late 3) [x0, x1, x2, Ro C true p r] = .ok ((), [x0, x1, x2, Ro C true p r]) := fun x0 x1 x2 => ZbS C _ 3 _ fs2 true _ rfl (by decide)
  simp_all [h0, h1, Zcf, hck, l1, hr]
noncomputable def parts (p r : Int) (row : List Int) : List (List Int) :=
 let ps := (starts row.length r).map (piece row r)
 let ls := lbls p r ps.length 0 ps
 ls ++ [lab p ([(ps.length : Int), (ps.length : Int)] ++ (rngI 2 (r + 1).toNat).map (col p ls))]
theorem ZcP (C : Addr) (p r : Int) (row : List Int) (hp : 7 <= p) (hp2 : p <= 47) (h1 : 1 <= r) (h2 : r <= p - 5) (hl : row.length <= 1000) (hn : (row.length : Int) <= r * (p - 1)) (hx : ∀ x ∈ row, 0 <= x /\ x < p) :
 (ZZ C).run [Ro C true p r, Ls true row] = .ok (.node .lst true (dL true (parts p r row)), [Ro C true p r, Ls true row]) := by
 rw [show (ZZ C).run = Zi (CK C) 2 5 (ZaO C) from rfl]
 rw [runA (show [Ro C true p r, Ls true row].length = 2 from rfl)]
 unfold ZaO
 simp only [List.replicate, Nat.reduceSub]
 obtain ⟨s1, s2⟩ := Zes row.length r p h1 (by omega) hn
 have hpr := Zh5 row r hl h1 (by omega)
 have hps : ∀ x ∈ (starts row.length r).map (piece row r), (x.length : Int) <= r /\ ∀ y ∈ x, 0 <= y /\ y < p := fun x h => by
  obtain ⟨a, ha, rfl⟩ := List.mem_map.mp h
  exact ⟨Zdk row r a (ZcO _ r (by omega) a ha) (by omega), fun y hy => hx y (ZeS row r a y hy)⟩
 have hpl : ((starts row.length r).map (piece row r)).length = (starts row.length r).length := List.length_map _
 unfold parts
 dsimp only
 generalize (starts row.length r).map (piece row r) = ps at hpr hps hpl
 rw [<- hpl] at s1 s2
 obtain ⟨a', b', hc⟩ := ZjB C (fun i => decide (2 <= i)) rfl rfl p r ps.length hp hp2 h1 h2 (by omega) ps 0 [] .hole .hole (by decide) (by omega) hps
 rw [List.nil_append] at hc
 have hll := ZfQ p r ps.length ps 0
 have hlg := ZfR p r ps.length ps 0 (fun x h => (hps x h).1) (by omega)
 have hb := ZgL C p r ps.length ps.length true true true (lbls p r ps.length 0 ps) hp hp2 h1 h2 (by omega) (by omega) (by omega) hlg
 generalize hls : lbls p r ps.length 0 ps = ls at hc hll hb
 replace hc : ZF (CK C).fok (CK C).fuel 2 (.tup [0, 1]) [] (.meth C "piece_label" (Zy C) (.v 3) [.v 0, .v 2, .v 1]) (ZE 0 (dL false ps)) [] [.hole, .hole, I ps.length, Ro C true p r] = _ := hc
 have hm1 : ∀ x1 x2 x4 : D, ZW 2 [3, 0] (ZF (CK C).fok (CK C).fuel 2 (.tup [0, 1]) [] (.meth C "piece_label" (Zy C) (.v 3) [.v 0, .v 2, .v 1]) (ZE 0 (dL false ps)) []) [Ro C true p r, x1, x2, I ps.length, x4] = .ok (.node .lst true (dL true ls), [Ro C true p r, x1, x2, I ps.length, x4]) := fun x1 x2 x4 => by
  rw [ZQ (js := [3, 0]) (caps := [I ps.length, Ro C true p r]) (δ1 := [.hole, x1, x2, .hole, x4]) rfl hc (by rw [ZK, szl]; omega)]
  rfl
 have k1 : ZY.lend = true := rfl
 have k2 : ZaT.lend = true := rfl
 have k3 : (ZR C).lend = true := rfl
 have r1 := fun o => ZeR p row o hx
 have f1 := Zd2 C (I p) (I r)
 have f2 := Zer C (I p) (I r)
 have hdl : ∀ o, ((dL o ps).length : Int) = (ps.length : Int) := fun o => by rw [ZK]
 have hge : ¬ p <= (ps.length : Int) := by omega
 have hck : ∀ x1 x2 x3 x4 : D, chkI C "balance" (.late 0) [Ro C true p r, x1, x2, x3, x4] = .ok ((), [Ro C true p r, x1, x2, x3, x4]) := fun x1 x2 x3 x4 => ZbS C _ 0 _ fs2 true _ rfl (by decide)
 have ap : ∀ (δ : List D) (y : List Int), mdR 4 δ (appD (Ls true y)) (some (.node .lst true (dL true ls))) = .ok (.sc .non, δ.set 4 (.node .lst true (dL true (ls ++ [y])))) := fun δ y => by
  rw [Zc6 4 δ _ _ (by rw [ZK, szl]; omega), ZaV]
  rfl
 generalize lab p ([(ps.length : Int), (ps.length : Int)] ++ (rngI 2 (r + 1).toNat).map (col p ls)) = sp at hb
 (simp_all [Zl, Z3, k1, k2, k3, r1, hpr, f1, f2, hdl, hge, it_e _ 0 (by decide), hm1, hck, hb, ap]) <;> rfl
theorem Zqs (ds : List D) : bfW .all [.nd .lst ds] = (Zan ds).map fun bs => .sc (.bl (bs.all id)) := (rfl)
theorem ZeT : ∀ n : Nat, Zan (List.replicate n (D.sc (.bl true))) = some (List.replicate n true)
 | 0 => rfl
 | n + 1 => by rw [List.replicate_succ, Zan, ZeT n]; rfl
theorem ZgM (n : Nat) : bfW .all [.nd .lst (List.replicate n (D.sc (.bl true)))] = some (.sc (.bl true)) := by
 rw [Zqs, ZeT]
 simp
theorem Zqt (i : Int) : tyW .list (.sc (.int i)) = some false := (rfl)
theorem Zi9 (n : Nat) (x : Int) : Zw (n + 1) [I x, I x] = .ok (.sc (.bl true), [I x, I x]) := by
 rw [show Zw (n + 1) = Zi C0 2 2 (Za3 ⟨true, Zw n⟩) from rfl]
 rw [runA (show [I x, I x].length = 2 from rfl)]
 unfold Za3
 simp only [List.replicate, Nat.reduceSub]
 have hd : decide (V.int x = V.int x) = true := decide_eq_true rfl
 (simp_all [Zko, Zkl, Zd1, Zkm, Zkn, Zqt, hd]) <;> rfl
theorem ZiA (fi : FI) (h1 : fi.lend = true) (k0 : lk 0 = false) (k1 : lk 1 = false) : ∀ (ds : List D) (n : Nat) (a b : D), (∀ d ∈ ds, fi.run [d, d] = .ok (.sc (.bl true), [d, d]) /\ ((∃ v, d = .sc v) \/ ∃ k l, d = .node k false l)) -> ∃ a' b',
 Z9 (asgT lk (.tup [0, 1])) (tsts ⟨lk, fok, fuel⟩ []) (evb ⟨lk, fok, fuel⟩ (.call fi [.v 0, .v 1])).1 (zipD ds ds) (List.replicate n (.sc (.bl true))) [a, b] = .ok (List.replicate (n + ds.length) (.sc (.bl true)), [a', b']) := by
 intro ds
 induction ds with
 | nil => exact fun n a b _ => ⟨a, b, rfl⟩
 | cons d ds ih =>
  intro n a b hd
  obtain ⟨a', b', ih⟩ := ih (n + 1) d d fun x hx => hd x (List.mem_cons_of_mem _ hx)
  refine ⟨a', b', ?_⟩
  obtain ⟨hr, hk⟩ := hd d List.mem_cons_self
  rw [List.length_cons, show n + (ds.length + 1) = n + 1 + ds.length by omega, <- ih, zipD, ZaD, List.replicate_succ']
  rcases hk with ⟨v, rfl⟩ | ⟨k, l, rfl⟩
  . simp_all [k0, k1, Zcf, h1, hr]
  . simp_all [k0, k1, Zcf, h1, hr]
theorem ZfS (n : Nat) (o o' : Bool) (X Y ds : List D) (hl : ds.length <= 1000) (hd : ∀ d ∈ ds, Zw n [d, d] = .ok (.sc (.bl true), [d, d]) /\ ((∃ v, d = .sc v) \/ ∃ k l, d = .node k false l)) (hs : shrL ds = ds)
 (hX : (o = true /\ shrL X = ds) \/ (o = false /\ X = ds)) (hY : (o' = true /\ shrL Y = ds) \/ (o' = false /\ Y = ds)) : Zw (n + 1) [.node .lst o X, .node .lst o' Y] = .ok (.sc (.bl true), [.node .lst o ds, .node .lst o' ds]) := by
 rw [show Zw (n + 1) = Zi C0 2 2 (Za3 ⟨true, Zw n⟩) from rfl]
 rw [runA (show [D.node .lst o X, .node .lst o' Y].length = 2 from rfl)]
 unfold Za3
 simp only [List.replicate, Nat.reduceSub]
 obtain ⟨a', b', hc⟩ := ZiA (fun i => decide (2 <= i)) (fun _ _ => false) 0 ⟨true, Zw n⟩ rfl rfl rfl ds 0 .hole .hole hd
 rw [Nat.zero_add] at hc
 replace hc : ZF (fun _ _ => false) 0 2 (.tup [0, 1]) [] (.call ⟨true, Zw n⟩ [.v 0, .v 1]) (zipD ds ds) [] [.hole, .hole] = _ := hc
 have hm : ∀ δ : List D, ZW 2 [] (ZF (fun _ _ => false) 0 2 (.tup [0, 1]) [] (.call ⟨true, Zw n⟩ [.v 0, .v 1]) (zipD ds ds) []) δ = .ok (.node .lst true (List.replicate ds.length (.sc (.bl true))), δ) := fun δ => by
  rw [ZQ (js := []) (caps := []) rfl hc (by rw [List.length_replicate, szl]; omega), ZaS]
  rfl
 have ha := ZgM ds.length
 generalize List.replicate ds.length (D.sc (V.bl true)) = rp at hm ha
 have hit : itW .zip [.nd .lst ds, .nd .lst ds] = some (zipD ds ds) := by
  show (if (Kd.lst = .lst \/ Kd.lst = .frl) /\ (Kd.lst = .lst \/ Kd.lst = .frl) then some (zipD ds ds) else none) = _
  rw [if_pos ⟨.inl rfl, .inl rfl⟩]
 rcases hX with ⟨rfl, hX⟩ | ⟨rfl, rfl⟩
 . rcases hY with ⟨rfl, hY⟩ | ⟨rfl, rfl⟩
   . (simp_all [Zd1, Zeq, hX, hY, hs, hit, hm, ha]) <;> rfl
   . (simp_all [Zd1, Zeq, hX, hs, hit, hm, ha]) <;> rfl
 . rcases hY with ⟨rfl, hY⟩ | ⟨rfl, rfl⟩
   . (simp_all [Zd1, Zeq, hY, hs, hit, hm, ha]) <;> rfl
   . (simp_all [Zd1, Zeq, hs, hit, hm, ha]) <;> rfl
theorem Zl2 (n : Nat) (l : List Int) (hl : l.length <= 1000) : Zw (n + 2) [Ls false l, Ls false l] = .ok (.sc (.bl true), [Ls false l, Ls false l]) :=
 ZfS (n + 1) false false (dI l) (dI l) (dI l) (by rw [Zv]; exact hl) (fun d hd => by
  obtain ⟨x, _, rfl⟩ := List.mem_map.mp hd
  exact ⟨Zi9 n x, .inl ⟨_, rfl⟩⟩) (Zl l) (.inr ⟨rfl, rfl⟩) (.inr ⟨rfl, rfl⟩)
theorem ZfT (o o' a b : Bool) (ls : List (List Int)) (hl : ls.length <= 1000) (hls : ∀ l ∈ ls, l.length <= 1000) (ha : o = false -> a = false) (hb : o' = false -> b = false) : Zad.run [.node .lst o (dL a ls), .node .lst o' (dL b ls)] = .ok (.sc (.bl true), [.node .lst o (dL false ls), .node .lst o' (dL false ls)]) :=
 ZfS 2 o o' (dL a ls) (dL b ls) (dL false ls) (by rw [ZK]; exact hl) (fun d hd => by
  obtain ⟨l, hm, rfl⟩ := List.mem_map.mp hd
  exact ⟨Zl2 0 l (hls l hm), .inr ⟨_, _, rfl⟩⟩) (Z3 _ _)
  (by cases o with | true => exact .inl ⟨rfl, Z3 _ _⟩ | false => rw [ha rfl]; exact .inr ⟨rfl, rfl⟩)
  (by cases o' with | true => exact .inl ⟨rfl, Z3 _ _⟩ | false => rw [hb rfl]; exact .inr ⟨rfl, rfl⟩)
theorem Zh6 (h3 : lk 3 = false) (h4 : lk 4 = false) (h5 : lk 5 = false) (h6 : lk 6 = false) (h7 : lk 7 = false) (x0 x1 x2 x8 : D) : ∀ (ts : List Int) (one two : Int) (fd : List Int) (a b : D), 0 <= two -> two < 2000000000 -> fd.length + ts.length <= 1000 -> ∃ (one' two' : Int) (fd' : List Int) (a' b' : D), fd'.length = fd.length + ts.length /\
 forL (asgT lk (.name 6)) (exs ⟨lk, fok, fuel⟩ [.asg 7 (.bin .Add (.bin .Add (.bin .Add (.bin .Mult (.v 3) (.k (.int 1664525))) (.bin .Mult (.v 4) (.v 4))) (.bin .Mult (.k (.int 97)) (.v 6))) (.k (.int 40503))), .asg 3 (.v 4), .asg 4 (.bin .Mod (.v 7) (.k (.int 1999999973))), .ex (.mut .append 5 [] [.v 4])]) (dI ts) [x0, x1, x2, I one, I two, Ls true fd, a, b, x8]
  = .ok (.nx, [x0, x1, x2, I one', I two', Ls true fd', a', b', x8]) := by
 intro ts
 induction ts with
 | nil => exact fun one two fd a b _ _ _ => ⟨one, two, fd, a, b, rfl, rfl⟩
 | cons t ts ih =>
  intro one two fd a b t0 t1 hl
  rw [List.length_cons] at hl
  have q0 := Int.emod_nonneg (one * 1664525 + two * two + 97 * t + 40503) (show (1999999973 : Int) ≠ 0 by decide)
  have q1 := Int.emod_lt_of_pos (one * 1664525 + two * two + 97 * t + 40503) (show (0 : Int) < 1999999973 by decide)
  obtain ⟨one', two', fd', a', b', e, ih⟩ := ih two ((one * 1664525 + two * two + 97 * t + 40503) % 1999999973) (fd ++ [(one * 1664525 + two * two + 97 * t + 40503) % 1999999973]) (I t) (I (one * 1664525 + two * two + 97 * t + 40503)) q0 (by omega) (by rw [List.length_append, List.length_singleton]; omega)
  refine ⟨one', two', fd', a', b', by rw [e, List.length_append, List.length_singleton, List.length_cons]; omega, ?_⟩
  have m1 : binW .Mult (.sc (.int one)) (.sc (.int 1664525)) = some (.sc (.int (one * 1664525))) := ZcJ _ _ (.inr (by decide))
  have m2 : binW .Mult (.sc (.int two)) (.sc (.int two)) = some (.sc (.int (two * two))) := ZcJ _ _ (.inr (by omega))
  have m3 : binW .Mult (.sc (.int 97)) (.sc (.int t)) = some (.sc (.int (97 * t))) := ZcJ _ _ (.inl (by decide))
  have m4 : ∀ u : Int, binW .Mod (.sc (.int u)) (.sc (.int 1999999973)) = some (.sc (.int (u % 1999999973))) := fun u => ZI _ _ (by decide)
  generalize hw : one * 1664525 + two * two + 97 * t + 40503 = w at ih
  have ap : ∀ δ : List D, mdR 5 δ (appD (.sc (.int (w % 1999999973)))) (some (.node .lst true (dI fd))) = .ok (.sc .non, δ.set 5 (.node .lst true (dI (fd ++ [w % 1999999973])))) := fun δ => by
   rw [Zc6 5 δ _ _ (by rw [Zv, szl]; omega), Zaa]
   rfl
  rw [<- ih, ZN, ZbP]
  simp_all [h3, h4, h5, h6, h7, m1, m2, m3, m4, hw, ap]
theorem ZjC (h2 : lk 2 = false) (h5 : lk 5 = false) (h8 : lk 8 = false) (x0 x1 x3 x4 x6 x7 : D) : ∀ (n j : Nat) (rest : Int) (fd : List Int) (a : D), j + n <= fd.length -> ∃ (rest' : Int) (fd' : List Int) (a' : D), fd'.length = fd.length /\
 forL (asgT lk (.name 8)) (exs ⟨lk, fok, fuel⟩ [.iff (.cmp .Gt (.v 2) (.k (.int 0))) [.sub 5 [] (.v 8) (.bin .Mod (.v 2) (.k (.int 1999999973))), .asg 2 (.bin .FloorDiv (.v 2) (.k (.int 1999999973)))] []]) (dI (rngI j n)) [x0, x1, I rest, x3, x4, Ls true fd, x6, x7, a]
  = .ok (.nx, [x0, x1, I rest', x3, x4, Ls true fd', x6, x7, a']) := by
 intro n
 induction n with
 | zero => exact fun j rest fd a _ => ⟨rest, fd, a, rfl, rfl⟩
 | succ n ih =>
  intro j rest fd a hj
  have ej : ((j + 1 : Nat) : Int) = (j : Int) + 1 := by omega
  by_cases hr : 0 < rest
  . obtain ⟨rest', fd', a', e, ih⟩ := ih (j + 1) (rest / 1999999973) (fd.set j (rest % 1999999973)) (I j) (by rw [List.length_set]; omega)
    refine ⟨rest', fd', a', by rw [e, List.length_set], ?_⟩
    have m4 : ∀ u : Int, binW .Mod (.sc (.int u)) (.sc (.int 1999999973)) = some (.sc (.int (u % 1999999973))) := fun u => ZI _ _ (by decide)
    have m5 : ∀ u : Int, binW .FloorDiv (.sc (.int u)) (.sc (.int 1999999973)) = some (.sc (.int (u / 1999999973))) := fun u => Zei _ _ (by decide)
    have st : ∀ (δ : List D) (v : Int), mdR 5 δ (Zbj (.sc (.int (j : Int))) (.sc (.int v))) (some (.node .lst true (dI fd))) = .ok (.sc .non, δ.set 5 (.node .lst true (dI (fd.set j v)))) := fun δ v => by
     rw [Zf9 5 δ _ (dI fd) (j : Int) j (Zbx _ _ (by rw [Zv]; omega))]
     congr 4
     exact List.map_set.symm
    rw [ej] at ih
    rw [<- ih, rngI, ZN, ZbP]
    simp_all [h2, h5, h8, hr, m4, m5, st]
  . obtain ⟨rest', fd', a', e, ih⟩ := ih (j + 1) rest fd (I j) (by omega)
    refine ⟨rest', fd', a', e, ?_⟩
    rw [ej] at ih
    rw [<- ih, rngI, ZN, ZbP]
    simp_all [h2, h5, h8, hr]
theorem ZbT (c : Int) (m : Nat) (hm : m <= 100) : ∃ ys : List Int, ys.length = m /\ Zo.run [I c, I m] = .ok (Ls true ys, [I c, I m]) := by
 have d1 : ∀ u : Int, binW .FloorDiv (.sc (.int u)) (.sc (.int 2)) = some (.sc (.int (u / 2))) := fun u => Zei _ _ (by decide)
 have d2 : ∀ u : Int, binW .Mod (.sc (.int u)) (.sc (.int 1999999973)) = some (.sc (.int (u % 1999999973))) := fun u => ZI _ _ (by decide)
 have d3 : ∀ u : Int, binW .FloorDiv (.sc (.int u)) (.sc (.int 1999999973)) = some (.sc (.int (u / 1999999973))) := fun u => Zei _ _ (by decide)
 have d4 : ∀ u : Int, binW .Mod (.sc (.int u)) (.sc (.int 1999999943)) = some (.sc (.int (u % 1999999943))) := fun u => ZI _ _ (by decide)
 have d5 : ∀ u : Int, binW .Mod (.sc (.int u)) (.sc (.int 2)) = some (.sc (.int (u % 2))) := fun u => ZI _ _ (by decide)
 have q0 := Int.emod_nonneg (c / 2 / 1999999973) (show (1999999943 : Int) ≠ 0 by decide)
 have q1 := Int.emod_lt_of_pos (c / 2 / 1999999973) (show (0 : Int) < 1999999943 by decide)
 obtain ⟨one, two, fd, a, b, e1, hf⟩ := Zh6 (fun j => decide (j < 2) || walked [.bin .Add (.v 1) (.k (.int 2))] j) (fun _ _ => false) 0 rfl rfl rfl rfl rfl (I c) (I m) (I (c / 2)) .hole (rngI 0 (m + 2)) (c / 2 % 1999999973) (c / 2 / 1999999973 % 1999999943) [] .hole .hole q0 (by omega) (by rw [Z5, List.length_nil]; omega)
 rw [Z5, List.length_nil, Nat.zero_add] at e1
 simp only [walked, Bool.or_false, Ls, Zce] at hf
 have hit : itW .rng1 [.sc (.int ((m : Int) + 2))] = some (dI (rngI 0 (m + 2))) := by
  have := Zfg ((m : Int) + 2) (by omega)
  rwa [show ((m : Int) + 2).toNat = m + 2 by omega] at this
 have hit2 : itW .rng1 [.sc (.int (m : Int))] = some (dI (rngI 0 m)) := by
  have := Zfg (m : Int) (by omega)
  rwa [Int.toNat_natCast] at this
 have hcc : cutI fd (some 2) none = fd.drop 2 := by
  have e2 := HT.Zdo fd.length 0 2
  rw [show ((2 : Nat) : Int) = 2 from rfl] at e2
  have e3 : HT.sIx fd.length fd.length none = fd.length := rfl
  unfold cutI
  rw [e2, e3, Nat.min_eq_left (by omega)]
  exact List.take_of_length_le (by rw [List.length_drop]; omega)
 have hc : cutD (dI fd) (some 2) none = dI (fd.drop 2) := by rw [ZaI, hcc]
 have hdl : (fd.drop 2).length = m := by rw [List.length_drop]; omega
 generalize fd.drop 2 = gd at hc hdl
 obtain ⟨rest, hd, a8, e3, hg⟩ := ZjC (fun j => decide (j < 2) || walked [.v 1] j) (fun _ _ => false) 0 rfl rfl rfl (I c) (I m) (I one) (I two) a b m 0 (c / 2) gd .hole (by omega)
 rw [show ((0 : Nat) : Int) = 0 from rfl] at hg
 simp only [walked, Bool.or_false] at hg
 have hn0 : newL [] = some (.node .lst true []) := ZX _ (by simp)
 by_cases h2 : c % 2 = 0
 . refine ⟨gd, hdl, ?_⟩
   rw [show Zo.run = Zi C0 2 9 Zaf from rfl]
   rw [runA (show [I c, I m].length = 2 from rfl)]
   unfold Zaf
   simp only [List.replicate, Nat.reduceSub]
   (simp_all [d1, d2, d3, d4, d5, hn0, hit, hf, hc, Zl, h2, V.int.injEq]) <;> rfl
 . refine ⟨hd, by omega, ?_⟩
   rw [show Zo.run = Zi C0 2 9 Zaf from rfl]
   rw [runA (show [I c, I m].length = 2 from rfl)]
   unfold Zaf
   simp only [List.replicate, Nat.reduceSub]
   (simp_all [d1, d2, d3, d4, d5, hn0, hit, hit2, hf, hc, hg, Zl, h2, V.int.injEq]) <;> rfl
theorem ZjD (ns : List Int) : ∃ c : Int, ZA.run [scr ns, I 0] = .ok (I c, [scr ns, I 0]) := by
 rw [show ZA.run = Zi C0 2 2 Zbp from rfl]
 rw [runA (show [scr ns, I 0].length = 2 from rfl)]
 unfold Zbp
 simp only [List.replicate, Nat.reduceSub]
 have hc : cutD (ns.map fun i => D.sc (.int i)) (some 0) (some (0 + 1)) = dI (cutI ns (some 0) (some (0 + 1))) := ZaI ns _ _
 generalize cutI ns (some 0) (some (0 + 1)) = cs at hc
 have sm := Zb0 cs
 refine ⟨cs.sum, ?_⟩
 (simp_all [hc, sm, scr]) <;> rfl
theorem ZnB (r : Int) (h0 : 0 <= r) (h1 : r < 12) : ∃ p : Int, p ∈ PR /\ 7 <= p /\ p <= 47 /\ ((ixN' 12 r).bind fun j => [D.sc (.int 7), D.sc (.int 11), D.sc (.int 13), D.sc (.int 17), D.sc (.int 19), D.sc (.int 23), D.sc (.int 29), D.sc (.int 31), D.sc (.int 37), D.sc (.int 41), D.sc (.int 43), D.sc (.int 47)][j]?) = some (.sc (.int p)) := by
 have hb : ∀ k : Nat, k < 12 -> ([7, 11, 13, 17, 19, 23, 29, 31, 37, 41, 43, 47] : List Int).getD k 0 ∈ PR /\ 7 <= ([7, 11, 13, 17, 19, 23, 29, 31, 37, 41, 43, 47] : List Int).getD k 0 /\ ([7, 11, 13, 17, 19, 23, 29, 31, 37, 41, 43, 47] : List Int).getD k 0 <= 47 := by decide
 obtain ⟨b1, b2, b3⟩ := hb r.toNat (by omega)
 exact ⟨_, b1, b2, b3, ixI [7, 11, 13, 17, 19, 23, 29, 31, 37, 41, 43, 47] r h0 (by simpa using h1)⟩
theorem Zqu (p a b c d r : Int) (h0 : 0 <= r) (h1 : r < 4) (ha : 1 <= a /\ a <= p) (hb : 1 <= b /\ b <= p) (hc : 1 <= c /\ c <= p) (hd : 1 <= d /\ d <= p) : ∃ x : Int, 1 <= x /\ x <= p /\ ((ixN' 4 r).bind fun j => [D.sc (.int a), D.sc (.int b), D.sc (.int c), D.sc (.int d)][j]?) = some (.sc (.int x)) := by
 have e := ixI [a, b, c, d] r h0 (by simpa using h1)
 have : r.toNat = 0 \/ r.toNat = 1 \/ r.toNat = 2 \/ r.toNat = 3 := by omega
 rcases this with h | h | h | h <;> rw [h] at e
 . exact ⟨a, ha.1, ha.2, e⟩
 . exact ⟨b, hb.1, hb.2, e⟩
 . exact ⟨c, hc.1, hc.2, e⟩
 . exact ⟨d, hd.1, hd.2, e⟩
theorem ZjE (ns : List Int) : ∃ p r : Int, p ∈ PR /\ 7 <= p /\ p <= 47 /\ 1 <= r /\ r <= p - 5 /\ ZaU.run [scr ns] = .ok (.node .tup true [I p, I r], [scr ns]) := by
 obtain ⟨c, hc⟩ := ZjD ns
 obtain ⟨ys, hy, hs⟩ := ZbT c 3 (by decide)
 have i0 := ixI ys 0 (by decide) (by omega)
 have i1 := ixI ys 1 (by decide) (by omega)
 have i2 := ixI ys 2 (by decide) (by omega)
 generalize ys.getD (0 : Int).toNat 0 = y0 at i0
 generalize ys.getD (1 : Int).toNat 0 = y1 at i1
 generalize ys.getD (2 : Int).toNat 0 = y2 at i2
 obtain ⟨p, p1, p2, p3, hp⟩ := ZnB (y0 % 12) (Int.emod_nonneg _ (by decide)) (Int.emod_lt_of_pos _ (by decide))
 have m0 : ∀ u : Int, 0 <= u % (p - 5) /\ u % (p - 5) < p - 5 := fun u => ⟨Int.emod_nonneg _ (by omega), Int.emod_lt_of_pos _ (by omega)⟩
 obtain ⟨r, r1, r2, hr⟩ := Zqu (p - 5) (1 + y1 % (p - 5)) 1 (p - 5) (1 + y1 % 4 % (p - 5)) (y2 % 4) (Int.emod_nonneg _ (by decide)) (Int.emod_lt_of_pos _ (by decide)) (by have := m0 y1; omega) (by omega) (by omega) (by have := m0 (y1 % 4); omega)
 refine ⟨p, r, p1, p2, p3, r1, r2, ?_⟩
 rw [show ZaU.run = Zi C0 1 3 Zbq from rfl]
 rw [runA (show [scr ns].length = 1 from rfl)]
 unfold Zbq
 simp only [List.replicate, Nat.reduceSub]
 have k1 : ZA.lend = true := rfl
 have k2 : Zo.lend = true := rfl
 have e12 : ∀ u : Int, binW .Mod (.sc (.int u)) (.sc (.int 12)) = some (.sc (.int (u % 12))) := fun u => ZI _ _ (by decide)
 have e4 : ∀ u : Int, binW .Mod (.sc (.int u)) (.sc (.int 4)) = some (.sc (.int (u % 4))) := fun u => ZI _ _ (by decide)
 have e5 : ∀ u : Int, binW .Mod (.sc (.int u)) (.sc (.int (p - 5))) = some (.sc (.int (u % (p - 5)))) := fun u => ZI _ _ (by omega)
 have hw4 : ∀ u v w y : D, newL [u, v, w, y] = some (.node .lst true [u, v, w, y]) := fun u v w y => ZX _ (by rw [szl]; simp)
 have hw12 : newL [D.sc (.int 7), D.sc (.int 11), D.sc (.int 13), D.sc (.int 17), D.sc (.int 19), D.sc (.int 23), D.sc (.int 29), D.sc (.int 31), D.sc (.int 37), D.sc (.int 41), D.sc (.int 43), D.sc (.int 47)] = some (.node .lst true [D.sc (.int 7), D.sc (.int 11), D.sc (.int 13), D.sc (.int 17), D.sc (.int 19), D.sc (.int 23), D.sc (.int 29), D.sc (.int 31), D.sc (.int 37), D.sc (.int 41), D.sc (.int 43), D.sc (.int 47)]) := ZX _ (by rw [szl]; simp)
 have hw2 : ∀ u v : D, newT [u, v] = some (.node .tup true [u, v]) := fun u v => Zll _ (by rw [szl]; simp)
 have e3 : ((3 : Nat) : Int) = 3 := rfl
 rw [e3] at hs
 simp only [scr] at hc ⊢
 (simp_all [k1, k2, hc, hs, i0, i1, i2, e12, e4, e5, hw4, hw12, hw2, hp, hr, Zl]) <;> rfl
theorem ZjF (h0 : lk 0 = false) (p : Int) (hp : 0 < p) : ∀ (xs acc : List Int) (a : D), ∃ a',
 Z9 (asgT lk (.name 0)) (tsts ⟨lk, fok, fuel⟩ []) (evb ⟨lk, fok, fuel⟩ (.bin .Mod (.v 0) (.v 1))).1 (dI xs) (dI acc) [a, I p] = .ok (dI (acc ++ xs.map (· % p)), [a', I p]) := by
 intro xs
 induction xs with
 | nil => exact fun acc a => ⟨a, by rw [List.map_nil, List.append_nil]; rfl⟩
 | cons x xs ih =>
  intro acc a
  obtain ⟨a', ih⟩ := ih (acc ++ [x % p]) (I x)
  refine ⟨a', ?_⟩
  rw [List.map_cons, show acc ++ (x % p :: xs.map (· % p)) = acc ++ [x % p] ++ xs.map (· % p) by rw [List.append_assoc]; rfl, <- ih, ZN, ZaD, Zaa]
  simp_all [h0, ZI _ _ hp]
theorem ZjG (h3 : lk 3 = false) (h4 : lk 4 = false) (h5 : lk 5 = false) (s x2 : D) (p : Int) (hp : 0 < p) : ∀ (cs row : List Int) (a b : D), row.length + 5 * cs.length <= 900 -> (∀ x ∈ row, 0 <= x /\ x < p) -> ∃ (row' : List Int) (a' b' : D), row'.length <= 900 /\ (∀ x ∈ row', 0 <= x /\ x < p) /\
 forL (asgT lk (.name 4)) (exs ⟨lk, fok, fuel⟩ [.asg 5 (.call Zo [.v 4, .k (.int 5)]), .asg 3 (.bin .Add (.v 3) (.comp 1 [1] (.name 0) .val [.sl (.v 5) (.k .non) (.bin .Mod (.ix (.v 5) (.k (.int 4))) (.k (.int 5)))] [] (.bin .Mod (.v 0) (.v 1))))]) (dI cs) [s, I p, x2, Ls true row, a, b]
  = .ok (.nx, [s, I p, x2, Ls true row', a', b']) := by
 intro cs
 induction cs with
 | nil => exact fun row a b hl hx => ⟨row, a, b, by rw [List.length_nil] at hl; omega, hx, rfl⟩
 | cons c cs ih =>
  intro row a b hl hx
  rw [List.length_cons] at hl
  obtain ⟨ys, hy, hs⟩ := ZbT c 5 (by decide)
  have i4 := ixI ys 4 (by decide) (by omega)
  generalize ys.getD (4 : Int).toNat 0 = y4 at i4
  have hc : cutD (dI ys) none (some (y4 % 5)) = dI (cutI ys none (some (y4 % 5))) := ZaI ys _ _
  have hcl : (cutI ys none (some (y4 % 5))).length <= 5 := by
   have := Zd0 ys none (some (y4 % 5))
   omega
  generalize cutI ys none (some (y4 % 5)) = zs at hc hcl
  have hzs : ∀ x ∈ zs.map (· % p), 0 <= x /\ x < p := fun x h => by
   obtain ⟨z, _, rfl⟩ := List.mem_map.mp h
   (exact ⟨Int.emod_nonneg _ (by omega), Int.emod_lt_of_pos _ hp⟩)
  obtain ⟨a0, hm⟩ := ZjF (fun i => decide (1 <= i)) fok fuel rfl p hp zs [] .hole
  rw [List.nil_append] at hm
  have hzl : (zs.map (· % p)).length <= 5 := by rw [List.length_map]; exact hcl
  generalize zs.map (· % p) = ws at hm hzs hzl
  replace hm : ZF fok fuel 1 (.name 0) [] (.bin .Mod (.v 0) (.v 1)) (dI zs) [] [.hole, I p] = _ := hm
  have hm1 : ∀ x0 x2 x3 x4 x5 : D, ZW 1 [1] (ZF fok fuel 1 (.name 0) [] (.bin .Mod (.v 0) (.v 1)) (dI zs) []) [x0, I p, x2, x3, x4, x5] = .ok (Ls true ws, [x0, I p, x2, x3, x4, x5]) := fun x0 x2 x3 x4 x5 => by
   rw [ZQ (js := [1]) (caps := [I p]) (δ1 := [x0, .hole, x2, x3, x4, x5]) rfl hm (by rw [Zv, szl]; omega)]
   rfl
  obtain ⟨row', a', b', e1, e2, ih⟩ := ih (row ++ ws) (I c) (Ls true ys) (by rw [List.length_append]; omega) (fun x h => by
   (rcases List.mem_append.mp h with h | h)
   . exact hx x h
   . exact hzs x h)
  refine ⟨row', a', b', e1, e2, ?_⟩
  have k2 : Zo.lend = true := rfl
  have e5 : ((5 : Nat) : Int) = 5 := rfl
  rw [e5] at hs
  have m5 : ∀ u : Int, binW .Mod (.sc (.int u)) (.sc (.int 5)) = some (.sc (.int (u % 5))) := fun u => ZI _ _ (by decide)
  have hcat : binW .Add (.nd .lst (dI row)) (.nd .lst (dI ws)) = some (Ls true (row ++ ws)) := by
   rw [Zff _ _ (by rw [List.length_append, Zv, Zv, szl]; omega), <- Zaa]
  rw [<- ih, ZN, ZbP]
  simp_all [h3, h4, h5, k2, hs, i4, m5, hc, hm1, hcat, Zl]
theorem Zl3 (ns : List Int) (p r : Int) (hn : ns.length <= 63) (hp : 7 <= p) (hp2 : p <= 47) (h1 : 1 <= r) (h2 : r <= p - 5) : ∃ row : List Int, row.length <= 900 /\ (row.length : Int) <= r * (p - 1) /\ (∀ x ∈ row, 0 <= x /\ x < p) /\ Zbr.run [scr ns, I p, I r] = .ok (Ls true row, [scr ns, I p, I r]) := by
 have hc : cutD (ns.map fun i => D.sc (.int i)) (some 30) (some 63) = dI (cutI ns (some 30) (some 63)) := ZaI ns _ _
 have hcl := Zd0 ns (some 30) (some 63)
 generalize cutI ns (some 30) (some 63) = cs at hc hcl
 obtain ⟨row, a, b, e1, e2, hf⟩ := ZjG (fun j => decide (j < 3) || walked [.sl (.v 0) (.k (.int 1)) (.k (.int 63))] j) (fun _ _ => false) 0 rfl rfl rfl (scr ns) (I r) p (by omega) cs [] .hole .hole (by rw [List.length_nil]; omega) (by simp)
 simp only [walked, Bool.or_false, Ls, Zce] at hf
 have hm : binW .Mult (.sc (.int r)) (.sc (.int (p - 1))) = some (.sc (.int (r * (p - 1)))) := ZcJ _ _ (.inl (by omega))
 have hpos : 0 <= r * (p - 1) := Int.mul_nonneg (by omega) (by omega)
 have hc2 : cutD (dI row) none (some (r * (p - 1))) = dI (cutI row none (some (r * (p - 1)))) := ZaI row _ _
 have hl2 : ((cutI row none (some (r * (p - 1)))).length : Int) <= r * (p - 1) := by
  unfold cutI
  rw [List.length_take]
  have e : HT.sIx row.length row.length (some (r * (p - 1))) = min (r * (p - 1)).toNat row.length := by
   have := HT.Zdo row.length row.length (r * (p - 1)).toNat
   rwa [Int.toNat_of_nonneg hpos] at this
  rw [e]
  omega
 have hl3 := Zd0 row none (some (r * (p - 1)))
 have hx : ∀ x ∈ cutI row none (some (r * (p - 1))), 0 <= x /\ x < p := fun x h => by
  unfold cutI at h
  exact e2 x (List.mem_of_mem_drop (List.mem_of_mem_take h))
 generalize cutI row none (some (r * (p - 1))) = out at hc2 hl2 hl3 hx
 refine ⟨out, by omega, hl2, hx, ?_⟩
 rw [show Zbr.run = Zi C0 3 6 Zb8 from rfl]
 rw [runA (show [scr ns, I p, I r].length = 3 from rfl)]
 unfold Zb8
 simp only [List.replicate, Nat.reduceSub]
 have hn0 : newL [] = some (.node .lst true []) := ZX _ (by simp)
 have hsh : ∀ xs : List Int, shrL (dI xs) = dI xs := Zl
 have hv : ∀ ds : List D, itW .val [.nd .lst ds] = some ds := fun ds => rfl
 simp only [scr] at hf ⊢
 (simp_all [hn0, hc, hsh, hv, hf, hm, hc2]) <;> rfl
noncomputable def good (p : Int) (xs : List Int) : Bool := decide (xs.sum % p = 0) && decide ((wts 1 xs).sum % p = 0)
theorem ZjH (p : Int) (xs : List Int) (o : Bool) (hp : 0 < p) (hl : xs.length <= 1000) : Zcr.run [I p, Ls o xs] = .ok (.sc (.bl (good p xs)), [I p, Ls o xs]) := by
 walk_at "r"
 unfold good
 have l1 : Zaw.lend = true := rfl
 have l2 : Zap.lend = true := rfl
 have r1 := fun o => Zdh p xs o hp
 have r2 := fun o => ZdB p xs o hp hl
 by_cases h : xs.sum % p = 0
 . cases o <;> (simp_all [l1, l2, r1, r2, h, V.int.injEq]) <;> rfl
 . cases o <;> (simp_all [l1, l2, r1, r2, h, V.int.injEq]) <;> rfl
theorem ZjI (p : Int) (xs : List Int) : good p (lab p xs) = true := by
 have e1 : (lab p xs).sum = xs.sum + (other p xs (lst2 p xs) + lst2 p xs) := by unfold lab; simp [List.sum_append, Int.add_assoc]
 have e2 : (wts 1 (lab p xs)).sum = (wts 1 xs).sum + ((1 + (xs.length : Int)) * other p xs (lst2 p xs) + (1 + (xs.length : Int) + 1) * lst2 p xs) := by unfold lab; rw [ZgI, List.sum_append]; simp [wts]
 have h1 : p ∣ (xs.sum + (other p xs (lst2 p xs) + lst2 p xs)) := by
  have := Int.emod_add_mul_ediv (0 - xs.sum - lst2 p xs) p
  refine ⟨-((0 - xs.sum - lst2 p xs) / p), ?_⟩
  rw [Int.mul_neg]
  unfold other
  omega
 have h2 : p ∣ ((wts 1 xs).sum + ((1 + (xs.length : Int)) * other p xs (lst2 p xs) + (1 + (xs.length : Int) + 1) * lst2 p xs)) := by
  have a1 := Int.emod_add_mul_ediv (0 - xs.sum - lst2 p xs) p
  have a2 := Int.emod_add_mul_ediv (((xs.length : Int) + 1) * xs.sum - (wts 1 xs).sum) p
  have b2 : lst2 p xs + p * ((((xs.length : Int) + 1) * xs.sum - (wts 1 xs).sum) / p) = ((xs.length : Int) + 1) * xs.sum - (wts 1 xs).sum := a2
  have b1 : other p xs (lst2 p xs) = 0 - xs.sum - lst2 p xs - p * ((0 - xs.sum - lst2 p xs) / p) := by unfold other; omega
  rw [b1]
  generalize (0 - xs.sum - lst2 p xs) / p = a at *
  generalize (((xs.length : Int) + 1) * xs.sum - (wts 1 xs).sum) / p = b at *
  generalize lst2 p xs = l at *
  generalize (wts 1 xs).sum = W at *
  generalize xs.sum = S at *
  generalize (xs.length : Int) = n at *
  refine ⟨-b - (1 + n) * a, ?_⟩
  have c1 : (1 + n) * (0 - S - l - p * a) = -(n * S) - S - (n * l) - l - p * ((1 + n) * a) := by
   have d1 : (1 + n) * S = S + n * S := by rw [Int.add_mul, Int.one_mul]
   have d2 : (1 + n) * l = l + n * l := by rw [Int.add_mul, Int.one_mul]
   rw [Int.mul_sub, Int.mul_sub, Int.mul_sub, Int.mul_left_comm (1 + n) p a, d1, d2, Int.mul_zero]
   omega
  have c2 : (1 + n + 1) * l = n * l + l + l := by rw [Int.add_mul, Int.add_mul, Int.one_mul]; omega
  have c3 : (n + 1) * S = n * S + S := by rw [Int.add_mul, Int.one_mul]
  rw [c3] at b2
  rw [c1, c2, Int.mul_sub, Int.mul_neg]
  omega
 unfold good
 rw [e1, e2, Int.emod_eq_zero_of_dvd h1, Int.emod_eq_zero_of_dvd h2]
 rfl
theorem ZiB (C : Addr) (lk : Nat -> Bool) (h0 : lk 0 = false) (p r : Int) : ∀ (xs : List Int) (n : Nat) (a : D), (∀ x ∈ xs, 0 <= x /\ x < p) -> ∃ a',
 Z9 (asgT lk (.name 0)) (tsts ⟨lk, (CK C).fok, (CK C).fuel⟩ []) (evb ⟨lk, (CK C).fok, (CK C).fuel⟩ (.call ZG [.fld (.v 1) "size", .v 0])).1 (dI xs) (List.replicate n (.sc (.bl true))) [a, Ro C true p r] = .ok (List.replicate (n + xs.length) (.sc (.bl true)), [a', Ro C true p r]) := by
 intro xs
 induction xs with
 | nil => exact fun n a _ => ⟨a, rfl⟩
 | cons x xs ih =>
  intro n a hx
  obtain ⟨a', ih⟩ := ih (n + 1) (I x) fun y hy => hx y (List.mem_cons_of_mem _ hy)
  refine ⟨a', ?_⟩
  have hr := ZgJ p x (hx x List.mem_cons_self).1 (hx x List.mem_cons_self).2
  have l1 : ZG.lend = true := rfl
  have f1 := Zd2 C (I p) (I r)
  rw [List.length_cons, show n + (xs.length + 1) = n + 1 + xs.length by omega, <- ih, ZN, ZaD, List.replicate_succ']
  simp_all [h0, l1, f1, hr]
theorem ZiC (C : Addr) (p r : Int) (l : List Int) (hp : 0 < p) (hz : l.length <= 1000) (hl : (l.length : Int) = r + 5) (hr : 1 <= r) (hx : ∀ x ∈ l, 0 <= x /\ x < p) (hg : good p l = true) (h1 : l.getD 1 0 ≠ 0) (h0 : l.getD 0 0 <= l.getD 1 0) :
 (Z1 C).run [Ro C true p r, Ls false l] = .ok (.sc (.bl true), [Ro C true p r, Ls false l]) := by
 walk_at "r"
 obtain ⟨a', hc⟩ := ZiB C (fun i => decide (1 <= i)) rfl p r l 0 .hole hx
 rw [Nat.zero_add] at hc
 replace hc : ZF (CK C).fok (CK C).fuel 1 (.name 0) [] (.call ZG [.fld (.v 1) "size", .v 0]) (dI l) [] [.hole, Ro C true p r] = _ := hc
 have hm1 : ∀ x1 : D, ZW 1 [0] (ZF (CK C).fok (CK C).fuel 1 (.name 0) [] (.call ZG [.fld (.v 1) "size", .v 0]) (dI l) []) [Ro C true p r, x1] = .ok (.node .lst true (List.replicate l.length (.sc (.bl true))), [Ro C true p r, x1]) := fun x1 => by
  rw [ZQ (js := [0]) (caps := [Ro C true p r]) (δ1 := [.hole, x1]) rfl hc (by rw [List.length_replicate, szl]; omega)]
  rfl
 have k1 : Zcr.lend = true := rfl
 have r1 := fun o => ZjH p l o hp hz
 have f1 := Zd2 C (I p) (I r)
 have f2 := Zer C (I p) (I r)
 have i1 := ixI l 1 (by omega) (by omega)
 have i0 := ixI l 0 (by omega) (by omega)
 have hdl : ((dI l).length : Int) = r + 5 := by rw [Zv]; exact hl
 simp only [Int.toNat_one, Int.toNat_zero] at i1 i0
 generalize l.getD 1 0 = y1 at *
 generalize l.getD 0 0 = y0 at *
 (simp_all [Zd1, Zeq, hdl, Zl, hm1, ZgM, k1, r1, hg, f1, f2, i1, i0, V.int.injEq, h1, h0]) <;> rfl
theorem Zl4 (C : Addr) (lk : Nat -> Bool) (h2 : lk 2 = false) (h3 : lk 3 = false) (p r : Int) (X : D) : ∀ (ls : List (List Int)) (c : Int) (a b : D), (∀ l ∈ ls, (Z1 C).run [Ro C true p r, Ls false l] = .ok (.sc (.bl true), [Ro C true p r, Ls false l])) -> ∃ a' b',
 forL (asgT lk (.tup [2, 3])) (exs ⟨lk, (CK C).fok, (CK C).fuel⟩ [.iff (.nt (.meth C "is_label" (Z1 C) (.v 0) [.v 3])) [.raise (.k .non)] []]) (ZE c (dL false ls)) [Ro C true p r, X, a, b] = .ok (.nx, [Ro C true p r, X, a', b']) := by
 intro ls
 induction ls with
 | nil => exact fun c a b _ => ⟨a, b, rfl⟩
 | cons x xs ih =>
  intro c a b hx
  obtain ⟨a', b', ih⟩ := ih (c + 1) (I c) (Ls false x) fun y hy => hx y (List.mem_cons_of_mem _ hy)
  refine ⟨a', b', ?_⟩
  rw [<- ih, Zb2, ZE, ZbP]
  have hr := hx x List.mem_cons_self
  have l1 : (Z1 C).lend = true := rfl
  have hck : ∀ x1 x2 x3 : D, chkI C "is_label" (.late 0) [Ro C true p r, x1, x2, x3] = .ok ((), [Ro C true p r, x1, x2, x3]) := fun x1 x2 x3 => ZbS C _ 0 _ fs2 true _ rfl (by decide)
  simp_all [h2, h3, Zcf, hck, l1, hr]
theorem Zh7 (C : Addr) (p r : Int) (o a : Bool) (ls : List (List Int)) (ha : o = false -> a = false) (h : ∀ l ∈ ls, (Z1 C).run [Ro C true p r, Ls false l] = .ok (.sc (.bl true), [Ro C true p r, Ls false l])) :
 (Zal C).run [Ro C true p r, .node .lst o (dL a ls)] = .ok (.sc .non, [Ro C true p r, .node .lst o (dL false ls)]) := by
 walk_at "r"
 have hs := fun X => Zl4 C (fun j => decide (j < 2) || walked [.v 1, .k (.int 0)] j) rfl rfl p r X ls 0 .hole .hole h
 simp only [walked, Bool.or_false] at hs
 cases o
 . cases ha rfl
   obtain ⟨a', b', hs⟩ := hs (.node .lst false (dL false ls))
   simp_all [Z3, it_e _ 0 (by decide), hs]
   rfl
 . obtain ⟨a', b', hs⟩ := hs .hole
   simp_all [Z3, it_e _ 0 (by decide), hs]
   rfl
theorem ixL (o : Bool) (B : List (List Int)) (k : Nat) (h : k < B.length) : ((ixN' (dL o B).length (k : Int)).bind fun j => (dL o B)[j]?) = some (Ls o (B.getD k [])) := by
 rw [Zbx (dL o B).length k (by rw [ZK]; exact h), Option.bind_some, List.getElem?_map, List.getElem?_eq_getElem h, List.getD_eq_getElem?_getD, List.getElem?_eq_getElem h]
 rfl
noncomputable abbrev dK (ks : List Int) : List Key := ks.map Sum.inl
noncomputable def ins (acc : List Int) (k : Int) : List Int := if k ∈ acc then acc else acc ++ [k]
noncomputable def dd : List Int -> List Int -> List Int
 | acc, [] => acc
 | acc, k :: ks => dd (ins acc k) ks
theorem Zc8 (F : Int -> List Int) (k : Int) : ∀ ds : List Int, k ∈ ds -> ZH (.inl k) (dK ds) (dL false (ds.map F)) = some (Ls false (F k))
 | [], h => by cases h
 | d :: ds, h => by
  show (if (Sum.inl d : Key) = Sum.inl k then some (Ls false (F d)) else ZH (.inl k) (dK ds) (dL false (ds.map F))) = _
  by_cases e : d = k
  . subst e; rw [if_pos rfl]
  . rw [if_neg fun q => e (by cases q; rfl), Zc8 F k ds ((List.mem_cons.mp h).resolve_left fun q => e q.symm)]
theorem ZdO {α : Type} (k : Int) : ∀ (ds : List Int) (xs : List α), k ∉ ds -> ZH (.inl k) (dK ds) xs = none
 | [], _, _ => by cases ‹List α› <;> rfl
 | d :: ds, [], _ => rfl
 | d :: ds, x :: xs, h => by
  show (if (Sum.inl d : Key) = Sum.inl k then some x else ZH (.inl k) (dK ds) xs) = _
  rw [if_neg fun q => h (by cases q; exact List.mem_cons_self), ZdO k ds xs fun q => h (List.mem_cons_of_mem _ q)]
theorem ZdP {α : Type} (k : Int) (x : α) : ∀ (ds : List Int) (xs : List α), ds.length = xs.length -> k ∉ ds -> ZbM (.inl k) x (dK ds) xs = some (dK (ds ++ [k]), xs ++ [x])
 | [], [], _, _ => rfl
 | d :: ds, y :: xs, hl, h => by
  show (if (Sum.inl d : Key) = Sum.inl k then _ else (ZbM (.inl k) x (dK ds) xs).map fun r => ((Sum.inl d : Key) :: r.1, y :: r.2)) = _
  rw [if_neg fun q => h (by cases q; exact List.mem_cons_self), ZdP k x ds xs (by simpa using hl) fun q => h (List.mem_cons_of_mem _ q)]
  rfl
 | [], _ :: _, hl, _ => by cases hl
 | _ :: _, [], hl, _ => by cases hl
noncomputable abbrev Di (o : Bool) (ds : List Int) (xs : List D) : D := .node (.dic (dK ds)) o xs
theorem Zl5 (F : Int -> List Int) (k : Int) (acc : List Int) (hl : acc.length <= 1000) (δ : List D) :
 mdR 1 δ (ZdY (I k) (Ls false (F k))) (some (Di true acc (dL false (acc.map F)))) = .ok (Ls false (F k), δ.set 1 (Di true (ins acc k) (dL false ((ins acc k).map F)))) := by
 have e : ZdY (I k) (Ls false (F k)) (.dic (dK acc)) (dL false (acc.map F)) = some (Ls false (F k), .dic (dK (ins acc k)), dL false ((ins acc k).map F)) := by
  show (match ZH (.inl k) (dK acc) (dL false (acc.map F)) with
   | some x => if ZdX x then some (x, Kd.dic (dK acc), dL false (acc.map F)) else none
   | none => if ZdX (Ls false (F k)) && decide ((dL false (acc.map F)).length < sizeLine) then (ZbM (.inl k) (Ls false (F k)) (dK acc) (dL false (acc.map F))).map fun r : List Key × List D => (Ls false (F k), Kd.dic r.1, r.2) else none) = _
  unfold ins
  by_cases h : k ∈ acc
  . rw [Zc8 F k acc h, if_pos h]
    rfl
  . rw [ZdO k acc _ h, if_neg h]
    dsimp only
    rw [ZdP k _ acc _ (by rw [ZK, List.length_map]) h, ZK, List.length_map, szl, decide_eq_true (by omega)]
    rw [List.map_append, ZaV]
    rfl
 show (match ZdY (I k) (Ls false (F k)) (.dic (dK acc)) (dL false (acc.map F)) with
  | some (r, k', ds') => Rs.ok (r, δ.set 1 (.node k' true ds'))
  | none => .stuck) = _
 rw [e]
theorem ZiD : ∀ (ks acc : List Int), (dd acc ks).length <= acc.length + ks.length
 | [], acc => Nat.le_add_right _ _
 | k :: ks, acc => by
  have := ZiD ks (ins acc k)
  have h : (ins acc k).length <= acc.length + 1 := by unfold ins; split <;> simp
  show (dd (ins acc k) ks).length <= acc.length + (ks.length + 1)
  omega
theorem ZjJ (h2 : lk 2 = false) (h3 : lk 3 = false) (F : Int -> List Int) (n : Int) (l0 : List Int) (tl : List (List Int)) (hl0 : 2 <= l0.length) (hn0 : l0.getD 1 0 = n) : ∀ (ks acc : List Int) (c : Int) (a b : D), acc.length + ks.length <= 1000 -> (∀ k ∈ ks, 2 <= (F k).length /\ (F k).getD 0 0 = k /\ (F k).getD 1 0 = n) -> ∃ a' b',
 forL (asgT lk (.tup [2, 3])) (exs ⟨lk, fok, fuel⟩ [.iff (.or (.cmp .NotEq (.ix (.v 3) (.k (.int 1))) (.ix (.ix (.v 0) (.k (.int 0))) (.k (.int 1)))) (.cmp .NotEq (.sdef 1 (.ix (.v 3) (.k (.int 0))) (.v 3)) (.v 3))) [.raise (.k .non)] []]) (ZE c (dL false (ks.map F)))
  [.node .lst false (dL false (l0 :: tl)), Di true acc (dL false (acc.map F)), a, b] = .ok (.nx, [.node .lst false (dL false (l0 :: tl)), Di true (dd acc ks) (dL false ((dd acc ks).map F)), a', b']) := by
 intro ks
 induction ks with
 | nil => exact fun acc c a b _ _ => ⟨a, b, rfl⟩
 | cons k ks ih =>
  intro acc c a b hz hF
  rw [List.length_cons] at hz
  have h : (ins acc k).length <= acc.length + 1 := by unfold ins; split <;> simp
  obtain ⟨a', b', ih⟩ := ih (ins acc k) (c + 1) (I c) (Ls false (F k)) (by omega) fun y hy => hF y (List.mem_cons_of_mem _ hy)
  refine ⟨a', b', ?_⟩
  obtain ⟨q1, q2, q3⟩ := hF k List.mem_cons_self
  have i1 := ixI (F k) 1 (by omega) (by omega)
  have i0 := ixI (F k) 0 (by omega) (by omega)
  have j1 := ixI l0 1 (by omega) (by omega)
  have jl : ((ixN' (dL false (l0 :: tl)).length 0).bind fun j => (dL false (l0 :: tl))[j]?) = some (Ls false l0) := ixL false (l0 :: tl) 0 (by simp)
  simp only [Int.toNat_one, Int.toNat_zero, q2, q3, hn0] at i1 i0 j1
  have sd := Zl5 F k acc (by omega)
  have ne := Zh4 (F k) (F k)
  simp only [decide_true, Bool.not_true] at ne
  rw [show dd acc (k :: ks) = dd (ins acc k) ks from rfl, <- ih, List.map_cons, Zb2, ZE, ZbP]
  generalize dL false (l0 :: tl) = L0 at *
  have ck : ∀ (x0 a b : D) (X : List D), chkD 1 [x0, Di true acc X, a, b] = .ok ((), [x0, Di true acc X, a, b]) := fun _ _ _ _ => rfl
  simp_all [h2, h3, Zcf, Zfe, ck, i1, i0, j1, jl, sd, ne, V.int.injEq]
theorem Zl6 (F : Int -> List Int) (n : Int) (ks : List Int) (hk : ks ≠ []) (hz : ks.length <= 1000) (hF : ∀ k ∈ ks, 2 <= (F k).length /\ (F k).getD 0 0 = k /\ (F k).getD 1 0 = n) :
 Zau.run [.node .lst false (dL false (ks.map F))] = .ok (Di true (dd [] ks) (dL false ((dd [] ks).map F)), [.node .lst false (dL false (ks.map F))]) := by
 walk_at "r"
 obtain ⟨k, kt, rfl⟩ := List.exists_cons_of_ne_nil hk
 have h0 := hF k List.mem_cons_self
 obtain ⟨a', b', hs⟩ := ZjJ (fun j => decide (j < 1) || walked [.v 0, .k (.int 0)] j) (fun _ _ => false) 0 rfl rfl F n (F k) (kt.map F) h0.1 h0.2.2 (k :: kt) [] 0 .hole .hole (by simpa using hz) hF
 simp only [walked, Bool.or_false] at hs
 rw [<- List.map_cons (f := F)] at hs
 generalize dL false ((k :: kt).map F) = L0 at *
 simp only [Di, dK, dL, List.map_nil] at hs
 (simp_all [it_e _ 0 (by decide), hs]) <;> rfl
theorem Z5 : ∀ (n : Nat) (a : Int), (rngI a n).length = n
 | 0, _ => rfl
 | n + 1, a => by rw [rngI, List.length_cons, Z5]
theorem Zai : ∀ (n : Nat) (a x : Int), x ∈ rngI a n -> a <= x /\ x < a + n
 | 0, a, x, h => by simp [rngI] at h
 | n + 1, a, x, h => by
  rw [rngI] at h
  (rcases List.mem_cons.mp h with rfl | h)
  . omega
  . have := Zai n (a + 1) x h; omega
theorem ZfU {α : Type} (f : Int -> α) : ∀ (n : Nat) (a : Int), (rngI (a + 2) n).map f = (rngI a n).map fun q => f (q + 2)
 | 0, _ => rfl
 | n + 1, a => by
  rw [rngI, rngI, List.map_cons, List.map_cons, show a + 2 + 1 = a + 1 + 2 by omega, ZfU f n (a + 1)]
theorem ZgN (p r c q : Int) (h0 : 0 <= q) (hq : q < r + 1) (hr : 0 <= r) : ∀ (ps : List (List Int)) (k : Int), (∀ x ∈ ps, (x.length : Int) <= r) -> (lbls p r c k ps).map (fun l => l.getD (q + 2).toNat 0) = (ps.map (bdy r)).map fun l => l.getD q.toNat 0
 | [], _, _ => rfl
 | x :: ps, k, hx => by
  rw [lbls, List.map_cons, List.map_cons, List.map_cons, ZgN p r c q h0 hq hr ps (k + 1) fun y hy => hx y (List.mem_cons_of_mem _ hy)]
  congr 1
  have hb := Zc7 r x (hx x List.mem_cons_self)
  have e : (q + 2).toNat = q.toNat + 2 := by omega
  unfold lbl lab
  rw [e, List.getD_eq_getElem?_getD, List.getElem?_append_left (by rw [List.length_append, hb]; show q.toNat + 2 < 2 + (r.toNat + 1); omega), List.getD_eq_getElem?_getD]
  rfl
theorem ZiE (p r c : Int) (B : List (List Int)) : ∀ (ps : List (List Int)) (j : Nat) (tl : List (List Int)), B.drop j = ps.map (bdy r) ++ tl -> (rngI j ps.length).map (fun k => lab p ([k, c] ++ B.getD k.toNat [])) = lbls p r c j ps
 | [], j, tl, h => rfl
 | x :: ps, j, tl, h => by
  have hj : B.getD j [] = bdy r x := by
   have := congrArg (fun l => l[0]?) h
   simp only [List.map_cons, List.cons_append, List.getElem?_cons_zero, List.getElem?_drop, Nat.add_zero] at this
   rw [List.getD_eq_getElem?_getD, this]
   rfl
  have hd : B.drop (j + 1) = ps.map (bdy r) ++ tl := by
   have := congrArg (List.drop 1) h
   rw [List.drop_drop] at this
   simpa using this
  have ih := ZiE p r c B ps (j + 1) tl hd
  have ej : ((j + 1 : Nat) : Int) = (j : Int) + 1 := by omega
  rw [ej] at ih
  rw [List.length_cons, rngI, List.map_cons, Int.toNat_natCast, hj, ih]
  rfl
theorem ZbH : ∀ (n : Nat) (a : Int), rngI a (n + 1) = rngI a n ++ [a + n]
 | 0, a => by rw [rngI, rngI, rngI, Int.natCast_zero, Int.add_zero]; rfl
 | n + 1, a => by
  rw [rngI, ZbH n (a + 1), rngI, List.cons_append]
  congr 3
  show a + 1 + (n : Int) = a + ((n + 1 : Nat) : Int)
  omega
theorem ZiF (C : Addr) (lk : Nat -> Bool) (h0 : lk 0 = false) (F : Int -> List Int) (ds : List Int) : ∀ (ks acc : List Int) (a : D), ∃ a',
 Z9 (asgT lk (.name 0)) (tsts ⟨lk, (CK C).fok, (CK C).fuel⟩ [.cmp .NotIn (.v 0) (.v 1)]) (evb ⟨lk, (CK C).fok, (CK C).fuel⟩ (.v 0)).1 (dI ks) (dI acc) [a, Di true ds (dL false (ds.map F))] = .ok (dI (acc ++ ks.filter fun k => !decide (k ∈ ds)), [a', Di true ds (dL false (ds.map F))]) := by
 intro ks
 induction ks with
 | nil => exact fun acc a => ⟨a, by rw [List.filter_nil, List.append_nil]; rfl⟩
 | cons k ks ih =>
  intro acc a
  rw [ZN, ZaD, List.filter_cons]
  have sh := Z3 false (ds.map F)
  by_cases h : k ∈ ds
  . obtain ⟨a', ih⟩ := ih acc (I k)
    refine ⟨a', ?_⟩
    have hl := Zc8 F k ds h
    rw [if_neg (by simp [h]), <- ih]
    generalize dL false (ds.map F) = X at *
    simp_all [h0, sh, hl, Option.isSome_some]
    try rfl
  . obtain ⟨a', ih⟩ := ih (acc ++ [k]) (I k)
    refine ⟨a', ?_⟩
    have hl := ZdO k ds (dL false (ds.map F)) h
    rw [if_pos (by simp [h]), show acc ++ (k :: ks.filter fun k => !decide (k ∈ ds)) = acc ++ [k] ++ ks.filter (fun k => !decide (k ∈ ds)) by rw [List.append_assoc]; rfl, <- ih, Zaa]
    generalize dL false (ds.map F) = X at *
    simp_all [h0, sh, hl, Option.isSome_none]
    try rfl
theorem ZjK (C : Addr) (lk : Nat -> Bool) (h0 : lk 0 = false) (F : Int -> List Int) (ds : List Int) (Y : List D) (hY : shrL Y = Y) : ∀ (ks : List Int) (acc : List (List Int)) (a : D) (X : List D), shrL X = Y -> (∀ k ∈ ks, ZH (.inl k) (dK ds) Y = some (Ls false (F k))) -> ∃ (a' : D) (X' : List D),
 Z9 (asgT lk (.name 0)) (tsts ⟨lk, (CK C).fok, (CK C).fuel⟩ []) (evb ⟨lk, (CK C).fok, (CK C).fuel⟩ (.bf .list [.ix (.v 1) (.v 0)])).1 (dI ks) (dL true acc) [a, Di true ds X] = .ok (dL true (acc ++ ks.map F), [a', Di true ds X']) := by
 intro ks
 induction ks with
 | nil => exact fun acc a X _ _ => ⟨a, X, by rw [List.map_nil, List.append_nil]; rfl⟩
 | cons k ks ih =>
  intro acc a X hX hk
  obtain ⟨a', X', ih⟩ := ih (acc ++ [F k]) (I k) Y hY fun y hy => hk y (List.mem_cons_of_mem _ hy)
  refine ⟨a', X', ?_⟩
  have hl := hk k List.mem_cons_self
  rw [List.map_cons, show acc ++ (F k :: ks.map F) = acc ++ [F k] ++ ks.map F by rw [List.append_assoc]; rfl, <- ih, ZN, ZaD, ZaV]
  simp_all [h0, hX, hl]
theorem ZnC (m : Int) (x : D) (ds : List Int) (X : List D) (hl : ds.length = X.length) (hz : X.length <= 1000) (hm : m ∉ ds) (δ : List D) :
 mdR 2 δ (Zbj (.sc (.int m)) x) (some (Di true ds X)) = .ok (.sc .non, δ.set 2 (Di true (ds ++ [m]) (X ++ [x]))) := by
 have e : Zbj (.sc (.int m)) x (.dic (dK ds)) X = some (.sc .non, .dic (dK (ds ++ [m])), X ++ [x]) := by
  show (if X.length < sizeLine then ((ZbM (.inl m) x (dK ds) X).map fun r : List Key × List D => (D.sc .non, Kd.dic r.1, r.2)) else none) = _
  rw [if_pos (by rw [szl]; omega), ZdP m x ds X hl hm]
  rfl
 show (match Zbj (.sc (.int m)) x (.dic (dK ds)) X with
  | some (r, k', ds') => Rs.ok (r, δ.set 2 (.node k' true ds'))
  | none => .stuck) = _
 rw [e]
theorem ZcQ : ∀ xs ys : List D, shrL (xs ++ ys) = shrL xs ++ shrL ys
 | [], _ => rfl
 | x :: xs, ys => by rw [List.cons_append, shrL, ZcQ xs ys]; rfl
structure Dealt (n : Int) (ks ds : List Int) (m : Option Int) : Prop where
 ne : ks ≠ []
 few : ks.length <= 900
 dds : dd [] ks = ds
 len : ds.length <= 900
 lack : (rngI 0 (n + 1).toNat).filter (fun k => !decide (k ∈ ds)) = m.toList
 out : ∀ k, m = some k -> k ∉ ds /\ 0 <= k /\ k <= n
 all : ∀ k ∈ rngI 0 (n + 1).toNat, k ∈ ds ++ m.toList
theorem Zfb (C : Addr) (p r n : Int) (F : Int -> List Int) (ks ds : List Int) (m : Option Int) (o a : Bool) (ha : o = false -> a = false) (DD : Dealt n ks ds m) (hp : 7 <= p) (hp2 : p <= 47) (h1 : 1 <= r) (h2 : r <= p - 5) (hn : 0 <= n /\ n < p)
 (hF : ∀ k ∈ ks, 2 <= (F k).length /\ (F k).getD 0 0 = k /\ (F k).getD 1 0 = n) (hF2 : ∀ k ∈ ds, r + 3 <= ((F k).length : Int))
 (hb : ∀ k, m = some k -> lab p ([k, n] ++ (rngI 2 (r + 1).toNat).map (col p (ds.map F))) = F k) :
 (Zaj C).run [Ro C true p r, .node .lst o (dL a (ks.map F))] = .ok (.node .lst true (dL true ((rngI 0 (n + 1).toNat).map F)), [Ro C true p r, .node .lst false (dL false (ks.map F))]) := by
 walk_at "r"
 obtain ⟨d1, d2, d3, d4, d5, d6, d7⟩ := DD
 have rl := Zl6 F n ks d1 (by omega) hF
 rw [d3] at rl
 have k1 : Zau.lend = false := rfl
 have k2 : (ZR C).lend = true := rfl
 have ne : (dL false (ks.map F)).isEmpty = false := by
  cases ks with
  | nil => exact absurd rfl d1
  | cons k kt => rfl
 have i1 : ∃ l0 : List Int, ((ixN' (dL false (ks.map F)).length 0).bind fun j => (dL false (ks.map F))[j]?) = some (Ls false l0) /\ ((ixN' (dI l0).length 1).bind fun j => (dI l0)[j]?) = some (.sc (.int n)) := by
  cases ks with
  | nil => exact absurd rfl d1
  | cons k kt =>
   obtain ⟨q1, q2, q3⟩ := hF k List.mem_cons_self
   have := ixI (F k) 1 (by omega) (by omega)
   simp only [Int.toNat_one, q3] at this
   exact ⟨F k, ixL false (F k :: kt.map F) 0 (by simp), this⟩
 obtain ⟨l0, i1, i2⟩ := i1
 have tru : ∀ xs : List D, truW (.nd .lst xs) = some (!xs.isEmpty) := fun _ => rfl
 obtain ⟨a', lc⟩ := ZiF C (fun i => decide (1 <= i)) rfl F ds (rngI 0 (n + 1).toNat) [] .hole
 rw [List.nil_append, d5] at lc
 replace lc : ZF (CK C).fok (CK C).fuel 1 (.name 0) [.cmp .NotIn (.v 0) (.v 1)] (.v 0) (dI (rngI 0 (n + 1).toNat)) [] [.hole, Di true ds (dL false (ds.map F))] = _ := lc
 have ml : (dI m.toList).length <= 1 := by cases m <;> simp [dI]
 have hm1 : ∀ x0 x1 x3 x4 : D, ZW 1 [2] (ZF (CK C).fok (CK C).fuel 1 (.name 0) [.cmp .NotIn (.v 0) (.v 1)] (.v 0) (dI (rngI 0 (n + 1).toNat)) []) [x0, x1, Di true ds (dL false (ds.map F)), x3, x4] = .ok (.node .lst true (dI m.toList), [x0, x1, Di true ds (dL false (ds.map F)), x3, x4]) := fun x0 x1 x3 x4 => by
  rw [ZQ (js := [2]) (caps := [Di true ds (dL false (ds.map F))]) (δ1 := [x0, x1, .hole, x3, x4]) rfl lc (by rw [szl]; omega)]
  rfl
 have gl : ∀ (es : List Int) (X Y : List D), shrL X = Y -> shrL Y = Y -> (∀ k ∈ rngI 0 (n + 1).toNat, ZH (.inl k) (dK es) Y = some (Ls false (F k))) -> ∃ X', ∀ x0 x1 x3 x4 : D, ZW 1 [2] (ZF (CK C).fok (CK C).fuel 1 (.name 0) [] (.bf .list [.ix (.v 1) (.v 0)]) (dI (rngI 0 (n + 1).toNat)) []) [x0, x1, Di true es X, x3, x4] = .ok (.node .lst true (dL true ((rngI 0 (n + 1).toNat).map F)), [x0, x1, Di true es X', x3, x4]) := fun es X Y hX hY hk => by
  obtain ⟨b', X', gc⟩ := ZjK C (fun i => decide (1 <= i)) rfl F es Y hY (rngI 0 (n + 1).toNat) [] .hole X hX hk
  rw [List.nil_append] at gc
  replace gc : ZF (CK C).fok (CK C).fuel 1 (.name 0) [] (.bf .list [.ix (.v 1) (.v 0)]) (dI (rngI 0 (n + 1).toNat)) [] [.hole, Di true es X] = _ := gc
  refine ⟨X', fun x0 x1 x3 x4 => ?_⟩
  rw [ZQ (js := [2]) (caps := [Di true es X]) (δ1 := [x0, x1, .hole, x3, x4]) rfl gc (by rw [ZK, List.length_map, Z5, szl]; omega)]
  rfl
 have hit := Zfg (n + 1) (by omega)
 have z0 : decide ((1 : Int) < ((0 : Nat) : Int)) = false := rfl
 have z1 : decide ((1 : Int) < ((1 : Nat) : Int)) = false := rfl
 have sh := Z3 false (ds.map F)
 have sa := Z3 a (ks.map F)
 cases m with
 | none =>
  obtain ⟨X', gm⟩ := gl ds _ _ sh sh fun k hk => Zc8 F k ds (by have := d7 k hk; rwa [Option.toList_none, List.append_nil] at this)
  simp only [Option.toList_none, Zce] at hm1
  generalize dL false (ds.map F) = X at *
  generalize rngI 0 (n + 1).toNat = rg at *
  cases o
  . cases ha rfl
    (simp_all [k1, rl, tru, ne, i1, i2, hit, hm1, gm, z0, List.isEmpty_nil]) <;> rfl
  . (simp_all [k1, sa, rl, tru, ne, i1, i2, hit, hm1, gm, z0, List.isEmpty_nil]) <;> rfl
 | some m =>
  obtain ⟨o1, o2, o3⟩ := d6 m rfl
  have br := ZgL C p r m n false true true (ds.map F) hp hp2 h1 h2 (by omega) (by omega) (by rw [List.length_map]; omega) fun l hl => by
   obtain ⟨k, hk, rfl⟩ := List.mem_map.mp hl
   exact hF2 k hk
  rw [hb m rfl] at br
  have pa := ZnC m (Ls true (F m)) ds (dL false (ds.map F)) (by rw [ZK, List.length_map]) (by rw [ZK, List.length_map]; omega) o1
  have s2 : shrL (dL false (ds.map F) ++ [Ls true (F m)]) = dL false ((ds ++ [m]).map F) := by
   rw [ZcQ, sh, List.map_append, ZaV]
   congr 1
   show [shr (Ls true (F m))] = _
   rw [shr, Zl]
   rfl
  obtain ⟨X', gm⟩ := gl (ds ++ [m]) (dL false (ds.map F) ++ [Ls true (F m)]) (dL false ((ds ++ [m]).map F)) s2 (Z3 false _) fun k hk => Zc8 F k (ds ++ [m]) (d7 k hk)
  simp only [Option.toList_some, ZN, Zce] at hm1
  have hck : ∀ x1 x2 x3 x4 : D, chkI C "balance" (.late 0) [Ro C true p r, x1, x2, x3, x4] = .ok ((), [Ro C true p r, x1, x2, x3, x4]) := fun x1 x2 x3 x4 => ZbS C _ 0 _ fs2 true _ rfl (by decide)
  have i0 : ((ixN' 1 0).bind fun j => [D.sc (.int m)][j]?) = some (.sc (.int m)) := rfl
  have dv : ∀ Y : List D, Zht (.nd (.dic (dK ds)) Y) = some (.node .lst true Y) := fun _ => rfl
  generalize dL false (ds.map F) = X at *
  generalize rngI 0 (n + 1).toNat = rg at *
  cases o
  . cases ha rfl
    (simp_all [k1, k2, rl, tru, ne, i1, i2, i0, hit, hm1, gm, hck, Zdr, sh, dv, br, pa, z1, List.isEmpty_cons]) <;> rfl
  . (simp_all [k1, k2, sa, rl, tru, ne, i1, i2, i0, hit, hm1, gm, hck, Zdr, sh, dv, br, pa, z1, List.isEmpty_cons]) <;> rfl
theorem Zqv (C : T.Ctx) (i : Nat) (es : List E) : (evb C (.mut .extend i [] es)).1 = ((chkL i).bnd fun _ => (opds C es).bnd fun ps => (views ps).bnd fun ws => modS i (mutD .extend ws)) := (rfl)
theorem ZfV (xs : List D) : cutD xs none (some (-1)) = xs.dropLast := by
 unfold cutD
 have e : HT.sIx xs.length xs.length (some (-1)) = xs.length - 1 := by
  show (if (-1 : Int) < 0 then (-1 + (xs.length : Int)).toNat else min (-1 : Int).toNat xs.length) = _
  rw [if_pos (by omega)]
  omega
 rw [e, List.dropLast_eq_take]
 rfl
theorem ZgO (o : Bool) (ls : List (List Int)) : (dL o ls).dropLast = dL o ls.dropLast := by
 unfold dL
 rw [List.dropLast_eq_take, List.dropLast_eq_take, List.map_take, List.length_map]
theorem ZjL (C : Addr) (lk : Nat -> Bool) (h0 : lk 0 = false) (o : Bool) (p r : Int) : ∀ (ls : List (List Int)) (n : Nat) (a : D), (∀ l ∈ ls, 3 <= l.length /\ l.getD 2 0 <= r) -> ∃ a',
 Z9 (asgT lk (.name 0)) (tsts ⟨lk, (CK C).fok, (CK C).fuel⟩ []) (evb ⟨lk, (CK C).fok, (CK C).fuel⟩ (.cmp .Gt (.ix (.v 0) (.k (.int 2))) (.fld (.v 1) "room"))).1 (dL false ls) (List.replicate n (.sc (.bl false))) [a, Ro C o p r] = .ok (List.replicate (n + ls.length) (.sc (.bl false)), [a', Ro C o p r]) := by
 intro ls
 induction ls with
 | nil => exact fun n a _ => ⟨a, rfl⟩
 | cons l ls ih =>
  intro n a hx
  obtain ⟨a', ih⟩ := ih (n + 1) (Ls false l) fun y hy => hx y (List.mem_cons_of_mem _ hy)
  refine ⟨a', ?_⟩
  obtain ⟨q1, q2⟩ := hx l List.mem_cons_self
  have i2 : ((ixN' (dI l).length 2).bind fun j => (dI l)[j]?) = some (.sc (.int (l.getD 2 0))) := ixI l 2 (by omega) (by omega)
  have hlt : ¬ r < l.getD 2 0 := by omega
  have f2 := Zer C (I p) (I r)
  rw [List.length_cons, show n + (ls.length + 1) = n + 1 + ls.length by omega, <- ih, Zb2, ZaD, List.replicate_succ']
  generalize l.getD 2 0 = y at *
  cases o <;> (simp_all [h0, i2, f2, hlt])
theorem ZgP : ∀ n : Nat, Zan (List.replicate n (D.sc (.bl false))) = some (List.replicate n false)
 | 0 => rfl
 | n + 1 => by rw [List.replicate_succ, Zan, ZgP n]; rfl
theorem Zqw (n : Nat) : bfW .any [.nd .lst (List.replicate n (D.sc (.bl false)))] = some (.sc (.bl false)) := by
 show (Zan _).map _ = _
 rw [ZgP]
 simp
theorem ZjM (C : Addr) (p r : Int) (o a : Bool) (ls L : List (List Int)) (ha : o = false -> a = false) (hL : L.length <= 1000) (h : ∀ l ∈ ls, (Z1 C).run [Ro C true p r, Ls false l] = .ok (.sc (.bl true), [Ro C true p r, Ls false l]))
 (hc : ∀ o, (Zaj C).run [Ro C true p r, .node .lst o (dL false ls)] = .ok (.node .lst true (dL true L), [Ro C true p r, .node .lst false (dL false ls)])) (h2 : ∀ l ∈ L.dropLast, 3 <= l.length /\ l.getD 2 0 <= r) :
 (Zq C).run [Ro C true p r, .node .lst o (dL a ls)] = .ok (.node .lst true (dL true L), [Ro C true p r, .node .lst false (dL false ls)]) := by
 walk_at "r"
 have r1 := Zh7 C p r o a ls ha h
 have k1 : (Zal C).lend = true := rfl
 have k2 : (Zaj C).lend = true := rfl
 have c1 : ∀ x1 x2 : D, chkI C "check_labels" (.late 0) [Ro C true p r, x1, x2] = .ok ((), [Ro C true p r, x1, x2]) := fun x1 x2 => ZbS C _ 0 _ fs2 true _ rfl (by decide)
 have c2 : ∀ x1 x2 : D, chkI C "completed" (.late 0) [Ro C true p r, x1, x2] = .ok ((), [Ro C true p r, x1, x2]) := fun x1 x2 => ZbS C _ 0 _ fs2 true _ rfl (by decide)
 obtain ⟨a', ac⟩ := ZjL C (fun i => decide (1 <= i)) rfl false p r L.dropLast 0 .hole h2
 rw [Nat.zero_add] at ac
 replace ac : ZF (CK C).fok (CK C).fuel 1 (.name 0) [] (.cmp .Gt (.ix (.v 0) (.k (.int 2))) (.fld (.v 1) "room")) (dL false L.dropLast) [] [.hole, Ro C false p r] = _ := ac
 have hm1 : ∀ x1 x2 : D, ZW 1 [0] (ZF (CK C).fok (CK C).fuel 1 (.name 0) [] (.cmp .Gt (.ix (.v 0) (.k (.int 2))) (.fld (.v 1) "room")) (dL false L.dropLast) []) [Ro C false p r, x1, x2] = .ok (.node .lst true (List.replicate L.dropLast.length (.sc (.bl false))), [Ro C false p r, x1, x2]) := fun x1 x2 => by
  rw [ZQ (js := [0]) (caps := [Ro C false p r]) (δ1 := [.hole, x1, x2]) rfl ac (by rw [List.length_replicate, List.length_dropLast, szl]; omega)]
  rfl
 have sL := Z3 true L
 have sl := fun o => Z3 o ls
 have cl := ZfV (dL false L)
 rw [ZgO] at cl
 have sd := Z3 false L.dropLast
 have an := Zqw L.dropLast.length
 generalize dL false L.dropLast = LD at *
 cases o
 . cases ha rfl
   (simp_all [k1, k2, c1, c2, r1, hc, sL, sl, cl, sd, hm1, an]) <;> rfl
 . (simp_all [k1, k2, c1, c2, r1, hc, sL, sl, cl, sd, hm1, an]) <;> rfl
noncomputable def gat (l : List Int) : List Int := cutI l (some 3) (some (3 + l.getD 2 0))
theorem ZnD (i : Nat) (δ : List D) (xs ys : List Int) (h : xs.length + ys.length <= 100000) : mdR i δ (mutD .extend [.nd .lst (dI ys)]) (some (Ls true xs)) = .ok (.sc .non, δ.set i (Ls true (xs ++ ys))) := by
 have e : mutD .extend [.nd .lst (dI ys)] .lst (dI xs) = some (.sc .non, .lst, dI (xs ++ ys)) := by
  show (if (dI xs).length + (dI ys).length <= sizeLine then some (D.sc .non, Kd.lst, dI xs ++ dI ys) else none) = _
  rw [if_pos (by rw [Zv, Zv, szl]; omega), Zaa]
 show (match mutD .extend [.nd .lst (dI ys)] .lst (dI xs) with
  | some (r, k', ds') => Rs.ok (r, δ.set i (.node k' true ds'))
  | none => .stuck) = _
 rw [e]
theorem ZjN (C : Addr) (lk : Nat -> Bool) (h2 : lk 2 = false) (h3 : lk 3 = false) (x0 x1 : D) : ∀ (ls : List (List Int)) (row : List Int) (a : D), row.length + 100 * ls.length <= 100000 -> (∀ l ∈ ls, 3 <= l.length /\ l.length <= 100) -> ∃ a',
 forL (asgT lk (.name 3)) (exs ⟨lk, (CK C).fok, (CK C).fuel⟩ [.ex (.mut .extend 2 [] [.sl (.v 3) (.k (.int 3)) (.bin .Add (.k (.int 3)) (.ix (.v 3) (.k (.int 2))))])]) (dL false ls) [x0, x1, Ls true row, a] = .ok (.nx, [x0, x1, Ls true (row ++ (ls.map gat).flatten), a']) := by
 intro ls
 induction ls with
 | nil => exact fun row a _ _ => ⟨a, by rw [List.map_nil, List.flatten_nil, List.append_nil]; rfl⟩
 | cons l ls ih =>
  intro row a hz hl
  obtain ⟨q1, q2⟩ := hl l List.mem_cons_self
  have hg : (gat l).length <= l.length := Zd0 _ _ _
  rw [List.length_cons] at hz
  obtain ⟨a', ih⟩ := ih (row ++ gat l) (Ls false l) (by rw [List.length_append]; omega) fun y hy => hl y (List.mem_cons_of_mem _ hy)
  refine ⟨a', ?_⟩
  have i2 : ((ixN' (dI l).length 2).bind fun j => (dI l)[j]?) = some (.sc (.int (l.getD 2 0))) := ixI l 2 (by omega) (by omega)
  have ct : cutD (dI l) (some 3) (some (3 + l.getD 2 0)) = dI (gat l) := ZaI l _ _
  have me := fun δ => ZnD 2 δ row (gat l) (by omega)
  rw [List.map_cons, List.flatten_cons, <- List.append_assoc, <- ih, Zb2, ZbP]
  generalize gat l = g at *
  generalize l.getD 2 0 = y at *
  simp_all [h2, h3, Zqv, i2, ct, me]
theorem ZjO (C : Addr) (p r : Int) (o a : Bool) (ls L : List (List Int)) (ha : o = false -> a = false) (hL : L.length <= 900) (hl : ∀ l ∈ L, 3 <= l.length /\ l.length <= 100)
 (hc : (Zq C).run [Ro C true p r, .node .lst o (dL a ls)] = .ok (.node .lst true (dL true L), [Ro C true p r, .node .lst false (dL false ls)])) :
 (Z2 C).run [Ro C true p r, .node .lst o (dL a ls)] = .ok (Ls true (L.dropLast.map gat).flatten, [Ro C true p r, .node .lst false (dL false ls)]) := by
 walk_at "r"
 have k1 : (Zq C).lend = true := rfl
 have c1 : ∀ x1 x2 x3 : D, chkI C "all_labels" (.late 0) [Ro C true p r, x1, x2, x3] = .ok ((), [Ro C true p r, x1, x2, x3]) := fun x1 x2 x3 => ZbS C _ 0 _ fs2 true _ rfl (by decide)
 obtain ⟨a', gl⟩ := ZjN C (fun j => decide (j < 2) || walked [.sl (.meth C "all_labels" (Zq C) (.v 0) [.v 1]) (.k .non) (.neg (.k (.int 1)))] j) rfl rfl (Ro C true p r) (.node .lst false (dL false ls)) L.dropLast [] .hole (by rw [List.length_dropLast]; show 0 + _ <= _; omega) fun l h => hl l ((List.dropLast_sublist L).subset h)
 simp only [walked, Bool.or_false, List.nil_append, Ls, Zce] at gl
 have cl := ZfV (dL true L)
 rw [ZgO] at cl
 have sd := Z3 true L.dropLast
 have n0 : newL [] = some (.node .lst true []) := ZX _ (by simp)
 generalize dL true L.dropLast = LD at *
 generalize dL false L.dropLast = LE at *
 cases o
 . cases ha rfl
   (simp_all [k1, c1, hc, cl, sd, n0, gl]) <;> rfl
 . (simp_all [k1, c1, hc, cl, sd, n0, gl]) <;> rfl
noncomputable def Fb (p n : Int) (B : List (List Int)) (k : Int) : List Int := lab p ([k, n] ++ B.getD k.toNat [])
structure Bod (p r n : Int) (B : List (List Int)) : Prop where
 p7 : 7 <= p
 p47 : p <= 47
 r1 : 1 <= r
 r5 : r <= p - 5
 n1 : 1 <= n
 np : n < p
 len : B.length = (n + 1).toNat
 one : ∀ b ∈ B, (b.length : Int) = r + 1
 sym : ∀ b ∈ B, ∀ x ∈ b, 0 <= x /\ x < p
theorem Bod.at {p r n : Int} {B : List (List Int)} (h : Bod p r n B) {k : Int} (h0 : 0 <= k) (h1 : k <= n) : ((B.getD k.toNat []).length : Int) = r + 1 /\ ∀ x ∈ B.getD k.toNat [], 0 <= x /\ x < p := by
 have hk : k.toNat < B.length := by rw [h.len]; omega
 rw [List.getD_eq_getElem?_getD, List.getElem?_eq_getElem hk]
 exact ⟨h.one _ (List.getElem_mem hk), h.sym _ (List.getElem_mem hk)⟩
theorem Bod.lab {p r n : Int} {B : List (List Int)} (h : Bod p r n B) {k : Int} (h0 : 0 <= k) (h1 : k <= n) : ((Fb p n B k).length : Int) = r + 5 /\ (∀ x ∈ Fb p n B k, 0 <= x /\ x < p) /\ (Fb p n B k).getD 0 0 = k /\ (Fb p n B k).getD 1 0 = n /\ ∀ q : Nat, (q : Int) <= r -> (Fb p n B k).getD (q + 2) 0 = (B.getD k.toNat []).getD q 0 := by
 obtain ⟨a1, a2⟩ := h.at h0 h1
 have := h.np
 have := h.p7
 refine ⟨?_, Zl1 p (by omega) _ fun x hx => ?_, rfl, rfl, fun q hq => ?_⟩
 . unfold Fb
   rw [Ze8, List.length_append]
   show ((2 + _ + 2 : Nat) : Int) = _
   omega
 . rcases List.mem_append.mp hx with hx | hx
   . simp only [List.mem_cons, List.not_mem_nil, or_false] at hx
     rcases hx with rfl | rfl <;> omega
   . exact a2 x hx
 . unfold Fb _root_.My.lab
   rw [List.getD_eq_getElem?_getD, List.getElem?_append_left (by rw [List.length_append]; show q + 2 < 2 + _; omega), List.getD_eq_getElem?_getD]
   rfl
theorem Bod.is {p r n : Int} {B : List (List Int)} (h : Bod p r n B) (C : Addr) {k : Int} (h0 : 0 <= k) (h1 : k <= n) : (Z1 C).run [Ro C true p r, Ls false (Fb p n B k)] = .ok (.sc (.bl true), [Ro C true p r, Ls false (Fb p n B k)]) := by
 obtain ⟨a1, a2, a3, a4, _⟩ := h.lab h0 h1
 have := h.np
 have := h.p7
 have := h.p47
 have := h.r5
 have := h.n1
 exact ZiC C p r _ (by omega) (by omega) a1 h.r1 a2 (ZjI p _) (by rw [a4]; omega) (by rw [a3, a4]; exact h1)
theorem ZjP {xs ys : List Int} (h : xs.Perm ys) : xs.sum = ys.sum := by
 induction h with
 | nil => rfl
 | cons x _ ih => rw [List.sum_cons, List.sum_cons, ih]
 | swap x y l => rw [List.sum_cons, List.sum_cons, List.sum_cons, List.sum_cons]; omega
 | trans _ _ a b => exact a.trans b
theorem ZgQ (B : List (List Int)) : ∀ (n j : Nat), j + n = B.length -> (rngI j n).map (fun k => B.getD k.toNat []) = B.drop j
 | 0, j, h => by rw [List.drop_of_length_le (by omega)]; rfl
 | n + 1, j, h => by
  have hj : j < B.length := by omega
  have e : ((j : Int) + 1) = ((j + 1 : Nat) : Int) := by omega
  rw [rngI, List.map_cons, e, ZgQ B n (j + 1) (by omega), List.drop_eq_getElem_cons hj, Int.toNat_natCast, List.getD_eq_getElem?_getD, List.getElem?_eq_getElem hj]
  rfl
theorem Bod.back {p r n : Int} {B : List (List Int)} (h : Bod p r n B) {m : Int} {ds : List Int} (hm : 0 <= m /\ m <= n) (hds : ∀ k ∈ ds, 0 <= k /\ k <= n) (hp : (ds ++ [m]).Perm (rngI 0 (n + 1).toNat)) (hc : ∀ q : Nat, (q : Int) <= r -> (B.map fun b => b.getD q 0).sum % p = 0) :
 My.lab p ([m, n] ++ (rngI 2 (r + 1).toNat).map (col p (ds.map (Fb p n B)))) = Fb p n B m := by
 unfold Fb
 congr 2
 obtain ⟨a1, a2⟩ := h.at hm.1 hm.2
 have hr := h.r1
 have p7 := h.p7
 refine Zj8 (by rw [List.length_map, Z5]; omega) fun q hq => ?_
 rw [List.length_map, Z5] at hq
 have hq' : (q : Int) <= r := by omega
 rw [show (2 : Int) = 0 + 2 by rfl, ZfU, List.getD_eq_getElem?_getD, List.getElem?_map]
 have gq : ∀ (N j : Nat) (a : Int), j < N -> (rngI a N)[j]? = some (a + j) := fun N => by
  induction N with
  | zero => exact fun j a h => absurd h (by omega)
  | succ N ih =>
   intro j a hj
   rw [rngI]
   cases j with
   | zero => simp
   | succ j => rw [List.getElem?_cons_succ, ih j (a + 1) (by omega)]; congr 1; omega
 rw [gq _ _ _ hq]
 show col p (ds.map (Fb p n B)) (0 + (q : Int) + 2) = _
 unfold col
 have e1 : (ds.map (Fb p n B)).map (fun l => l.getD (0 + (q : Int) + 2).toNat 0) = ds.map fun k => (B.getD k.toNat []).getD q 0 := by
  rw [List.map_map]
  refine List.map_congr_left fun k hk => ?_
  show (Fb p n B k).getD (0 + (q : Int) + 2).toNat 0 = _
  rw [show (0 + (q : Int) + 2).toNat = q + 2 by omega]
  exact (h.lab (hds k hk).1 (hds k hk).2).2.2.2.2 q hq'
 rw [e1]
 have e2 := ZjP (hp.map fun k => (B.getD k.toNat []).getD q 0)
 rw [List.map_append, List.sum_append] at e2
 have e3 : (rngI 0 (n + 1).toNat).map (fun k => (B.getD k.toNat []).getD q 0) = B.map fun b => b.getD q 0 := by
  have := ZgQ B (n + 1).toNat 0 (by rw [h.len]; omega)
  rw [List.drop_zero] at this
  rw [<- congrArg (List.map fun b => b.getD q 0) this, List.map_map]
  rfl
 rw [e3] at e2
 have e4 := hc q hq'
 rw [<- e2] at e4
 have hx : (B.getD m.toNat []).getD q 0 ∈ B.getD m.toNat [] := by
  have : q < (B.getD m.toNat []).length := by omega
  rw [List.getD_eq_getElem?_getD (i := q), List.getElem?_eq_getElem this]
  exact List.getElem_mem this
 have hy := a2 _ hx
 simp only [List.map_cons, List.map_nil, List.sum_cons, List.sum_nil, Int.add_zero] at e4
 generalize (ds.map fun k => (B.getD k.toNat []).getD q 0).sum = S at e4
 generalize (B.getD m.toNat []).getD q 0 = y at *
 have f1 := Int.emod_add_mul_ediv (S + y) p
 rw [e4] at f1
 have f2 : -S = y + p * (-((S + y) / p)) := by rw [Int.mul_neg]; omega
 rw [f2, Int.add_mul_emod_self_left, Int.emod_eq_of_lt hy.1 hy.2]
theorem ZiG {acc : List Int} {k : Int} (h : acc.Nodup) : (ins acc k).Nodup := by
 unfold ins
 split
 . exact h
 . rename_i hk
   rw [List.nodup_append]
   exact ⟨h, by simp, fun a ha b hb => by simp only [List.mem_singleton] at hb; subst hb; exact fun e => hk (e ▸ ha)⟩
theorem Zl7 {acc : List Int} {k x : Int} : x ∈ ins acc k ↔ x ∈ acc \/ x = k := by
 unfold ins
 split
 . rename_i hk
   exact ⟨.inl, fun h => h.elim id fun e => e ▸ hk⟩
 . rw [List.mem_append, List.mem_singleton]
theorem ZfW : ∀ {ks acc : List Int}, acc.Nodup -> (dd acc ks).Nodup
 | [], _, h => h
 | k :: ks, _, h => ZfW (ks := ks) (ZiG h)
theorem ZfX {x : Int} : ∀ {ks acc : List Int}, x ∈ dd acc ks ↔ x ∈ acc \/ x ∈ ks
 | [], acc => by simp [dd]
 | k :: ks, acc => by
  show x ∈ dd (ins acc k) ks ↔ _
  rw [ZfX, Zl7, List.mem_cons, or_assoc]
theorem Zcw : ∀ (n : Nat) (a x : Int), a <= x -> x < a + n -> x ∈ rngI a n
 | 0, a, x, h, h' => by omega
 | n + 1, a, x, h, h' => by
  rw [rngI]
  by_cases e : x = a
  . (exact e ▸ List.mem_cons_self)
  . exact List.mem_cons_of_mem _ (Zcw n (a + 1) x (by omega) (by omega))
theorem ZbU : ∀ (n : Nat) (a : Int), (rngI a n).Nodup
 | 0, _ => List.nodup_nil
 | n + 1, a => by
  rw [rngI, List.nodup_cons]
  exact ⟨fun h => by have := Zai n (a + 1) a h; omega, ZbU n (a + 1)⟩
theorem dealt {n : Int} {ks : List Int} {m : Option Int} (h0 : 0 <= n) (hn : ks ≠ []) (hl : ks.length <= 900) (hk : ∀ k, k ∈ ks ↔ (0 <= k /\ k <= n) /\ m ≠ some k) (hm : ∀ k, m = some k -> 0 <= k /\ k <= n) :
 Dealt n ks (dd [] ks) m /\ (dd [] ks ++ m.toList).Perm (rngI 0 (n + 1).toNat) := by
 have mem : ∀ x, x ∈ dd [] ks ↔ (0 <= x /\ x <= n) /\ m ≠ some x := fun x => by rw [ZfX, <- hk]; simp
 have rm : ∀ x, x ∈ rngI 0 (n + 1).toNat ↔ 0 <= x /\ x <= n := fun x => ⟨fun h => by have := Zai _ _ _ h; omega, fun h => Zcw _ _ _ h.1 (by omega)⟩
 have nd : (dd [] ks).Nodup := ZfW List.nodup_nil
 have hl2 := ZiD ks []
 have al : ∀ x, x ∈ dd [] ks ++ m.toList ↔ 0 <= x /\ x <= n := fun x => by
  rw [List.mem_append, mem, Option.mem_toList]
  constructor
  . rintro (h | h)
    . exact h.1
    . exact hm x h
  . intro h
    by_cases e : m = some x
    . exact .inr e
    . exact .inl ⟨h, e⟩
 refine ⟨⟨hn, hl, rfl, by simpa using Nat.le_trans hl2 (by simpa using hl), ?_, fun k hk => ⟨fun h => ((mem k).mp h).2 hk, hm k hk⟩, fun k hk => (al k).mpr ((rm k).mp hk)⟩, (List.perm_ext_iff_of_nodup ?_ (ZbU _ _)).mpr fun x => (al x).trans (rm x).symm⟩
 . cases m with
   | none =>
    rw [Option.toList_none, List.filter_eq_nil_iff]
    intro k hk
    simp [(mem k).mpr ⟨(rm k).mp hk, by simp⟩]
   | some m =>
    have e : (rngI 0 (n + 1).toNat).filter (fun k => !decide (k ∈ dd [] ks)) = (rngI 0 (n + 1).toNat).filter (· == m) := by
     refine List.filter_congr fun k hk => ?_
     have := mem k
     by_cases q : k = m
     . subst q
       simp [this]
     . have : k ∈ dd [] ks := this.mpr ⟨(rm k).mp hk, fun z => q (by cases z; rfl)⟩
       simp [this, q]
    rw [e, List.filter_beq, List.Nodup.count (ZbU _ _), if_pos ((rm m).mpr (hm m rfl))]
    rfl
 . rw [List.nodup_append]
   refine ⟨nd, by cases m <;> simp, fun a ha b hb => ?_⟩
   rw [Option.mem_toList] at hb
   exact fun e => ((mem a).mp ha).2 (e ▸ hb)
noncomputable def pcs (r : Int) (row : List Int) : List (List Int) := (starts row.length r).map (piece row r)
noncomputable def bds (p r : Int) (row : List Int) : List (List Int) := (pcs r row).map (bdy r) ++ [(rngI 2 (r + 1).toNat).map (col p (lbls p r (pcs r row).length 0 (pcs r row)))]
theorem Zav (p r : Int) (row : List Int) : parts p r row = (rngI 0 (((pcs r row).length : Int) + 1).toNat).map (Fb p (pcs r row).length (bds p r row)) := by
 show lbls p r (pcs r row).length 0 (pcs r row) ++ [lab p ([((pcs r row).length : Int), ((pcs r row).length : Int)] ++ (rngI 2 (r + 1).toNat).map (col p (lbls p r (pcs r row).length 0 (pcs r row))))] = _
 have h := ZiE p r (pcs r row).length (bds p r row) (pcs r row) 0 _ (by rw [List.drop_zero]; rfl)
 rw [show (((pcs r row).length : Int) + 1).toNat = (pcs r row).length + 1 by omega, ZbH, List.map_append]
 congr 1
 . exact h.symm
 . show _ = [Fb p (pcs r row).length (bds p r row) (0 + ((pcs r row).length : Int))]
   unfold Fb
   rw [show (0 + ((pcs r row).length : Int)) = ((pcs r row).length : Int) by omega, Int.toNat_natCast]
   congr 3
   unfold bds
   rw [List.getD_eq_getElem?_getD, List.getElem?_append_right (by rw [List.length_map]; omega), List.length_map, Nat.sub_self]
   rfl
theorem Zcx (p r : Int) (row : List Int) (hp : 7 <= p) (hp2 : p <= 47) (h1 : 1 <= r) (h2 : r <= p - 5) (hn : (row.length : Int) <= r * (p - 1)) (hx : ∀ x ∈ row, 0 <= x /\ x < p) : Bod p r (pcs r row).length (bds p r row) := by
 obtain ⟨s1, s2⟩ := Zes row.length r p h1 (by omega) hn
 have hpl : (pcs r row).length = (starts row.length r).length := List.length_map _
 have hps : ∀ x ∈ pcs r row, (x.length : Int) <= r /\ ∀ y ∈ x, 0 <= y /\ y < p := fun x h => by
  obtain ⟨a, ha, rfl⟩ := List.mem_map.mp h
  exact ⟨Zdk row r a (ZcO _ r (by omega) a ha) (by omega), fun y hy => hx y (ZeS row r a y hy)⟩
 refine ⟨hp, hp2, h1, h2, by omega, by omega, ?_, fun b hb => ?_, fun b hb => ?_⟩
 . unfold bds
   rw [List.length_append, List.length_map]
   show _ + 1 = _
   omega
 . (rcases List.mem_append.mp hb with hb | hb)
   . obtain ⟨x, hx, rfl⟩ := List.mem_map.mp hb
     have := Zc7 r x (hps x hx).1
     omega
   . rw [List.mem_singleton.mp hb, List.length_map, Z5]
     omega
 . (rcases List.mem_append.mp hb with hb | hb)
   . obtain ⟨x, hx, rfl⟩ := List.mem_map.mp hb
     exact ZgK p r x (hps x hx).1 (by omega) (hps x hx).2
   . (rw [List.mem_singleton.mp hb])
     intro y hy
     obtain ⟨q, _, rfl⟩ := List.mem_map.mp hy
     exact ⟨Int.emod_nonneg _ (by omega), Int.emod_lt_of_pos _ (by omega)⟩
theorem ZgR (r : Int) (row : List Int) (h1 : 1 <= r) : ∀ x ∈ pcs r row, (x.length : Int) <= r := fun x h => by
 obtain ⟨a, ha, rfl⟩ := List.mem_map.mp h
 exact Zdk row r a (ZcO _ r (by omega) a ha) (by omega)
theorem ZfY (N j : Nat) (a : Int) (h : j < N) : (rngI a N)[j]? = some (a + j) := by
 induction N generalizing j a with
 | zero => omega
 | succ N ih =>
  rw [rngI]
  cases j with
  | zero => simp
  | succ j => rw [List.getElem?_cons_succ, ih j (a + 1) (by omega)]; congr 1; omega
theorem ZiH (p r : Int) (row : List Int) (h1 : 1 <= r) : ∀ q : Nat, (q : Int) <= r -> ((bds p r row).map fun b => b.getD q 0).sum % p = 0 := fun q hq => by
 have hc := ZgN p r (pcs r row).length q (by omega) (by omega) (by omega) (pcs r row) 0 (ZgR r row h1)
 rw [Int.toNat_natCast] at hc
 unfold bds
 rw [List.map_append, List.sum_append, <- hc]
 have e : ((rngI 2 (r + 1).toNat).map (col p (lbls p r (pcs r row).length 0 (pcs r row)))).getD q 0 = col p (lbls p r (pcs r row).length 0 (pcs r row)) ((q : Int) + 2) := by
  rw [List.getD_eq_getElem?_getD, List.getElem?_map, ZfY _ _ _ (by omega)]
  show col _ _ (2 + (q : Int)) = _
  rw [Int.add_comm]
 simp only [List.map_cons, List.map_nil, List.sum_cons, List.sum_nil, Int.add_zero, e]
 unfold col
 generalize ((lbls p r (pcs r row).length 0 (pcs r row)).map fun l => l.getD ((q : Int) + 2).toNat 0).sum = S
 rw [Int.add_emod, Int.emod_emod, <- Int.add_emod, show S + -S = 0 by omega, Int.zero_emod]
theorem ZgS (p r : Int) (row : List Int) (h1 : 1 <= r) (k : Nat) (hk : k < (pcs r row).length) : (Fb p (pcs r row).length (bds p r row) k).getD 2 0 <= r /\ gat (Fb p (pcs r row).length (bds p r row) k) = (pcs r row)[k] := by
 have hb : (bds p r row).getD k [] = bdy r (pcs r row)[k] := by
  unfold bds
  rw [List.getD_eq_getElem?_getD, List.getElem?_append_left (by rw [List.length_map]; exact hk), List.getElem?_map, List.getElem?_eq_getElem hk]
  rfl
 have hl := ZgR r row h1 _ (List.getElem_mem hk)
 unfold Fb
 rw [Int.toNat_natCast, hb]
 generalize (pcs r row)[k] = x at *
 have e2 : (lab p ([(k : Int), ((pcs r row).length : Int)] ++ bdy r x)).getD 2 0 = (x.length : Int) := rfl
 refine ⟨by rw [e2]; exact hl, ?_⟩
 unfold gat
 rw [e2]
 unfold cutI
 generalize hll : (lab p ([(k : Int), ((pcs r row).length : Int)] ++ bdy r x)).length = N
 have hN : x.length + 3 <= N := by
  rw [<- hll, Ze8, List.length_append, Zc7 r x hl]
  show _ <= 2 + (r.toNat + 1) + 2
  omega
 have e3 : HT.sIx N 0 (some 3) = 3 := by
  show (if (3 : Int) < 0 then (3 + (N : Int)).toNat else min (3 : Int).toNat N) = _
  rw [if_neg (by omega)]
  show min 3 N = 3
  omega
 have e4 : HT.sIx N N (some (3 + (x.length : Int))) = 3 + x.length := by
  show (if (3 + (x.length : Int)) < 0 then (3 + (x.length : Int) + (N : Int)).toNat else min (3 + (x.length : Int)).toNat N) = _
  rw [if_neg (by omega)]
  omega
 rw [e3, e4, show 3 + x.length - 3 = x.length by omega]
 show List.take x.length (x ++ List.replicate (r - x.length).toNat 0 ++ [_, _]) = x
 rw [List.append_assoc, List.take_left']
 rfl
theorem ZjQ (r : Int) (row : List Int) (h1 : 1 <= r) (hl : row.length <= 1000) : (pcs r row).flatten = row := by
 have hp : ∀ k : Nat, piece row r ((0 : Int) + (k : Int) * r) = (row.drop (k * r.toNat)).take r.toNat := fun k => by
  have hkr : (k : Int) * r = ((k * r.toNat : Nat) : Int) := by rw [Int.natCast_mul, Int.toNat_of_nonneg (by omega)]
  unfold piece cutI
  rw [Int.zero_add, hkr]
  generalize k * r.toNat = a
  have e1 : HT.sIx row.length 0 (some (a : Int)) = min a row.length := by
   show (if (a : Int) < 0 then ((a : Int) + (row.length : Int)).toNat else min (a : Int).toNat row.length) = _
   rw [if_neg (by omega)]
   omega
  have e2 : HT.sIx row.length row.length (some ((a : Int) + r)) = min (a + r.toNat) row.length := by
   show (if (a : Int) + r < 0 then ((a : Int) + r + (row.length : Int)).toNat else min ((a : Int) + r).toNat row.length) = _
   rw [if_neg (by omega)]
   omega
  rw [e1, e2]
  by_cases ha : a <= row.length
  . rw [Nat.min_eq_left ha]
    by_cases hb : a + r.toNat <= row.length
    . rw [Nat.min_eq_left hb, show a + r.toNat - a = r.toNat by omega]
    . rw [Nat.min_eq_right (by omega), List.take_of_length_le (by rw [List.length_drop]; omega), List.take_of_length_le (by rw [List.length_drop]; omega)]
  . rw [Nat.min_eq_right (by omega), List.drop_of_length_le (by omega), List.drop_of_length_le (by omega)]
    simp
 have fl : ∀ (M j : Nat), (((List.range' j M).map fun k => (row.drop (k * r.toNat)).take r.toNat).flatten) = (row.drop (j * r.toNat)).take (M * r.toNat) := fun M => by
  induction M with
  | zero => intro j; simp
  | succ M ih =>
   intro j
   rw [List.range'_succ, List.map_cons, List.flatten_cons, ih (j + 1), Nat.succ_mul, Nat.succ_mul, Nat.add_comm (M * r.toNat), List.take_add, List.drop_drop]
 unfold pcs starts rngS
 rw [List.map_map]
 have e : ((piece row r) ∘ fun k : Nat => (0 : Int) + (k : Int) * r) = fun k : Nat => (row.drop (k * r.toNat)).take r.toNat := funext hp
 rw [e, List.range_eq_range', fl, Nat.zero_mul, List.drop_zero]
 refine List.take_of_length_le ?_
 generalize hN : (if (1 : Int) < (row.length : Int) then (row.length : Int) else 1) = N
 have hN1 : (row.length : Int) <= N /\ 1 <= N := by rw [<- hN]; split <;> omega
 have hs : Builtin.Range.rangeSize 0 N r = (N - 0 - 1) / r + 1 := by
  (unfold Builtin.Range.rangeSize)
  rw [if_pos (by omega), if_pos (by omega)]
  try omega
 rw [hs]
 have h3 := Int.emod_add_mul_ediv (N - 0 - 1) r
 have h4 := Int.emod_lt_of_pos (N - 0 - 1) (show 0 < r by omega)
 have h5 : 0 <= (N - 0 - 1) / r := Int.ediv_nonneg (by omega) (by omega)
 have h6 : ((((N - 0 - 1) / r + 1).toNat * r.toNat : Nat) : Int) = ((N - 0 - 1) / r + 1) * r := by rw [Int.natCast_mul, Int.toNat_of_nonneg (by omega), Int.toNat_of_nonneg (by omega)]
 have h7 : ((N - 0 - 1) / r + 1) * r = r * ((N - 0 - 1) / r) + r := by rw [Int.add_mul, Int.one_mul, Int.mul_comm]
 omega
noncomputable abbrev pyLL (ls : List (List Int)) : List PyData := ls.map fun l => .list (l.map .int)
theorem ZiI (o : Bool) : ∀ ls : List (List Int), pyL (dL o ls) = some (pyLL ls)
 | [] => rfl
 | l :: ls => by
  show (py (Ls o l)).bind (fun a => (pyL (dL o ls)).map (a :: ·)) = _
  rw [ZiI o ls]
  simp only [Ls, py, ZfE, Option.map_some, Option.bind_some]
  rfl
theorem ZiJ : ∀ ls : List (List Int), PyData.canLayAll0 (pyLL ls) = true
 | [] => rfl
 | l :: ls => by simp only [List.map_cons, PyData.canLayAll0, PyData.canLay0, ZfF, ZiJ ls, Bool.and_self]
theorem ZgT : ∀ ls : List (List Int), PyData.depthAll (pyLL ls) <= 1
 | [] => (by simp [PyData.depthAll] : PyData.depthAll (pyLL []) <= 1)
 | l :: ls => by
  have := ZgT ls
  simp only [pyLL] at this
  simp only [List.map_cons, PyData.depthAll, PyData.depth, ZeO]
  omega
theorem ZiK : ∀ xs ys : List (List Int), PyData.eqvAll (pyLL xs) (pyLL ys) = decide (xs = ys)
 | [], [] => by simp only [List.map_nil, PyData.eqvAll, decide_true]
 | [], y :: ys => by simp [PyData.eqvAll]
 | x :: xs, [] => by simp [PyData.eqvAll]
 | x :: xs, y :: ys => by
  simp only [List.map_cons, PyData.eqvAll, PyData.eqv, ZdI, ZiK xs ys]
  (by_cases h1 : x = y <;> by_cases h2 : xs = ys <;> simp [h1, h2])
theorem ZeU (ls : List (List Int)) : SeqAt.shaped (.list (pyLL ls)) = true := by
 have := ZgT ls
 simp only [SeqAt.shaped, PyData.canLay0, PyData.depth, ZiJ]
 simp
 omega
theorem ZnE (o o' : Bool) (xs ys : List (List Int)) : ZV .Eq (.nd .lst (dL o xs)) (.nd .lst (dL o' ys)) = some (decide (xs = ys)) := by
 show (py (.node .lst false (dL o xs))).bind (fun a => (py (.node .lst false (dL o' ys))).bind fun b => eqPy a b) = _
 simp only [py, ZiI, Option.map_some, Option.bind_some]
 unfold eqPy
 rw [if_pos ⟨ZeU xs, ZeU ys⟩]
 simp only [PyData.eqv, ZiK]
theorem Zl8 (h0 : lk 0 = false) : ∀ (ls acc : List (List Int)) (a : D), ∃ a',
 Z9 (asgT lk (.name 0)) (tsts ⟨lk, fok, fuel⟩ []) (evb ⟨lk, fok, fuel⟩ (.bf .list [.v 0])).1 (dL false ls) (dL true acc) [a] = .ok (dL true (acc ++ ls), [a']) := by
 intro ls
 induction ls with
 | nil => exact fun acc a => ⟨a, by rw [List.append_nil]; rfl⟩
 | cons l ls ih =>
  intro acc a
  obtain ⟨a', ih⟩ := ih (acc ++ [l]) (Ls false l)
  refine ⟨a', ?_⟩
  have e : acc ++ l :: ls = acc ++ [l] ++ ls := by rw [List.append_assoc]; rfl
  rw [e, <- ih, Zb2, ZaD, ZaV]
  simp_all [h0]
theorem ZgU (fok : Addr -> Str -> Bool) (fuel : Nat) (ls : List (List Int)) (hl : ls.length <= 100000) (δ : List D) : ZW 1 [] (ZF fok fuel 1 (.name 0) [] (.bf .list [.v 0]) (dL false ls) []) δ = .ok (.node .lst true (dL true ls), δ) := by
 obtain ⟨a', hc⟩ := Zl8 (fun i => decide (1 <= i)) fok fuel rfl ls [] .hole
 rw [List.nil_append] at hc
 replace hc : ZF fok fuel 1 (.name 0) [] (.bf .list [.v 0]) (dL false ls) [] [.hole] = _ := hc
 rw [ZQ (js := []) (caps := []) rfl hc (by rw [ZK, szl]; omega), ZaS]
 rfl
theorem Zl9 (C : Addr) {p r n : Int} {B : List (List Int)} (h : Bod p r n B) (hc : ∀ q : Nat, (q : Int) <= r -> (B.map fun b => b.getD q 0).sum % p = 0) (hg : ∀ k : Nat, (k : Int) < n -> (Fb p n B k).getD 2 0 <= r) {ks : List Int} {m : Option Int}
 (hn : ks ≠ []) (hl : ks.length <= 900) (hk : ∀ k, k ∈ ks ↔ (0 <= k /\ k <= n) /\ m ≠ some k) (hm : ∀ k, m = some k -> 0 <= k /\ k <= n) (o a : Bool) (ha : o = false -> a = false) :
 (Zq C).run [Ro C true p r, .node .lst o (dL a (ks.map (Fb p n B)))] = .ok (.node .lst true (dL true ((rngI 0 (n + 1).toNat).map (Fb p n B))), [Ro C true p r, .node .lst false (dL false (ks.map (Fb p n B)))]) := by
 obtain ⟨D1, D2⟩ := dealt (by have := h.n1; omega) hn hl hk hm
 have n1 := h.n1
 have np := h.np
 have p47 := h.p47
 have r1 := h.r1
 have mem : ∀ k ∈ dd [] ks, 0 <= k /\ k <= n := fun k q => by
  rw [ZfX] at q
  exact ((hk k).mp (q.resolve_left (by simp))).1
 refine ZjM C p r o a _ _ ha (by rw [List.length_map, Z5]; omega) (fun l q => ?_) (fun o => Zfb C p r n (Fb p n B) ks (dd [] ks) m o false (fun _ => rfl) D1 h.p7 h.p47 h.r1 h.r5 (by omega) (fun k q => ?_) (fun k q => ?_) fun k q => ?_) fun l q => ?_
 . obtain ⟨k, q', rfl⟩ := List.mem_map.mp q
   have := ((hk k).mp q').1
   exact h.is C this.1 this.2
 . have := ((hk k).mp q).1
   obtain ⟨a1, a2, a3, a4, _⟩ := h.lab this.1 this.2
   exact ⟨by omega, a3, a4⟩
 . have := h.lab (mem k q).1 (mem k q).2
   omega
 . subst q
   exact h.back (hm k rfl) mem D2 hc
 . rw [show (n + 1).toNat = n.toNat + 1 by omega, ZbH, List.map_append, List.map_cons, List.map_nil, List.dropLast_concat] at q
   obtain ⟨k, q', rfl⟩ := List.mem_map.mp q
   have q := Zai _ _ _ q'
   have := (h.lab (k := k) (by omega) (by omega)).1
   refine ⟨by omega, ?_⟩
   have := hg k.toNat (by omega)
   rwa [Int.toNat_of_nonneg (by omega)] at this
section
variable (C : Addr) (p r : Int) (row : List Int) (hp : 7 <= p) (hp2 : p <= 47) (h1 : 1 <= r) (h2 : r <= p - 5) (hl : row.length <= 1000) (hn : (row.length : Int) <= r * (p - 1)) (hx : ∀ x ∈ row, 0 <= x /\ x < p)
noncomputable abbrev FF (p r : Int) (row : List Int) : Int -> List Int := Fb p (pcs r row).length (bds p r row)
abbrev Deal (N : Int) (ks : List Int) : Prop := ks ≠ [] /\ ks.length <= 900 /\ ∃ m : Option Int, (∀ k, k ∈ ks ↔ (0 <= k /\ k <= N) /\ m ≠ some k) /\ ∀ k, m = some k -> 0 <= k /\ k <= N
include hp hp2 h1 h2 hl hn hx
theorem ZgV (ks : List Int) (hd : Deal (pcs r row).length ks) (o a : Bool) (ha : o = false -> a = false) :
 (Zq C).run [Ro C true p r, .node .lst o (dL a (ks.map (FF p r row)))] = .ok (.node .lst true (dL true (parts p r row)), [Ro C true p r, .node .lst false (dL false (ks.map (FF p r row)))]) := by
 obtain ⟨d1, d2, m, d3, d4⟩ := hd
 rw [Zav]
 exact Zl9 C (Zcx p r row hp hp2 h1 h2 hn hx) (ZiH p r row h1) (fun k hk => (ZgS p r row h1 k (by omega)).1) d1 d2 d3 d4 o a ha
theorem ZfZ (ks : List Int) (hd : Deal (pcs r row).length ks) (o a : Bool) (ha : o = false -> a = false) :
 (Z2 C).run [Ro C true p r, .node .lst o (dL a (ks.map (FF p r row)))] = .ok (Ls true row, [Ro C true p r, .node .lst false (dL false (ks.map (FF p r row)))]) := by
 have hB := Zcx p r row hp hp2 h1 h2 hn hx
 have np := hB.np
 have e := ZjO C p r o a (ks.map (FF p r row)) (parts p r row) ha (by rw [Zav, List.length_map, Z5]; omega) (fun l q => by
  rw [Zav] at q
  obtain ⟨k, q', rfl⟩ := List.mem_map.mp q
  have q := Zai _ _ _ q'
  have := (hB.lab (k := k) (by omega) (by omega)).1
  omega) (ZgV C p r row hp hp2 h1 h2 hl hn hx ks hd o a ha)
 rw [e]
 have e2 : (parts p r row).dropLast.map gat = pcs r row := by
  rw [Zav, show (((pcs r row).length : Int) + 1).toNat = (pcs r row).length + 1 by omega, ZbH, List.map_append, List.map_cons, List.map_nil, List.dropLast_concat, List.map_map]
  refine List.ext_getElem (by rw [List.length_map, Z5]) fun k q1 q2 => ?_
  rw [List.getElem_map]
  have := ZfY (pcs r row).length k 0 q2
  rw [List.getElem?_eq_getElem (by rw [Z5]; exact q2)] at this
  rw [Option.some.inj this, Int.zero_add]
  exact (ZgS p r row h1 k q2).2
 rw [e2, ZjQ r row h1 hl]
omit hp hp2 h1 h2 hl hn hx in
theorem ZjR (N : Nat) (hN : N <= 800) : Deal N (rngI 0 ((N : Int) + 1).toNat) := by
 refine ⟨fun q => ?_, by rw [Z5]; omega, none, fun k => ⟨fun q => ⟨by have := Zai _ _ _ q; omega, by simp⟩, fun q => Zcw _ _ _ q.1.1 (by omega)⟩, fun k q => by cases q⟩
 have := congrArg List.length q
 rw [Z5, List.length_nil] at this
 omega
end
theorem ZeV (ns : List Int) (k : Int) : ∃ c : Int, ZA.run [scr ns, I k] = .ok (I c, [scr ns, I k]) := by
 have hc : cutD (ns.map fun i => D.sc (.int i)) (some k) (some (k + 1)) = dI (cutI ns (some k) (some (k + 1))) := ZaI ns _ _
 generalize cutI ns (some k) (some (k + 1)) = cs at hc
 have sm := Zb0 cs
 refine ⟨cs.sum, ?_⟩
 walk_at "r"
 (simp_all [hc, sm, scr]) <;> rfl
theorem ZjS {c : M Bool} {body : M Fl} {n : Nat} {δ δ1 δ2 : List D} (hc : c δ = .ok (true, δ1)) (hb : body δ1 = .ok (.nx, δ2)) : Zag c body (n + 1) δ = Zag c body n δ2 := by
 show (c.bnd fun b => if b then body.bnd fun f => match f with
  | .nx => Zag c body n
  | .ct => Zag c body n
  | .bk => M.ret .nx
  | .rt x => M.ret (.rt x)
  else M.ret .nx) δ = _
 rw [ZP hc, if_pos rfl, ZP hb]
theorem ZiL {c : M Bool} {body : M Fl} {n : Nat} {δ δ1 : List D} (hc : c δ = .ok (false, δ1)) : Zag c body (n + 1) δ = .ok (.nx, δ1) := by
 show (c.bnd fun b => if b then body.bnd fun f => match f with
  | .nx => Zag c body n
  | .ct => Zag c body n
  | .bk => M.ret .nx
  | .rt x => M.ret (.rt x)
  else M.ret .nx) δ = _
 rw [ZP hc, if_neg (by simp)]
 rfl
theorem Zkr {f : Kd -> List D -> Option (D × Kd × List D)} {k k' : Kd} {ds ds' : List D} {r : D} {i : Nat} {δ : List D} (e : f k ds = some (r, k', ds')) : mdR i δ f (some (.node k true ds)) = .ok (r, δ.set i (.node k' true ds')) := by
 show (match f k ds with
  | some (r, k', ds') => Rs.ok (r, δ.set i (.node k' true ds'))
  | none => .stuck) = _
 rw [e]
theorem Zqx (o : Bool) (i : Int) (xs : List D) (h : -(2 ^ 63) <= i /\ i < 2 ^ 63) : mutD .popAt [.sc (.int i)] .lst xs = (ixN' xs.length i).bind fun j => xs[j]?.map fun d => (d, .lst, xs.eraseIdx j) := if_pos h
theorem Ze9 (C : T.Ctx) (i : Nat) (es : List E) : (evb C (.mut .popAt i [] es)).1 = ((chkL i).bnd fun _ => (opds C es).bnd fun ps => (views ps).bnd fun ws => modS i (mutD .popAt ws)) := (rfl)
theorem Zga {α β : Type} (f : α -> β) : ∀ (xs : List α) (j : Nat), (xs.map f).eraseIdx j = (xs.eraseIdx j).map f
 | [], _ => rfl
 | x :: xs, 0 => rfl
 | x :: xs, j + 1 => by rw [List.map_cons, List.eraseIdx_cons_succ, List.eraseIdx_cons_succ, List.map_cons, Zga f xs j]
theorem Zgb {k : Int} : ∀ (xs : List Int) (j : Nat) (h : j < xs.length), k ∈ xs ↔ k = xs[j] \/ k ∈ xs.eraseIdx j
 | x :: xs, 0, h => by rw [List.eraseIdx_cons_zero, List.mem_cons]; rfl
 | x :: xs, j + 1, h => by
  rw [List.eraseIdx_cons_succ, List.mem_cons, List.mem_cons, Zgb xs j (by simpa using h), List.getElem_cons_succ]
  constructor
  . rintro (h | h | h)
    . exact .inr (.inl h)
    . exact .inl h
    . exact .inr (.inr h)
  . rintro (h | h | h)
    . exact .inr (.inl h)
    . exact .inl h
    . exact .inr (.inr h)
theorem ZiM : ∀ (xs : List Int) (j : Nat) (h : j < xs.length), xs.Nodup -> xs[j] ∉ xs.eraseIdx j
 | x :: xs, 0, h, hn => by rw [List.eraseIdx_cons_zero]; exact (List.nodup_cons.mp hn).1
 | x :: xs, j + 1, h, hn => by
  have hj : j < xs.length := by simpa using h
  rw [List.eraseIdx_cons_succ, List.getElem_cons_succ, List.mem_cons, not_or]
  exact ⟨fun e => (List.nodup_cons.mp hn).1 (e ▸ List.getElem_mem hj), ZiM xs j hj (List.nodup_cons.mp hn).2⟩
theorem Zgc (i : Nat) (δ : List D) (o : Bool) (F : Int -> List Int) (ls : List Int) (j : Nat) (hj : j < ls.length) (hz : ls.length <= 1000) : mdR i δ (mutD .popAt [.sc (.int (j : Int))]) (some (.node .lst true (dL o (ls.map F)))) = .ok (Ls o (F ls[j]), δ.set i (.node .lst true (dL o ((ls.eraseIdx j).map F)))) := by
 refine Zkr ?_
 rw [Zqx o _ _ (by omega), Zbx _ j (by rw [ZK, List.length_map]; exact hj)]
 show (dL o (ls.map F))[j]?.map _ = _
 unfold dL
 rw [List.getElem?_map, List.getElem?_map, List.getElem?_eq_getElem hj, Zga, Zga]
 rfl
theorem ZiN (o o' : Bool) (xs ys : List (List Int)) : ZV .NotEq (.nd .lst (dL o xs)) (.nd .lst (dL o' ys)) = some (!decide (xs = ys)) := by
 show (ZV .Eq (.nd .lst (dL o xs)) (.nd .lst (dL o' ys))).map (!·) = _
 rw [ZnE]
 rfl
noncomputable abbrev Zfj : List S := [.asg 6 (.call Zo [.bin .Add (.call ZA [.v 0, .bin .Add (.k (.int 2)) (.bin .Mod (.v 5) (.k (.int 28)))]) (.bin .FloorDiv (.v 5) (.k (.int 28))), .k (.int 2)]), .ex (.mut .append 4 [] [.mut .popAt 3 [] [.bin .Mod (.ix (.v 6) (.k (.int 0))) (.bf .len [.v 3])]]), .iff (.cmp .Eq (.bin .Mod (.ix (.v 6) (.k (.int 1))) (.k (.int 4))) (.k (.int 1))) [.ex (.mut .append 4 [] [.bf .list [.ix (.v 4) (.bin .Mod (.bin .FloorDiv (.ix (.v 6) (.k (.int 1))) (.k (.int 4))) (.bf .len [.v 4]))]])] [], .asg 5 (.bin .Add (.v 5) (.k (.int 1)))]
noncomputable abbrev Cd (lk : Nat -> Bool) : T.Ctx := ⟨lk, fun _ _ => false, 1000⟩
theorem ZiO (lk : Nat -> Bool) (h3 : lk 3 = false) (h4 : lk 4 = false) (h5 : lk 5 = false) (h6 : lk 6 = false) (ns : List Int) (F : Int -> List Int) (x1 x2 : D) (ls ks : List Int) (X : List D) (t : Int) (a : D) (hz : ls.length <= 900) (hz2 : ks.length <= 900) (hn : ls ≠ []) (hX : shrL X = dL false (ks.map F)) :
 ∃ (j : Nat) (hj : j < ls.length) (ks' : List Int) (X' : List D) (a' : D), shrL X' = dL false (ks'.map F) /\ (∀ k, k ∈ ks' ↔ k ∈ ks \/ k = ls[j]) /\ ks'.length <= ks.length + 2 /\ ks' ≠ [] /\
  exs (Cd lk) Zfj [scr ns, x1, x2, .node .lst true (dL false (ls.map F)), .node .lst true X, I t, a] = .ok (.nx, [scr ns, x1, x2, .node .lst true (dL false ((ls.eraseIdx j).map F)), .node .lst true X', I (t + 1), a']) := by
 obtain ⟨c, hh⟩ := ZeV ns (2 + t % 28)
 obtain ⟨ys, hy, hs⟩ := ZbT (c + t / 28) 2 (by decide)
 have hp : 0 < ls.length := List.length_pos_iff.mpr hn
 have i0 : ((ixN' (dI ys).length 0).bind fun j => (dI ys)[j]?) = some (.sc (.int (ys.getD 0 0))) := ixI ys 0 (by omega) (by omega)
 have i1 : ((ixN' (dI ys).length 1).bind fun j => (dI ys)[j]?) = some (.sc (.int (ys.getD 1 0))) := ixI ys 1 (by omega) (by omega)
 generalize ys.getD 0 0 = y0 at *
 generalize ys.getD 1 0 = y1 at *
 have m0 := Int.emod_nonneg y0 (show (ls.length : Int) ≠ 0 by omega)
 have m1 := Int.emod_lt_of_pos y0 (show (0 : Int) < ls.length by omega)
 obtain ⟨j, ej⟩ : ∃ j : Nat, y0 % (ls.length : Int) = (j : Int) := ⟨(y0 % (ls.length : Int)).toNat, by omega⟩
 have hj : j < ls.length := by omega
 have pop := fun δ => Zgc 3 δ false F ls j hj (by omega)
 have len3 : ∀ o, ((dL o (ls.map F)).length : Int) = (ls.length : Int) := fun o => by rw [ZK, List.length_map]
 have d1 : binW .Mod (.sc (.int t)) (.sc (.int 28)) = some (.sc (.int (t % 28))) := ZI _ _ (by decide)
 have d2 : binW .FloorDiv (.sc (.int t)) (.sc (.int 28)) = some (.sc (.int (t / 28))) := Zei _ _ (by decide)
 have d3 : binW .Mod (.sc (.int y0)) (.sc (.int (ls.length : Int))) = some (.sc (.int (j : Int))) := by rw [ZI _ _ (by omega), ej]
 have d4 : binW .Mod (.sc (.int y1)) (.sc (.int 4)) = some (.sc (.int (y1 % 4))) := ZI _ _ (by decide)
 have d5 : binW .FloorDiv (.sc (.int y1)) (.sc (.int 4)) = some (.sc (.int (y1 / 4))) := Zei _ _ (by decide)
 have k1 : ZA.lend = true := rfl
 have k2 : Zo.lend = true := rfl
 simp only [scr] at hh
 replace hs : Zo.run [I (c + t / 28), I 2] = .ok (Ls true ys, [I (c + t / 28), I 2]) := hs
 have xl : X.length = ks.length := by
  have := congrArg List.length hX
  rw [Zf0, List.length_map, ZK, List.length_map] at this
  exact this
 have ap := fun δ => Zc6 4 δ (Ls false (F ls[j])) X (by rw [xl, szl]; omega)
 have sX : shrL (X ++ [Ls false (F ls[j])]) = dL false ((ks ++ [ls[j]]).map F) := by
  rw [ZcQ, hX, List.map_append, ZaV]
  congr 1
  show [shr (Ls false (F ls[j]))] = _
  rw [shr, Zl]
  rfl
 refine ⟨j, hj, ?_⟩
 by_cases hd : y1 % 4 = 1
 . have hl2 : (ks ++ [ls[j]]).length = ks.length + 1 := by simp
   have n0 := Int.emod_nonneg (y1 / 4) (show ((ks.length : Int) + 1) ≠ 0 by omega)
   have n1 := Int.emod_lt_of_pos (y1 / 4) (show (0 : Int) < (ks.length : Int) + 1 by omega)
   obtain ⟨i, ei⟩ : ∃ i : Nat, (y1 / 4) % ((ks.length : Int) + 1) = (i : Int) := ⟨((y1 / 4) % ((ks.length : Int) + 1)).toNat, by omega⟩
   have hi : i < (ks ++ [ls[j]]).length := by rw [hl2]; omega
   have len4 : ((X ++ [Ls false (F ls[j])]).length : Int) = (ks.length : Int) + 1 := by rw [List.length_append, xl]; rfl
   have len5 : ((dL false ((ks ++ [ls[j]]).map F)).length : Int) = (ks.length : Int) + 1 := by rw [ZK, List.length_map, hl2]; rfl
   have d6 : binW .Mod (.sc (.int (y1 / 4))) (.sc (.int ((ks.length : Int) + 1))) = some (.sc (.int (i : Int))) := by rw [ZI _ _ (by omega), ei]
   have ii : ((ixN' (dL false ((ks ++ [ls[j]]).map F)).length (i : Int)).bind fun q => (dL false ((ks ++ [ls[j]]).map F))[q]?) = some (Ls false (F (ks ++ [ls[j]])[i])) := by
    rw [ixL false _ i (by rw [List.length_map]; exact hi), List.getD_eq_getElem?_getD, List.getElem?_map, List.getElem?_eq_getElem hi]
    rfl
   have sY := Z3 false ((ks ++ [ls[j]]).map F)
   have ap2 := fun δ => Zc6 4 δ (Ls true (F (ks ++ [ls[j]])[i])) (dL false ((ks ++ [ls[j]]).map F)) (by rw [ZK, List.length_map, hl2, szl]; omega)
   have mi := List.getElem_mem hi
   generalize (ks ++ [ls[j]])[i] = k' at *
   refine ⟨ks ++ [ls[j]] ++ [k'], dL false ((ks ++ [ls[j]]).map F) ++ [Ls true (F k')], Ls true ys, ?_, fun k => ?_, by simp, by simp, ?_⟩
   . generalize ks ++ [ls[j]] = kz at *
     rw [ZcQ, sY, List.map_append, ZaV]
     congr 1
     show [shr (Ls true (F k'))] = _
     rw [shr, Zl]
     rfl
   . rw [List.mem_append, List.mem_singleton]
     simp only [List.mem_append, List.mem_singleton] at mi ⊢
     constructor
     . rintro (h | rfl)
       . exact h
       . exact mi
     . exact .inl
   . generalize dL false ((ks ++ [ls[j]]).map F) = Y at *
     generalize dL false ((ls.eraseIdx j).map F) = Z at *
     (simp_all [h3, h4, h5, h6, k1, k2, d1, d2, hh, hs, Ze9, Zhy, i0, i1, len3, d3, Z3, pop, ap, d4, hd, V.int.injEq, d5, len4, len5, d6, sX, sY, ii, ap2, Zl, scr]) <;> rfl
 . refine ⟨ks ++ [ls[j]], X ++ [Ls false (F ls[j])], Ls true ys, sX, fun k => by rw [List.mem_append, List.mem_singleton], by simp, by simp, ?_⟩
   generalize dL false ((ls.eraseIdx j).map F) = Z at *
   (simp_all [h3, h4, h5, h6, k1, k2, d1, d2, hh, hs, Ze9, Zhy, i0, i1, len3, d3, Z3, pop, ap, d4, hd, V.int.injEq, Zl, scr]) <;> rfl
theorem ZeW (lk : Nat -> Bool) (o : Bool) (L : List (List Int)) (x0 x1 x2 x4 x5 x6 : D) : (evb (Cd lk) (.cmp .NotEq (.v 3) (.lst []))).2 [x0, x1, x2, .node .lst true (dL o L), x4, x5, x6] = .ok (!decide (L = []), [x0, x1, x2, .node .lst true (dL false L), x4, x5, x6]) := by
 have ce : ZV .NotEq (.nd .lst (dL false L)) (.nd .lst []) = some (!decide (L = [])) := ZiN false false L []
 have n0 : newL [] = some (.node .lst true []) := ZX _ (by simp)
 have sh := Z3 o L
 generalize (!decide (L = [])) = b at *
 (simp_all [n0, sh, ce]) <;> rfl
theorem ZiP (lk : Nat -> Bool) (h3 : lk 3 = false) (h4 : lk 4 = false) (h5 : lk 5 = false) (h6 : lk 6 = false) (ns : List Int) (F : Int -> List Int) (x1 x2 : D) : ∀ (N fuel : Nat) (ls ks : List Int) (o : Bool) (X : List D) (t : Int) (a : D), ls.length = N -> N < fuel -> ks.length + 2 * N <= 900 -> shrL X = dL false (ks.map F) ->
 ∃ (ks' : List Int) (X' : List D) (t' : Int) (a' : D), shrL X' = dL false (ks'.map F) /\ (∀ k, k ∈ ks' ↔ k ∈ ks \/ k ∈ ls) /\ ks'.length <= ks.length + 2 * N /\
  Zag (evb (Cd lk) (.cmp .NotEq (.v 3) (.lst []))).2 (exs (Cd lk) Zfj) fuel [scr ns, x1, x2, .node .lst true (dL o (ls.map F)), .node .lst true X, I t, a] = .ok (.nx, [scr ns, x1, x2, .node .lst true [], .node .lst true X', I t', a']) := by
 intro N
 induction N with
 | zero =>
  intro fuel ls ks o X t a hl hf hz hX
  obtain ⟨f, rfl⟩ : ∃ f, fuel = f + 1 := ⟨fuel - 1, by omega⟩
  have e : ls = [] := List.length_eq_zero_iff.mp hl
  subst e
  refine ⟨ks, X, t, a, hX, fun k => by simp, by omega, ?_⟩
  exact ZiL (ZeW lk o [] (scr ns) x1 x2 (.node .lst true X) (I t) a)
 | succ N ih =>
  intro fuel ls ks o X t a hl hf hz hX
  obtain ⟨f, rfl⟩ : ∃ f, fuel = f + 1 := ⟨fuel - 1, by omega⟩
  have hn : ls ≠ [] := fun e => by rw [e] at hl; cases hl
  obtain ⟨j, hj, ks1, X1, a1, g1, g2, g3, g4, g5⟩ := ZiO lk h3 h4 h5 h6 ns F x1 x2 ls ks X t a (by omega) (by omega) hn hX
  obtain ⟨ks', X', t', a', q1, q2, q3, q4⟩ := ih f (ls.eraseIdx j) ks1 false X1 (t + 1) a1 (by rw [List.length_eraseIdx_of_lt hj]; omega) (by omega) (by omega) g1
  refine ⟨ks', X', t', a', q1, fun k => ?_, by omega, ?_⟩
  . rw [q2, g2, Zgb ls j hj, or_assoc]
  . have ht := ZeW lk o (ls.map F) (scr ns) x1 x2 (.node .lst true X) (I t) a
    rw [decide_eq_false (fun e => hn (List.map_eq_nil_iff.mp e)), Bool.not_false] at ht
    rw [ZjS ht g5]
    exact q4
noncomputable abbrev Zh8 : M Bool := Zcn ((ZT 3).bnd fun p => (((M.ret ([] : List D)).bnd fun ds => lift (newL ds)).bnd fun d => M.ret (Op.tmp d)).bnd fun q => (view p).bnd fun x => (view q).bnd fun y => lift ((ZV .NotEq x y).map fun t => D.sc (.bl t)))
theorem ZeX (lk : Nat -> Bool) : (evb (Cd lk) (.cmp .NotEq (.v 3) (.lst []))).2 = Zh8 := (rfl)
theorem ZiQ (ns : List Int) (F : Int -> List Int) (n : Nat) (hn : 1 <= n) (hn2 : n <= 100) : ∃ (ks : List Int) (X : List D), Deal n ks /\ shrL X = dL false (ks.map F) /\
 Zbs.run [scr ns, .node .lst true (dL true ((rngI 0 ((n : Int) + 1).toNat).map F))] = .ok (.node .lst true X, [scr ns, .node .lst true (dL false ((rngI 0 ((n : Int) + 1).toNat).map F))]) := by
 obtain ⟨c, hh⟩ := ZeV ns 1
 obtain ⟨ys, hy, hs⟩ := ZbT c 2 (by decide)
 replace hs : Zo.run [I c, I 2] = .ok (Ls true ys, [I c, I 2]) := hs
 have i0 : ((ixN' (dI ys).length 0).bind fun j => (dI ys)[j]?) = some (.sc (.int (ys.getD 0 0))) := ixI ys 0 (by omega) (by omega)
 have i1 : ((ixN' (dI ys).length 1).bind fun j => (dI ys)[j]?) = some (.sc (.int (ys.getD 1 0))) := ixI ys 1 (by omega) (by omega)
 generalize ys.getD 0 0 = y0 at *
 generalize ys.getD 1 0 = y1 at *
 have rl := Z5 ((n : Int) + 1).toNat 0
 have rn := ZbU ((n : Int) + 1).toNat 0
 have rm : ∀ x, x ∈ rngI 0 ((n : Int) + 1).toNat ↔ 0 <= x /\ x <= (n : Int) := fun x => ⟨fun h => by have := Zai _ _ _ h; omega, fun h => Zcw _ _ _ h.1 (by omega)⟩
 generalize rngI 0 ((n : Int) + 1).toNat = rg at *
 have hlen : ∀ o, ((dL o (rg.map F)).length : Int) = (n : Int) + 1 := fun o => by rw [ZK, List.length_map]; omega
 have cp := ZgU (fun _ _ => false) 1000 (rg.map F) (by rw [List.length_map]; omega)
 have k1 : ZA.lend = true := rfl
 have k2 : Zo.lend = true := rfl
 have n0 : newL [] = some (.node .lst true []) := ZX _ (by simp)
 have d3 : binW .Mod (.sc (.int y0)) (.sc (.int 3)) = some (.sc (.int (y0 % 3))) := ZI _ _ (by decide)
 have m0 := Int.emod_nonneg y1 (show (n : Int) + 1 ≠ 0 by omega)
 have m1 := Int.emod_lt_of_pos y1 (show (0 : Int) < (n : Int) + 1 by omega)
 obtain ⟨j, ej⟩ : ∃ j : Nat, y1 % ((n : Int) + 1) = (j : Int) := ⟨(y1 % ((n : Int) + 1)).toNat, by omega⟩
 have hj : j < rg.length := by omega
 have d4 : binW .Mod (.sc (.int y1)) (.sc (.int ((n : Int) + 1))) = some (.sc (.int (j : Int))) := by rw [ZI _ _ (by omega), ej]
 have pop := fun δ => Zgc 3 δ false F rg j hj (by omega)
 have sh := fun o => Z3 o (rg.map F)
 have lp := fun ls o hl => ZiP (fun i => decide (i < 2)) rfl rfl rfl rfl ns F (.node .lst true (dL false (rg.map F))) (Ls true ys) ls.length 1000 ls [] o [] 0 .hole rfl (by omega) hl rfl
 simp only [scr] at hh
 have mk : ∀ (ks : List Int) (m : Option Int), ks.length <= 900 -> (∀ k, k ∈ ks ↔ (0 <= k /\ k <= (n : Int)) /\ m ≠ some k) -> (∀ k, m = some k -> 0 <= k /\ k <= (n : Int)) -> Deal n ks := fun ks m q1 q2 q3 => by
  refine ⟨fun e => ?_, q1, m, q2, q3⟩
  subst e
  have a0 := (q2 0).mpr
  have a1 := (q2 1).mpr
  simp only [List.not_mem_nil] at a0 a1
  have b0 : m = some 0 := Classical.byContradiction fun q => a0 ⟨by omega, q⟩
  have b1 : m = some 1 := Classical.byContradiction fun q => a1 ⟨by omega, q⟩
  rw [b0] at b1
  simp at b1
 by_cases hd : 0 < y0 % 3
 . obtain ⟨ks, X, t, a, q1, q2, q3, q4⟩ := lp (rg.eraseIdx j) false (by rw [List.length_eraseIdx_of_lt hj]; show 0 + _ <= _; omega)
   rw [List.length_eraseIdx_of_lt hj] at q3
   refine ⟨ks, X, mk ks (some rg[j]) (by simp at q3; omega) (fun k => ?_) (fun k e => ?_), q1, ?_⟩
   . have hne := ZiM rg j hj rn
     rw [q2, <- rm, Zgb rg j hj]
     constructor
     . rintro (h | h)
       . simp at h
       . exact ⟨.inr h, fun e => by cases e; exact hne h⟩
     . rintro ⟨h, e⟩
       rcases h with h | h
       . exact absurd (by rw [h]) e
       . exact .inr h
   . cases e
     exact (rm _).mp (List.getElem_mem hj)
   . rw [ZeX] at q4
     simp only [Zh8, Zfj, Cd, scr, Ls, I] at q4
     walk_at "r"
     generalize dL false ((rg.eraseIdx j).map F) = Z at *
     (simp_all [Cw, k1, k2, hh, hs, i0, i1, sh, cp, d3, hd, Ze9, Zhy, hlen, d4, pop, n0, ZdH, q4, Zl, scr]) <;> rfl
 . obtain ⟨ks, X, t, a, q1, q2, q3, q4⟩ := lp rg true (by show 0 + _ <= _; omega)
   refine ⟨ks, X, mk ks none (by simp at q3; omega) (fun k => ?_) (fun k e => by cases e), q1, ?_⟩
   . rw [q2, <- rm]
     simp
   . rw [ZeX] at q4
     simp only [Zh8, Zfj, Cd, scr, Ls, I] at q4
     walk_at "r"
     (simp_all [Cw, k1, k2, hh, hs, i0, i1, sh, cp, d3, hd, n0, ZdH, q4, Zl, scr]) <;> rfl
theorem ZnF (C : T.Ctx) (i : Nat) (n m : Int) (e : E) : ex C (.sub i [.k (.int n)] (.k (.int m)) e) = ((evb C e).1.bnd fun d => (Zb4 i n (setD (.sc (.int m)) d)).bnd fun _ => M.ret .nx) := (rfl)
theorem Zqy (C : T.Ctx) (i : Nat) : (evb C (.mut .pop i [] [])).1 = ((chkL i).bnd fun _ => (opds C []).bnd fun ps => (views ps).bnd fun ws => modS i (mutD .pop ws)) := (rfl)
theorem ZiR (i : Nat) (l0 : List Int) (tl : List (List Int)) (h : 3 <= l0.length) (d : D) (δ : List D) (hi : δ[i]? = some (.node .lst true (dL true (l0 :: tl)))) : Zb4 i 0 (setD (.sc (.int 2)) d) δ = .ok (.sc .non, δ.set i (.node .lst true (.node .lst true ((dI l0).set 2 d) :: dL true tl))) := by
 have e1 : ixN' (dL true (l0 :: tl)).length 0 = some 0 := Zbx _ 0 (by rw [ZK, List.length_cons]; omega)
 have e2 : ixN' (dI l0).length 2 = some 2 := Zbx _ 2 (by rw [Zv]; omega)
 have e3 : setD (.sc (.int 2)) d .lst (dI l0) = some (.sc .non, .lst, (dI l0).set 2 d) := by
  show ((ixN' (dI l0).length 2).map fun j => (D.sc .non, Kd.lst, (dI l0).set j d)) = _
  rw [e2]
  rfl
 unfold Zb4
 rw [hi]
 dsimp only
 rw [e1]
 dsimp only
 rw [show (dL true (l0 :: tl))[0]? = some (.node .lst true (dI l0)) from rfl]
 dsimp only
 rw [e3]
 rfl
theorem ZnG (i : Nat) (δ xs : List D) (y : D) : mdR i δ (mutD .pop []) (some (.node .lst true (xs ++ [y]))) = .ok (y, δ.set i (.node .lst true xs)) := by
 refine Zkr ?_
 show (xs ++ [y]).getLast?.map (fun d => (d, Kd.lst, (xs ++ [y]).dropLast)) = _
 rw [List.getLast?_concat, List.dropLast_concat]
 rfl
theorem Zqz {A : Addr} {fi : FI} {δ : List D} {p r : Int} {x : D} (h : fi.run [.node (.ins A []) true [], I p, I r] = .ok (.sc .non, [x, I p, I r])) : newF A fi [.tmp (.sc (.int p)), .tmp (.sc (.int r))] δ = .ok (x, δ) := by
 unfold newF
 rw [ZP (show Za0 fi.lend [.tmp (.sc (.int p)), .tmp (.sc (.int r))] δ = .ok ([I p, I r], δ) from rfl), h]
 rfl
theorem ZlA (o o' : Bool) (l : List Int) (hl : l.length <= 1000) : Zad.run [Ls o l, Ls o' l] = .ok (.sc (.bl true), [Ls o l, Ls o' l]) :=
 ZfS 2 o o' (dI l) (dI l) (dI l) (by rw [Zv]; exact hl) (fun d hd => by
  obtain ⟨x, _, rfl⟩ := List.mem_map.mp hd
  exact ⟨Zi9 1 x, .inl ⟨_, rfl⟩⟩) (Zl l)
  (by cases o with | true => exact .inl ⟨rfl, Zl _⟩ | false => exact .inr ⟨rfl, rfl⟩)
  (by cases o' with | true => exact .inl ⟨rfl, Zl _⟩ | false => exact .inr ⟨rfl, rfl⟩)
theorem ZgW (C : Addr) (q : Int) (row : List Int) (hq : 7 <= q) (hq2 : q <= 47) (hl : (row.length : Int) <= 6) (hx : ∀ x ∈ row, 0 <= x /\ x < 7) :
 (Z2 C).run [Ro C true q 1, .node .lst true (dL true (parts q 1 row))] = .ok (Ls true row, [Ro C true q 1, .node .lst false (dL false (parts q 1 row))]) := by
 have hx' : ∀ x ∈ row, 0 <= x /\ x < q := fun x h => by have := hx x h; omega
 have hB := Zcx q 1 row hq hq2 (by omega) (by omega) (by omega) hx'
 have np := hB.np
 have := ZfZ C q 1 row hq hq2 (by omega) (by omega) (by omega) (by omega) hx' (rngI 0 (((pcs 1 row).length : Int) + 1).toNat) (ZjR _ (by omega)) true true (fun h => by cases h)
 rwa [<- Zav] at this
theorem Zh9 (p r : Int) (row : List Int) (hB : Bod p r (pcs r row).length (bds p r row)) : ∃ (l0 : List Int) (mid : List (List Int)) (lz : List Int), parts p r row = l0 :: (mid ++ [lz]) /\ 3 <= l0.length := by
 have n1 := hB.n1
 obtain ⟨N, hN⟩ : ∃ N, (pcs r row).length = N + 1 := ⟨(pcs r row).length - 1, by omega⟩
 have e : rngI 0 (((pcs r row).length : Int) + 1).toNat = 0 :: (rngI (0 + 1) N ++ [0 + 1 + (N : Int)]) := by
  rw [show (((pcs r row).length : Int) + 1).toNat = N + 1 + 1 by omega, rngI, ZbH]
 rw [Zav, e, List.map_cons, List.map_append]
 refine ⟨_, _, _, rfl, ?_⟩
 have := (hB.lab (k := 0) (by omega) (by omega)).1
 have := hB.r1
 omega
theorem ZjT (C : Addr) (ns : List Int) (h : ns.length <= 63) : ∃ ds', (Zfi C).run [scr ns] = .ok (.sc (.bl true), ds') := by
 obtain ⟨p, r, p1, p2, p3, r1, r2, hroll⟩ := ZjE ns
 obtain ⟨row, l1, l2, hx, hrow⟩ := Zl3 ns p r h p2 p3 r1 r2
 have hpar := ZcP C p r row p2 p3 r1 r2 (by omega) l2 hx
 have hini := ZfP C p r p1 r1 r2
 have hB := Zcx p r row p2 p3 r1 r2 l2 hx
 have n1 := hB.n1
 have np := hB.np
 obtain ⟨ks, X, hD, hX, hdl⟩ := ZiQ ns (FF p r row) (pcs r row).length (by omega) (by omega)
 rw [<- Zav] at hdl
 have gr := fun o a ha => ZfZ C p r row p2 p3 r1 r2 (by omega) l2 hx ks hD o a ha
 have ar := fun o a ha => ZgV C p r row p2 p3 r1 r2 (by omega) l2 hx ks hD o a ha
 have gr1 := gr true true (fun h => by cases h)
 have gr2 := gr false false (fun _ => rfl)
 have ar2 := ar false false (fun _ => rfl)
 have cp := ZgU (CK C).fok (CK C).fuel (ks.map (FF p r row)) (by rw [List.length_map]; have := hD.2.1; omega)
 have ne := ZiN false false (ks.map (FF p r row)) (ks.map (FF p r row))
 rw [decide_eq_true rfl, Bool.not_true] at ne
 have shk := Z3 false (ks.map (FF p r row))
 generalize dL true (ks.map (FF p r row)) = KT at *
 generalize dL false (ks.map (FF p r row)) = KF at *
 obtain ⟨l0, mid, lz, hpt, hl0⟩ := Zh9 p r row hB
 have hall : ∀ l ∈ parts p r row, l.length <= 1000 := fun l q => by
  rw [Zav] at q
  obtain ⟨k, q', rfl⟩ := List.mem_map.mp q
  have q := Zai _ _ _ q'
  have := (hB.lab (k := k) (by omega) (by omega)).1
  omega
 have hlen : (parts p r row).length <= 1000 := by rw [Zav, List.length_map, Z5]; omega
 have sm1 := ZfT false false false false (parts p r row) hlen hall (fun _ => rfl) (fun _ => rfl)
 have sm2 := ZfT true true true false (parts p r row) hlen hall (fun h => by cases h) (fun h => by cases h)
 have sr := ZlA true true row (by omega)
 have ix0 : ((ixN' (dL false (parts p r row)).length 0).bind fun j => (dL false (parts p r row))[j]?) = some (Ls false l0) := by
  rw [hpt]
  exact ixL false (l0 :: (mid ++ [lz])) 0 (by simp)
 have iy0 : ((ixN' (dI l0).length 2).bind fun j => (dI l0)[j]?) = some (.sc (.int (l0.getD 2 0))) := ixI l0 2 (by omega) (by omega)
 generalize l0.getD 2 0 = y0 at iy0
 have mt : ∀ (x0 x1 x2 x3 x4 x5 x6 x7 x8 x9 : D) (v : Int), Zb4 10 0 (setD (.sc (.int 2)) (.sc (.int v))) [x0, x1, x2, x3, x4, x5, x6, x7, x8, x9, .node .lst true (dL true (parts p r row))] = .ok (.sc .non, [x0, x1, x2, x3, x4, x5, x6, x7, x8, x9, .node .lst true ((.node .lst true ((dI l0).set 2 (I v)) :: dL true mid) ++ [Ls true lz])]) := fun x0 x1 x2 x3 x4 x5 x6 x7 x8 x9 v => by
  rw [ZiR 10 l0 (mid ++ [lz]) hl0 (I v) _ (by rw [<- hpt]; rfl), ZaV]
  rfl
 have mp : ∀ (δ : List D) (a : D), mdR 10 δ (mutD .pop []) (some (.node .lst true (a :: (dL true mid ++ [Ls true lz])))) = .ok (Ls true lz, δ.set 10 (.node .lst true (a :: dL true mid))) := fun δ a => ZnG 10 δ (a :: dL true mid) (Ls true lz)
 have shT := Z3 true (parts p r row)
 have shF := Z3 false (parts p r row)
 generalize dL true (parts p r row) = PT at *
 generalize dL false (parts p r row) = PF at *
 obtain ⟨q, q1, q2, q3, iq⟩ : ∃ q : Int, q ∈ PR /\ 7 <= q /\ q <= 47 /\ ((ixN' 2 (if decide (V.int p = V.int 7) = true then 1 else 0)).bind fun j => [D.sc (.int 7), D.sc (.int 11)][j]?) = some (.sc (.int q)) := by
  cases decide (V.int p = V.int 7)
  . exact ⟨7, by decide, by decide, by decide, rfl⟩
  . exact ⟨11, by decide, by decide, by decide, rfl⟩
 have hini2 := ZfP C q 1 q1 (by decide) (by omega)
 have po1 := ZcP C q 1 [1, 2] q2 q3 (by decide) (by omega) (by decide) (by show (2 : Int) <= _; omega) (fun x h => by simp at h; omega)
 have po2 := ZcP C q 1 [2, 1, 0] q2 q3 (by decide) (by omega) (by decide) (by show (3 : Int) <= _; omega) (fun x h => by simp at h; omega)
 have go1 := ZgW C q [1, 2] q2 q3 (by decide) (fun x h => by simp at h; omega)
 have go2 := ZgW C q [2, 1, 0] q2 q3 (by decide) (fun x h => by simp at h; omega)
 generalize dL true (parts q 1 [1, 2]) = Q1 at *
 generalize dL true (parts q 1 [2, 1, 0]) = Q2 at *
 have c1 := Zh4 [1, 2] [1, 2]
 have c2 := Zh4 [2, 1, 0] [2, 1, 0]
 rw [decide_eq_true rfl, Bool.not_true] at c1 c2
 simp only [Ls, ZN, Zce] at c1 c2 po1 po2 go1 go2
 have nl2 : ∀ u v : D, newL [u, v] = some (.node .lst true [u, v]) := fun u v => ZX _ (by rw [szl]; simp)
 have nl3 : ∀ u v w : D, newL [u, v, w] = some (.node .lst true [u, v, w]) := fun u v w => ZX _ (by rw [szl]; simp)
 have ib : ∀ b : Bool, bfW .int [.sc (.bl b)] = some (.sc (.int (if b = true then 1 else 0))) := fun _ => rfl
 have nw : ∀ x0 x3 x4 x5 x6 x7 x8 x9 x10 : D, newF C (ZJ C) [.late 1, .late 2] [x0, I p, I r, x3, x4, x5, x6, x7, x8, x9, x10] = .ok (Ro C true p r, [x0, I p, I r, x3, x4, x5, x6, x7, x8, x9, x10]) := fun x0 x3 x4 x5 x6 x7 x8 x9 x10 => new2 rfl rfl hini
 have nw2 := fun δ => Zqz (δ := δ) hini2
 have ck : ∀ (m : Str) (hm : m ∉ fs2) (x0 x1 x2 x3 x4 x5 x6 x8 x9 x10 : D), chkI C m (.late 7) [x0, x1, x2, x3, x4, x5, x6, Ro C true p r, x8, x9, x10] = .ok ((), [x0, x1, x2, x3, x4, x5, x6, Ro C true p r, x8, x9, x10]) := fun m hm x0 x1 x2 x3 x4 x5 x6 x8 x9 x10 => ZbS C m 7 _ fs2 true _ rfl hm
 have ck2 : ∀ (m : Str) (hm : m ∉ fs2) (x0 x1 x2 x3 x4 x5 x6 x7 x9 x10 : D), chkI C m (.late 8) [x0, x1, x2, x3, x4, x5, x6, x7, Ro C true q 1, x9, x10] = .ok ((), [x0, x1, x2, x3, x4, x5, x6, x7, Ro C true q 1, x9, x10]) := fun m hm x0 x1 x2 x3 x4 x5 x6 x7 x9 x10 => ZbS C m 8 _ fs2 true _ rfl hm
 have ca := ck "gathered" (by decide)
 have cb := ck "all_labels" (by decide)
 have cc := ck2 "gathered" (by decide)
 have cd := ck2 "parted" (by decide)
 have ckt : ∀ δ : List D, chkI C "parted" (.tmp (Ro C true p r)) δ = .ok ((), δ) := fun δ => if_pos ⟨rfl, by decide⟩
 have ap := fun (δ : List D) => Zc6 9 δ (.sc (.int 1)) (dI row) (by rw [Zv, szl]; omega)
 have k1 : ZaU.lend = true := rfl
 have k2 : Zbr.lend = true := rfl
 have k3 : Zbs.lend = true := rfl
 have k4 : (ZZ C).lend = true := rfl
 have k5 : Zad.lend = true := rfl
 have k6 : (Z2 C).lend = true := rfl
 have k7 : (Zq C).lend = true := rfl
 show ∃ ds', Zi (CK C) 1 11 (Zep C) [scr ns] = .ok (.sc (.bl true), ds')
 rw [runA (show [scr ns].length = 1 from rfl)]
 unfold Zep
 simp only [List.replicate, Nat.reduceSub]
 simp only [scr] at hroll hrow hdl ⊢
 (simp_all [k1, k2, k3, k4, k5, k6, k7, hroll, hrow, hdl, hpar, nw, nw2, ca, cb, cc, cd, ckt, hX, cp, nl2, nl3, ib, iq, po1, po2, go1, go2, c1, c2, gr1, gr2, ar2, sr, sm1, sm2, ne, ap, ZnF, Zqy, ix0, iy0, mt, mp, shk, shT, shF, Zl]) <;> exact ⟨_, rfl⟩
end My
open PySem PySem.W PyProof.Rows
set_option maxRecDepth 100000 in
set_option maxHeartbeats 0 in
theorem PySem.Challenge.cw_barlabel_k51_whole_gathered_holds : PySem.Challenge.rw_barlabel_k51_whole_gathered.Holds := by
 w_on; o_law; k_head; (case hw => w_witness2)
 k_fill
 refine T.Zjx (l := PySem.Challenge.rw_barlabel_k51_whole_gathered) (k := 9) (x := "_law_script") (R := fun K => (My.Zfi (My.Zek K)).run) rfl rfl ⟨rfl, by decide, by decide⟩ (fun w h Y => PySem.W.kIn_of Y) ?F (fun K ns hl => My.ZjT (My.Zek K) ns hl)
 case F =>
  intro w mg fa h KX G hmg
  refine' My.Zn9 KX G hmg ?_ ?_ ?_ ?_ ?_ ?_ ?_ ?_ ?_ ?_ ?_ ?_ ?_ ?_ ?_ ?_ ?_ ?_ ?_ ?_ ?_ ?_ ?_ ?_ ?_ ?_ ?_ ?_ ?_ ?_ ?_ ?_ ?_ ?_ ?_ ?_ ?_ ?_ ?_ ?_ ?_ ?_ ?_ ?_ ?_ ?_ ?_ ?_ ?_ ?_ ?_
  any_goals first | (refine' T.Zqk ?a ?b ?c ?d; (case a => k_is); (case b => k_is); (case c => k_is); (case d => k_is)) | (refine' T.Zql ?a ?b ?c ?d ?e; (case a => k_is); (case b => k_is); (case c => k_is); (case d => k_is); (case e => k_is)) | (refine' T.CI.mk ?a ?b ?c ?d ?e ?f ?g; (case a => k_is); (case b => k_is); (case c => k_is); (case d => k_is); (case e => k_is); (case f => k_is); (case g => k_is)) | (unfold T.NI; k_is) | k_is | rfl | exact Nat.le_of_ble_eq_true rfl
