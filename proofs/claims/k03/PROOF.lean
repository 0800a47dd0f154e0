import PyProof.Rows.All
import Wide.All
import OpenK.AllK
import Wide.FinOn
import Lean
import PyProof.EqAt
import PyProof.EqKinds
import PyProof.TupleCall
import PySem.Challenge.RW_barlabel_k03_rows_read
set_option Elab.async false
set_option compiler.extract_closed false
set_option linter.all false
set_option maxRecDepth 100000
set_option maxHeartbeats 4100000
abbrev Pn := List (PySem.Addr × PySem.Obj)
abbrev VS := PySem.Value -> PySem.Shared -> Prop
abbrev SO := PySem.Str -> Option PySem.Value
abbrev Fg := PySem.W.Frag
namespace PySem.W.Fast
def tw7268655492481183016 := ()
def tw14135542756880120842 := ()
def tw224715260075278346 := ()
def tw8601218406108905048 := ()
def tw8103156184008371535 := ()
def tw9951264818243983532 := ()
def tw13160304513688578478 := ()
def tw14717777493426549280 := ()
def tw10960368866675619368 := ()
def tw16248369613100029968 := ()
def tw11192505930376722721 := ()
def tw10939562424640904419 := ()
def tw11107527391407024251 := ()
def tw17937890241891418203 := ()
def tw8248723965027905646 := ()
def tw12414549229444770189 := ()
def tw18129025576770085788 := ()
def tw8158843108490841382 := ()
def tw12666588936584063292 := ()
def tw17438079666068706519 := ()
def tw6245308078099085390 := ()
def tw968133723681876942 := ()
def tw10261180981688937152 := ()
def tw17697042288458921403 := ()
def tw5886280735687269898 := ()
def tw973024235288815906 := ()
def tw15803733779424179847 := ()
def tw774297248233558074 := ()
def tw980491802385674549 := ()
def tw9293798885462456942 := ()
def tw1583567571934013959 := ()
def tw5303682011491139908 := ()
def tw17833094796812703539 := ()
def tw3800537832202074111 := ()
def tw3437225814233050221 := ()
def tw8934187208779510987 := ()
def tw14527453306124946192 := ()
def tw11723877912809834587 := ()
def tw433329631268633503 := ()
def tw14846401392423790298 := ()
def tw13159752426211682865 := ()
def tw13524004102958986050 := ()
def tw16232840278297787654 := ()
def tw3622002758913930830 := ()
def tw14671844909740395498 := ()
def tw13152124073480449674 := ()
def tw1872671199134292957 := ()
def tw16745152152971379920 := ()
def tw22883500635514108 := ()
def tw7001678515603319464 := ()
def tw11701516606049846634 := ()
def tw14254573123833865155 := ()
def tw8576843050473120809 := ()
def tw15874599376107940277 := ()
def tw116948569803573660 := ()
def tw16040046673291932908 := ()
def tw8319016936854208769 := ()
def tw4085234597242147388 := ()
def tw15847099938057779259 := ()
def tw5072070949031256657 := ()
def tw5679300583236214071 := ()
def tw15881511501997907444 := ()
def tw11653078181998728446 := ()
def tw12376533476756895078 := ()
def tw15955674125961489191 := ()
def tw9231727910421510458 := ()
def tw15208924814989970558 := ()
def tw3080964726832780569 := ()
def tw5688055123106859562 := ()
def tw17830925681618304159 := ()
def tw3213312265322951099 := ()
def tw3401006175811568141 := ()
def tw5347315420058397998 := ()
def tw11314303650448622106 := ()
def tw785563216999744243 := ()
def tw12630376643229101597 := ()
def tw16361658228405680159 := ()
def tw10151340824523008591 := ()
def tw2975460259689873543 := ()
def tw10763036980002494000 := ()
def tw17423574705565211181 := ()
def tw8518735684214182329 := ()
def tw17804319307354746999 := ()
def tw8064582649897231421 := ()
def tw17428999179754281325 := ()
def tw16245995260448007380 := ()
def tw18191433178125785950 := ()
def tw15114251633944324457 := ()
def tw12604085562835038201 := ()
def tw4690171811351540203 := ()
def tw13517032510078972319 := ()
def tw10366593350257423417 := ()
def tw2025860988428708104 := ()
def tw12309392415059979507 := ()
def tw1640550025513795896 := ()
def tw16549945875811795904 := ()
def tw11543906621654205372 := ()
def tw8814140411670679887 := ()
def tw12255428521398120126 := ()
def tw9841661433438479041 := ()
def tw15618622424575431491 := ()
def tw16292091402318307251 := ()
def tw1448036982624853108 := ()
def tw4314610430424177206 := ()
def tw9925149777538921673 := ()
def tw9207908196455582055 := ()
def tw3183931713587673882 := ()
def tw6240929732732054996 := ()
def tw7214712226301803083 := ()
def tw9917756196602204951 := ()
def tw17528421238453894903 := ()
def tw9378328058536998231 := ()
def tw3300726202030634020 := ()
def tw2746967362439916464 := ()
def tw1854276816836084147 := ()
def tw2411020070185174241 := ()
def tw4120902766450286662 := ()
def tw3576520600844787122 := ()
def tw236336222246525822 := ()
def tw17299912444920761307 := ()
def tw545275003675966496 := ()
def tw15972229616058717763 := ()
def tw7773685329597296658 := ()
def tw12447292879165700851 := ()
def tw14196051127065157181 := ()
def tw16872320167933116463 := ()
def tw8808956642017005295 := ()
def tw11463565553361130633 := ()
def tw1303685574503217613 := ()
def tw8284125170559467661 := ()
def tw5703777074182800604 := ()
def tw5567324648411584788 := ()
def tw4454563408372859562 := ()
def tw265667141633579161 := ()
def tw14772082086326711610 := ()
def tw12640890359767215930 := ()
def tw4479296626205204375 := ()
def tw1405079133377973428 := ()
def tw14458129406093514175 := ()
def tw12454699166492596512 := ()
end PySem.W.Fast
namespace L2
open PySem PySem.Spec PyProof.Rows
variable {H H' : Hp} {X : Cx} {s : Shared} {pins : Pn} {pos : Pos} {t' : Nat} {tg : Expr} {kindOf : Str -> Option NameKind} {h h' base : Heap} {us : List Value} {mg mA : SO} {g' : Array GenState} {ch : List Addr} {N ps : List Str} {name qual : Str} {kw : List (Str × Value)} {outer : List Env} {scope : Scope}
abbrev Key := Sum Int Str
noncomputable def Zd5 : Key -> Value -> Bool
 | .inl k, v => Value.isInt k v
 | .inr x, v => Value.isStrOf x v
noncomputable def keyH (w : World) : Key -> Int
 | .inl k => hashInt k
 | .inr x => hashStr w x
theorem ZW : ∀ {k : Key} {v : Value}, Zd5 k v = true -> (∃ i t, k = Sum.inl i /\ v = Value.int i t) \/ (∃ x t, k = Sum.inr x /\ v = Value.str x t)
 | .inl i, v, h => by
  obtain ⟨t, e⟩ := Value.isInt_shape (k := i) (v := v) h
  exact .inl ⟨i, t, rfl, e⟩
 | .inr x, v, h => by
  obtain ⟨t, e⟩ := Value.isStrOf_shape (x := x) (v := v) h
  exact .inr ⟨x, t, rfl, e⟩
def Zim (i : Int) (t : Tok) : Zd5 (.inl i) (.int i t) = true := by simp [Zd5, Value.isInt]
def Zin (x : Str) (t : Tok) : Zd5 (.inr x) (.str x t) = true := by simp [Zd5, Value.isStrOf]
def ZmF (a b : Int) : decide ((Sum.inl a : Key) = Sum.inl b) = (a == b) := by
 by_cases e : a = b
 . subst e; simp
 . have h : ¬ (Sum.inl a : Key) = Sum.inl b := fun q => e (Sum.inl.inj q)
   rw [decide_eq_false h]
   exact (beq_eq_false_iff_ne.mpr e).symm
def ZmG (a b : Str) : decide ((Sum.inr a : Key) = Sum.inr b) = decide (a = b) := by
 by_cases e : a = b
 . subst e; simp
 . have h : ¬ (Sum.inr a : Key) = Sum.inr b := fun q => e (Sum.inr.inj q)
   rw [decide_eq_false h, decide_eq_false e]
def ZmH (a : Int) (b : Str) : decide ((Sum.inl a : Key) = Sum.inr b) = false := decide_eq_false (fun q => nomatch q)
def ZmI (a : Str) (b : Int) : decide ((Sum.inr a : Key) = Sum.inl b) = false := decide_eq_false (fun q => nomatch q)
noncomputable def ZQ (prog : Program) (w : World) : PySem.KeyKind prog w Key where
 is := Zd5
 hash := keyH w
 inj := fun v a b ha hb => by
  rcases ZW ha with ⟨i, t, rfl, rfl⟩ | ⟨x, t, rfl, rfl⟩
  . rcases ZW hb with ⟨j, u, rfl, e⟩ | ⟨y, u, rfl, e⟩
    . injection e with e1 _; rw [e1]
    . exact nomatch e
  . rcases ZW hb with ⟨j, u, rfl, e⟩ | ⟨y, u, rfl, e⟩
    . exact nomatch e
    . injection e with e1 _; rw [e1]
 byValue := fun k v h => by
  rcases ZW h with ⟨i, t, rfl, rfl⟩ | ⟨x, t, rfl, rfl⟩ <;> rfl
 pyHash := fun hv h => by
  rcases ZW hv with ⟨i, t, rfl, rfl⟩ | ⟨x, t, rfl, rfl⟩
  . exact wpAny_pyHash_int h
  . exact wpAny_pyHash_str h
 eqBool := fun hu hv h => by
  rcases ZW hu with ⟨i, t, rfl, rfl⟩ | ⟨x, t, rfl, rfl⟩
  . rcases ZW hv with ⟨j, u, rfl, rfl⟩ | ⟨y, u, rfl, rfl⟩
    . rw [ZmF] at h; exact wpAny_eqBool_int h
    . rw [ZmH] at h; exact SeqAt.EqAt.int_str i t y u _ _ _ _ h
  . rcases ZW hv with ⟨j, u, rfl, rfl⟩ | ⟨y, u, rfl, rfl⟩
    . rw [ZmI] at h; exact SeqAt.EqAt.str_int x t j u _ _ _ _ h
    . rw [ZmG] at h; exact wpAny_eqBool_str h
 «strs» := fun k x t v h => by
  rcases ZW h with ⟨i, u, rfl, e⟩ | ⟨y, u, rfl, e⟩
  . exact nomatch e
  . injection e with e1 _
    subst e1
    cases v <;> rfl
def ZgE (prog : Program) (w : World) (i : Int) (t : Tok) : (ZQ prog w).is (.inl i) (.int i t) = true := Zim i t
def ZgF (prog : Program) (w : World) (x : Str) (t : Tok) : (ZQ prog w).is (.inr x) (.str x t) = true := Zin x t
inductive V where
 | non | bl (b : Bool) | int (i : Int) | str (x : Str) | byt (b : Array UInt8) | flt (b : UInt64) | ref (a : Addr) | ty (n : String)
 deriving DecidableEq
def RelV : V -> Value -> Prop
 | .non, u => u = Value.none
 | .bl b, u => u = Value.bool b
 | .int i, u => ∃ t, u = Value.int i t
 | .str x, u => ∃ t, u = Value.str x t
 | .byt b, u => ∃ t, u = Value.bytes b t
 | .flt b, u => ∃ t, u = Value.float b t
 | .ref a, u => u = Value.ref a
 | .ty n, u => u = Value.type n
abbrev Vals : List V -> List Value -> Prop := Paired RelV
def Vals.length (r : Vals xs us) : xs.length = us.length := Paired.length r
theorem Vals.get : ∀ {xs : List V} {us : List Value} {i : Nat} {x : V}, Vals xs us -> xs[i]? = some x -> ∃ u, us[i]? = some u /\ RelV x u
 | _, _, _, _, .nil, e => by simp at e
 | _, _, 0, _, .cons r _, e => by simp at e; subst e; exact ⟨_, rfl, r⟩
 | _, _, i + 1, x, .cons _ t, e => by
  obtain ⟨u, h1, h2⟩ := Vals.get (i := i) (x := x) t (by simpa using e)
  exact ⟨u, by simpa using h1, h2⟩
theorem Vals.set (r : RelV x u) : ∀ {xs : List V} {us : List Value} (i : Nat), Vals xs us -> Vals (xs.set i x) (us.set i u)
 | _, _, _, .nil => .nil
 | _, _, 0, .cons _ t => .cons r t
 | _, _, i + 1, .cons q t => .cons q (Vals.set r i t)
theorem Vals.append : ∀ {xs ys : List V} {us ws : List Value}, Vals xs us -> Vals ys ws -> Vals (xs ++ ys) (us ++ ws)
 | _, _, _, _, .nil, s => s
 | _, _, _, _, .cons r t, s => .cons r (Vals.append t s)
theorem Vals.take : ∀ {xs : List V} {us : List Value} (n : Nat), Vals xs us -> Vals (xs.take n) (us.take n)
 | _, _, 0, _ => .nil
 | _, _, _ + 1, .nil => .nil
 | _, _, n + 1, .cons r t => .cons r (Vals.take n t)
theorem Vals.drop : ∀ {xs : List V} {us : List Value} (n : Nat), Vals xs us -> Vals (xs.drop n) (us.drop n)
 | _, _, 0, r => r
 | _, _, _ + 1, .nil => .nil
 | _, _, n + 1, .cons _ t => Vals.drop n t
def RelO : Option V -> Option Value -> Prop
 | some v, some u => RelV v u
 | none, none => True
 | _, _ => False
def KV {κ : Type} : List (κ × V) -> List (κ × Value) -> Prop := Paired fun (p : κ × V) (q : κ × Value) => p.1 = q.1 /\ RelV p.2 q.2
noncomputable def kV : Key -> V
 | .inl i => .int i
 | .inr x => .str x
inductive HO where
 | lst (xs : List V)
 | tup (xs : List V)
 | dK (kvs : List (Key × V)) | dT (kvs : List (List Key × V))
 | set (S : Int -> Bool) (n : Nat)
 | ins (C dx : Addr) (fs : List (Str × V))
 | own (x : Addr)
 | xd (fs : List (Str × V))
 | met (f x : Addr)
 | rng (lo hi : Int)
 | frz (o : Obj) (u : HO)
 | tbl (ps : Array Value)
 | ext (φ : Heap -> Prop)
 | exc (C : Addr) (dx : Option Addr) (fr : Bool) (fs : List (Str × V))
noncomputable abbrev Hp := Addr -> Option HO
noncomputable def upd (H : Hp) (a : Addr) (o : HO) : Hp := fun b => if b = a then some o else H b
def Zl : upd H a o a = some o := by unfold upd; rw [if_pos rfl]
def Zk (h : b ≠ a) : upd H a o b = H b := by unfold upd; rw [if_neg h]
def ZoT {a b : Addr} {o u : HO} (h : H a = some o) (h' : H b = some u) (d : o ≠ u) : a ≠ b := by
 intro e; subst e; rw [h] at h'; exact d (Option.some.inj h')
def ZX {a b : Addr} {o : HO} (h : H a = some o) (h' : H b = none) : a ≠ b := by
 intro e; subst e; rw [h] at h'; cases h'
section
variable (P : Program) (w : World)
def Z7 (H : Hp) (h : Heap) (a : Addr) : HO -> Prop
 | .lst xs => xs.length <= sizeLine /\ ∃ (its : List Value) (n : Nat), Vals xs its /\ h.get? a = some { cls := .type "list", data := .seq its.toArray n }
 | .tup xs => xs.length <= sizeLine /\ ∃ its : List Value, Vals xs its /\ IsTup h a its.toArray
 | .dK kvs => kvs.length <= sizeLine /\ (a == sysModules) = false /\ ∃ vs, KV kvs vs /\ h.DictOf (ZQ P w) a vs
 | .dT kvs => kvs.length <= sizeLine /\ (a == sysModules) = false /\ ∃ xs : List (List Key × Addr × Value),
  Paired (fun (p : List Key × V) (q : List Key × Addr × Value) => p.1 = q.1 /\ H q.2.1 = some (.tup (p.1.map kV)) /\ RelV p.2 q.2.2) kvs xs /\
  ∃ o es ep, h.get? a = some o /\ o.ExactDict /\ o.data = .dict es ep /\ es.toList = xs.map (entryOfKey (tupleKind (ZQ P w))) /\ (xs.map (·.1)).Nodup
 | .set S n => h.SetOf (intKind P w) a S n
 | .ins C dx fs => H dx = some (.own a) /\ fs.length <= 1000 /\ dx ≠ a /\ h.get? a = some (PySem.W.instObj C dx) /\
  ∃ mA, h.Ns1 dx mA /\ (∀ f, RelO (fs.lookup f) (mA f)) /\ PySem.Within mA (fs.map (·.1))
 | .own _ => ∃ o, h.get? a = some o
 | .xd fs => ∃ mA, h.Ns1 a mA /\ ∀ f, RelO (fs.lookup f) (mA f)
 | .rng lo hi => ∃ t u v, h.get? a = some { cls := .type "range", data := .fields #[.int lo t, .int hi u, .int 1 v] }
 | .frz o u => h.get? a = some o /\ Z7 H h a u
 | .tbl ps => h.get? a = some { cls := .none, data := .fields ps }
 | .met f x => h.get? a = some (PySem.W.methodObj (.ref f) (.ref x))
 | .exc C dx fr fs => fs.length <= 1000 /\ (∃ o vs, h.get? a = some o /\ o.cls = .ref C /\ o.dict = dx /\ o.data = .fields vs /\ vs.size = 6 /\ (fr = true -> vs[1]? = some .none)) /\
  match dx with
  | none => fs = []
  | some d => H d = some (.own a) /\ d ≠ a /\ ∃ mA, h.Ns1 d mA /\ (∀ f, RelO (fs.lookup f) (mA f)) /\ PySem.Within mA (fs.map (·.1))
 | .ext φ => φ h /\ (∃ o, h.get? a = some o) /\ ∀ h1 h2 : Heap, φ h1 -> (∀ o, h1.get? a = some o -> h2.get? a = some o) -> φ h2
def HOk (H : Hp) (h : Heap) : Prop := ∀ a o, H a = some o -> Z7 P w H h a o
end
section
variable {P : Program} {w : World} {a : Addr} {o : HO}
theorem Z7.lt (x : Z7 P w H h a o) : a < h.objs.size := by
 cases o with
 | lst xs => obtain ⟨_, _, _, _, e⟩ := x; exact Heap.lt_size e
 | tup xs => obtain ⟨_, _, _, p⟩ := x; exact p.lt
 | dK kvs => obtain ⟨_, _, _, _, o, _, _, e, _⟩ := x; exact Heap.lt_size e
 | dT kvs => obtain ⟨_, _, _, _, o, _, _, e, _⟩ := x; exact Heap.lt_size e
 | set S n => obtain ⟨o, _, _, _, e, _⟩ := x; exact Heap.lt_size e
 | ins C dx fs => obtain ⟨_, _, _, e, _⟩ := x; exact Heap.lt_size e
 | own y => obtain ⟨_, e⟩ := x; exact Heap.lt_size e
 | xd fs => obtain ⟨_, ⟨_, _, _, e, _⟩, _⟩ := x; exact Heap.lt_size e
 | rng lo hi => obtain ⟨_, _, _, e⟩ := x; exact Heap.lt_size e
 | frz ob u => obtain ⟨e, _⟩ := x; exact Heap.lt_size e
 | tbl ps => exact Heap.lt_size (show h.get? a = some _ from x)
 | met f y => exact Heap.lt_size (show h.get? a = some _ from x)
 | ext φ => obtain ⟨_, ⟨_, e⟩, _⟩ := x; exact Heap.lt_size e
 | exc C dx fr fs => obtain ⟨_, ⟨_, _, e, _⟩, _⟩ := x; exact Heap.lt_size e
theorem Paired.mapP : ∀ {l₁ : List α} {l₂ : List β}, Paired F l₁ l₂ -> (∀ a b, F a b -> G a b) -> Paired G l₁ l₂
 | _, _, .nil, _ => .nil
 | _, _, .cons r t, f => .cons (f _ _ r) (Paired.mapP t f)
theorem Z7.stay (x : Z7 P w H h a o) (k : ∀ b u, (b = a \/ H b = some (.own a)) -> h.get? b = some u -> h'.get? b = some u)
 (ho : ∀ b, H b = some (.own a) -> H' b = some (.own a)) (ht : ∀ b xs, H b = some (.tup xs) -> H' b = some (.tup xs)) : Z7 P w H' h' a o := by
 induction o with
 | lst xs => obtain ⟨z, its, n, r, e⟩ := x; exact ⟨z, its, n, r, k _ _ (.inl rfl) e⟩
 | tup xs => obtain ⟨z, its, r, ob, e, c⟩ := x; exact ⟨z, its, r, ob, k _ _ (.inl rfl) e, c⟩
 | dK kvs => obtain ⟨z, y, vs, r, ob, es, ep, e, c⟩ := x; exact ⟨z, y, vs, r, ob, es, ep, k _ _ (.inl rfl) e, c⟩
 | dT kvs =>
  obtain ⟨z, y, xs, r, ob, es, ep, e, c⟩ := x
  exact ⟨z, y, xs, Paired.mapP r fun p q z => ⟨z.1, ht _ _ z.2.1, z.2.2⟩, ob, es, ep, k _ _ (.inl rfl) e, c⟩
 | set S n => obtain ⟨ob, es, ep, t, e, c⟩ := x; exact ⟨ob, es, ep, t, k _ _ (.inl rfl) e, c⟩
 | ins C dx fs =>
  obtain ⟨d, z, ne, e, mA, ⟨od, es, ep, e2, c⟩, r⟩ := x
  exact ⟨ho _ d, z, ne, k _ _ (.inl rfl) e, mA, ⟨od, es, ep, k _ _ (.inr d) e2, c⟩, r⟩
 | own y => obtain ⟨ob, e⟩ := x; exact ⟨ob, k _ _ (.inl rfl) e⟩
 | xd fs => obtain ⟨mA, ⟨od, es, ep, e, c⟩, r⟩ := x; exact ⟨mA, ⟨od, es, ep, k _ _ (.inl rfl) e, c⟩, r⟩
 | rng lo hi => obtain ⟨t, u, v, e⟩ := x; exact ⟨t, u, v, k _ _ (.inl rfl) e⟩
 | frz ob u ih => obtain ⟨e, q⟩ := x; exact ⟨k _ _ (.inl rfl) e, ih q⟩
 | tbl ps =>
  have e : h.get? a = some { cls := .none, data := .fields ps } := x
  show h'.get? a = some { cls := .none, data := .fields ps }
  exact k a _ (.inl rfl) e
 | met f y =>
  have e : h.get? a = some (PySem.W.methodObj (.ref f) (.ref y)) := x
  show h'.get? a = some (PySem.W.methodObj (.ref f) (.ref y))
  exact k a _ (.inl rfl) e
 | ext φ => obtain ⟨p, ⟨o, e⟩, st⟩ := x; exact ⟨st _ _ p fun o q => k _ _ (.inl rfl) q, ⟨o, k _ _ (.inl rfl) e⟩, st⟩
 | exc C dx fr fs =>
  obtain ⟨z, ⟨o, vs, e, q⟩, r⟩ := x
  refine ⟨z, ⟨o, vs, k _ _ (.inl rfl) e, q⟩, ?_⟩
  cases dx with
  | none => exact r
  | some d =>
   obtain ⟨r1, r2, mA, ⟨od, es, ep, e2, c⟩, r3⟩ := r
   exact ⟨ho _ r1, r2, mA, ⟨od, es, ep, k _ _ (.inr r1) e2, c⟩, r3⟩
def HOk.lt (x : HOk P w H h) (e : H a = some o) : a < h.objs.size := (x a o e).lt
theorem HOk.fresh (x : HOk P w H h) (e : h.objs.size <= a) : H a = none := by
 cases q : H a with
 | none => rfl
 | some u => exact absurd (Nat.lt_of_lt_of_le (x.lt q) e) (Nat.lt_irrefl _)
def HOk.kept (x : HOk P w H h) (k : ∀ b u, h.get? b = some u -> h'.get? b = some u) : HOk P w H h' := fun a o e =>
 (x a o e).stay (fun b u _ q => k b u q) (fun _ q => q) fun _ _ q => q
def HOk.laid (x : HOk P w H h) (k : ∀ b u, h.get? b = some u -> h'.get? b = some u) (hp : h.objs.size <= a) (new : Z7 P w (upd H a o) h' a o) : HOk P w (upd H a o) h' := fun b u e => by
 have hn := x.fresh hp
 by_cases hb : b = a
 . subst hb; rw [Zl] at e; cases e; exact new
 . rw [Zk hb] at e
   exact (x b u e).stay (fun c v _ q => k c v q) (fun c q => by rw [Zk (ZX q hn)]; exact q) fun c xs q => by rw [Zk (ZX q hn)]; exact q
end
def Rd (H : Hp) (a : Addr) (u : HO) : Prop := H a = some u \/ ∃ o, H a = some (.frz o u)
def Rd.ok (r : Rd H a u) (x : HOk P w H h) : Z7 P w H h a u := by
 rcases r with r | ⟨o, r⟩
 . exact x a u r
 . obtain ⟨_, q⟩ := x a _ r
   exact q
def Mut : Option HO -> Prop
 | some (.lst _) => True
 | some (.dK _) => True
 | some (.dT _) => True
 | some (.set _ _) => True
 | some (.ins _ _ _) => True
 | some (.ext _) => True
 | some (.exc _ _ _ _) => True
 | _ => False
section
def HOk.write (ok : HOk P w H h) (mu : Mut (H x)) (he : e = x \/ H e = some (.own x)) (k : ∀ b u, b ≠ e -> h.get? b = some u -> h'.get? b = some u) (heo : ∃ u, h'.get? e = some u)
 (new : Z7 P w (upd H x o') h' x o') : HOk P w (upd H x o') h' := fun b u q => by
 have nown : ∀ c y, H c = some (.own y) -> c ≠ x := fun c y r z => by subst z; rw [r] at mu; exact mu
 have ntup : ∀ c xs, H c = some (.tup xs) -> c ≠ x := fun c xs r z => by subst z; rw [r] at mu; exact mu
 by_cases hb : b = x
 . subst hb; rw [Zl] at q; cases q; exact new
 . rw [Zk hb] at q
   by_cases hbe : b = e
   . have q' : H b = some (.own x) := by
      rcases he with z | z
      . exact absurd (hbe.trans z) hb
      . rw [hbe]; exact z
     rw [q] at q'; cases q'
     obtain ⟨v, hv⟩ := heo
     exact ⟨v, by rw [hbe]; exact hv⟩
   . refine (ok b u q).stay (fun c v hc r => k c v ?_ r) (fun c r => by rw [Zk (nown c b r)]; exact r) fun c xs r => by rw [Zk (ntup c xs r)]; exact r
     rcases hc with rfl | hc
     . exact hbe
     . rintro rfl
       rcases he with z | z
       . exact nown c b hc z
       . rw [hc] at z; cases z; exact hb rfl
end
structure Un (fs ex : List Addr) (H H' : Hp) (h h' : Heap) : Prop where
 keep : ∀ b o, h.get? b = some o -> H b = none -> b ∉ fs -> b ∉ ex -> h'.get? b = some o
 slot : ∀ b o, h.get? b = some o -> H b = none -> b ∈ fs -> b ∉ ex -> ∃ sl, h'.get? b = some { o with slots := sl }
 free : ∀ b o, h.get? b = some o -> H b = none -> b ∉ ex -> H' b = none
 there : ∀ b o, h.get? b = some o -> b ∉ ex -> ∃ o', h'.get? b = some o'
 tups : ∀ b xs, H b = some (.tup xs) -> H' b = some (.tup xs)
 frzs : ∀ b o u, H b = some (.frz o u) -> H' b = some (.frz o u)
 tbls : ∀ b ps, H b = some (.tbl ps) -> ∃ more, H' b = some (.tbl (ps ++ more))
section
variable {fs fs' ex ex' : List Addr} {H1 H2 : Hp} {h1 h2 : Heap} {a x e : Addr} {o : HO}
def Un.any (u : Un fs ex H H1 h h1) (q : h.get? b = some ob) (n : H b = none) (hx : b ∉ ex) : ∃ sl, h1.get? b = some { ob with slots := sl } := by
 by_cases hb : b ∈ fs
 . exact u.slot b ob q n hb hx
 . exact ⟨ob.slots, u.keep b ob q n hb hx⟩
def Un.kept (k : ∀ b u, h.get? b = some u -> h'.get? b = some u) : Un fs ex H H h h' :=
 ⟨fun b ob q _ _ _ => k b ob q, fun b ob q _ _ _ => ⟨ob.slots, k b ob q⟩, fun _ _ _ n _ => n, fun b ob q _ => ⟨ob, k b ob q⟩, fun _ _ q => q, fun _ _ _ q => q, fun _ ps q => ⟨#[], by rw [q]; simp⟩⟩
def Un.refl : Un fs ex H H h h := Un.kept fun _ _ q => q
def Un.laid (k : ∀ b u, h.get? b = some u -> h'.get? b = some u) (hp : h.objs.size <= a) (hn : H a = none) : Un fs ex H (upd H a o) h h' where
 keep := fun b u q _ _ _ => k b u q
 slot := fun b u q _ _ _ => ⟨u.slots, k b u q⟩
 free := fun b u q n _ => by rw [Zk (Nat.ne_of_lt (Nat.lt_of_lt_of_le (Heap.lt_size q) hp))]; exact n
 there := fun b u q _ => ⟨u, k b u q⟩
 tups := fun b xs q => by rw [Zk (ZX q hn)]; exact q
 frzs := fun b u xs q => by rw [Zk (ZX q hn)]; exact q
 tbls := fun b ps q => ⟨#[], by rw [Zk (ZX q hn), q]; simp⟩
def Un.write (mu : Mut (H x)) (he : e = x \/ H e = some (.own x)) (k : ∀ b u, b ≠ e -> h.get? b = some u -> h'.get? b = some u) (heo : ∃ u, h'.get? e = some u) : Un fs ex H (upd H x o) h h' := by
 have hx : ∀ b, H b = none -> b ≠ x := fun b n z => by subst z; rw [n] at mu; exact mu
 have hb : ∀ b, H b = none -> b ≠ e := fun b n z => by
  subst z
  rcases he with r | r
  . exact hx b n r
  . rw [n] at r; cases r
 have hm : ∀ b u, H b = some u -> ¬ Mut (some u) -> b ≠ x := fun b u q nm z => by subst z; rw [q] at mu; exact nm mu
 refine ⟨fun b u q n _ _ => k b u (hb b n) q, fun b u q n _ _ => ⟨u.slots, k b u (hb b n) q⟩, fun b u q n _ => by rw [Zk (hx b n)]; exact n, fun b u q _ => ?_,
  fun b xs q => by rw [Zk (hm b _ q fun z => z)]; exact q, fun b u xs q => by rw [Zk (hm b _ q fun z => z)]; exact q, fun b ps q => ⟨#[], by rw [Zk (hm b _ q fun z => z), q]; simp⟩⟩
 by_cases hbe : b = e
 . subst hbe; exact heo
 . exact ⟨u, k b u hbe q⟩
end
noncomputable def trk (h : Heap) (H : Hp) : List Addr := (List.range h.objs.size).filter fun a => (H a).isSome
noncomputable def hidT (h : Heap) (H : Hp) : Heap := PySem.W.hideAll h (trk h H)
def Zio (h : Heap) (H : Hp) : (hidT h H).objs.size = h.objs.size := PySem.W.hideAll_size _ _
def Zjg (e : h.get? b = some o) (n : H b = none) : (hidT h H).get? b = some o :=
 PySem.W.hideAll_get _ e fun hm => by
  have q : (H b).isSome = true := (List.mem_filter.mp hm).2
  rw [n] at q; simp at q
theorem ZkW (e : (hidT h H).get? b = some o) : h.get? b = some o /\ H b = none := by
 have e' : h.get? b = some o := PySem.W.of_hideAll (trk h H) e
 refine ⟨e', ?_⟩
 cases q : H b with
 | none => rfl
 | some x =>
  have hm : b ∈ trk h H := List.mem_filter.mpr ⟨List.mem_range.mpr (Heap.lt_size e'), by simp [q]⟩
  have z : (hidT h H).get? b = none := PySem.W.hideAll_none (trk h H) hm
  rw [z] at e; cases e
noncomputable def ZkX (g h : Heap) (L : Addr) : List (Addr × Obj) := (List.range h.objs.size).filterMap fun a => if a = L \/ (g.get? a).isSome = true then none else (h.get? a).map fun o => (a, o)
noncomputable def rest (g h : Heap) (L d : Addr) : List (Addr × Obj) := (ZkX g h L).filter fun p => decide (p.1 ≠ d)
structure Mod (K : Fg) (mg : SO) (base : Heap) : Prop where
 kin : K.In base
 glob : base.Ns mainGlobals mg
 blt : ∃ mb, base.Ns builtinsNs mb /\ ∀ x : Str, x ≠ "__name__" -> mb x = bootBuiltins x
 nolimit : base.NoLimit
structure Cx where
 prog : Program
 w : World
 K : Fg
 mg : Str -> Option Value
 base : Heap
 A : Around
 N : List Str
 s₀ : Shared
 H₀ : Hp
 env : Env
 outer : List Env
 stack : List Env
 ex : List Addr
 fn : Str -> Bool
 calm : Bool
 pn : List (Addr × Obj)
 xe : Value -> Shared -> Prop
noncomputable def frs (l : List Env) : List Addr := l.filterMap (·.frame)
noncomputable abbrev Cx.fs (X : Cx) : List Addr := frs X.outer
def Vis (sc : Scope) (x : Str) : Prop := sc.names.lookup x = some .local \/ sc.names.lookup x = some .cell \/ sc.names.lookup x = some .free
def Loc (sc : Scope) (x : Str) : Prop := sc.names.lookup x = some .local \/ sc.names.lookup x = some .cell
def Look (env : Env) (h : Heap) (m : SO) (x : Str) (u : Value) : Prop :=
 (env.kindOf x = some .local /\ m x = some u) \/ ((env.kindOf x = some .cell \/ env.kindOf x = some .free) /\ ∃ c, env.cells.lookup x = some c /\ h.IsCell c (some u))
structure Cx.Ok (X : Cx) : Prop where
 mod : Mod X.K X.mg X.base
 kind : X.env.scope.kind = .function
 glob : X.env.globals = mainGlobals
 blt : X.env.builtins = builtinsNs
 above : X.s₀.heap.objs.size <= X.env.locals
 inj : ∀ x y c, X.env.cells.lookup x = some c -> X.env.cells.lookup y = some c -> x = y
 has : ∀ x, (X.env.kindOf x = some .cell \/ X.env.kindOf x = some .free) -> ∃ c, X.env.cells.lookup x = some c
 cab : ∀ x c, X.fn x = true -> X.env.cells.lookup x = some c -> X.s₀.heap.objs.size <= c
 hd : X.calm = true -> X.A.handled = none
 frames : X.A.frames = some X.stack
 stk : X.stack = X.outer \/ (X.stack = X.env :: X.outer /\ X.env.frame = some X.env.locals)
 exf : ∀ b ∈ X.ex, b ≠ X.env.locals /\ ∀ x c, X.env.cells.lookup x = some c -> c ≠ b
 bs : ∀ b o, X.base.get? b = some o -> X.s₀.heap.get? b = some o /\ X.H₀ b = none
 bsz : X.base.objs.size <= X.s₀.heap.objs.size
 noex : ∀ b o, X.base.get? b = some o -> b ∉ X.ex
 exfs : ∀ b ∈ X.ex, b ∉ X.fs
 funs : X.s₀.heap.FunFrames X.base X.outer
 frf : ∀ b ∈ X.fs, X.H₀ b = none
structure Inv (X : Cx) (pins : Pn) (σ : List (Option V)) (H : Hp) (s : Shared) : Prop where
 ok : X.Ok
 os : s.os = X.s₀.os
 bare : AllBare s.gens
 base : Un X.fs X.ex X.H₀ H X.s₀.heap s.heap
 loc : ∃ m, s.heap.Ns X.env.locals m /\ ∀ (i : Nat) (x : Str) (v : V), X.N[i]? = some x -> σ[i]? = some (some v) -> Vis X.env.scope x -> ∃ u, RelV v u /\ Look X.env s.heap m x u
 cell : ∀ x c, X.env.cells.lookup x = some c -> ∃ v, s.heap.IsCell c v
 free : H X.env.locals = none
 freeC : ∀ x c, X.env.cells.lookup x = some c -> H c = none
 pin : ∀ p ∈ X.pn ++ pins, s.heap.get? p.1 = some p.2 /\ H p.1 = none /\ p.1 ≠ X.env.locals /\ p.1 ∉ X.fs /\ ∀ v, p.2.data ≠ .cell v
 hok : HOk X.prog X.w H s.heap
 len : σ.length = X.N.length
section
variable {σ : List (Option V)}
def Cx.Ok.nofr (ok : X.Ok) (e : X.base.get? b = some o) : b ∉ X.fs := fun hb => by
 have := (ok.funs.mem hb).1
 rw [e] at this; cases this
def Inv.bs (I : Inv X pins σ H s) : ∀ b o, X.base.get? b = some o -> s.heap.get? b = some o /\ H b = none := fun b o e =>
 ⟨I.base.keep b o (I.ok.bs b o e).1 (I.ok.bs b o e).2 (I.ok.nofr e) (I.ok.noex b o e), I.base.free b o (I.ok.bs b o e).1 (I.ok.bs b o e).2 (I.ok.noex b o e)⟩
def Inv.bk (I : Inv X pins σ H s) : ∀ b o, X.base.get? b = some o -> s.heap.get? b = some o := fun b o e => (I.bs b o e).1
def Inv.mod (I : Inv X pins σ H s) : Mod X.K X.mg X.base := I.ok.mod
def Inv.kIn (I : Inv X pins σ H s) : X.K.In s.heap := I.ok.mod.kin.keeps I.bk
def Inv.lt (I : Inv X pins σ H s) : X.env.locals < s.heap.objs.size := let ⟨_, hn, _⟩ := I.loc; hn.lt
def Inv.sz (I : Inv X pins σ H s) : X.s₀.heap.objs.size <= s.heap.objs.size := Nat.le_trans I.ok.above (Nat.le_of_lt I.lt)
def Inv.nofs (I : Inv X pins σ H s) (h : s.heap.objs.size <= a) : a ∉ X.fs := fun hb => by
 obtain ⟨_, o, ho, _⟩ := I.ok.funs.mem hb
 exact absurd (Nat.lt_of_lt_of_le (Heap.lt_size ho) (Nat.le_trans I.sz h)) (Nat.lt_irrefl _)
def Inv.cne (I : Inv X pins σ H s) : ∀ x c, X.env.cells.lookup x = some c -> c ≠ X.env.locals := fun x c e z => by
 obtain ⟨v, o, ho, hd⟩ := I.cell x c e
 obtain ⟨m, ⟨o', es, ep, ho', hd', _⟩, _⟩ := I.loc
 rw [z, ho'] at ho; cases ho; rw [hd'] at hd; cases hd
def Inv.funs (I : Inv X pins σ H s) : s.heap.FunFrames X.base X.outer := by
 have all : ∀ (l : List Env), (∀ b ∈ frs l, b ∈ X.fs) -> X.s₀.heap.FunFrames X.base l -> s.heap.FunFrames X.base l := by
  intro l
  induction l with
  | nil => intro _ _; trivial
  | cons env r ih =>
   intro hs hl
   obtain ⟨hk, ⟨L, o, hf, hn, ho, hd⟩, hr⟩ := hl
   have hL : L ∈ X.fs := hs L (by unfold frs; rw [List.filterMap_cons, hf]; exact List.mem_cons_self)
   obtain ⟨sl, e⟩ := I.base.slot L o ho (I.ok.frf L hL) hL fun z => I.ok.exfs L z hL
   exact ⟨hk, ⟨L, _, hf, hn, e, hd⟩, ih (fun b hb => hs b (by unfold frs; rw [List.filterMap_cons, hf]; exact List.mem_cons_of_mem _ hb)) hr⟩
 exact all X.outer (fun _ hb => hb) I.ok.funs
def Inv.stack (I : Inv X pins σ H s) : s.heap.FunFrames X.base X.stack := by
 rcases I.ok.stk with e | ⟨e, hf⟩
 . rw [e]; exact I.funs
 . rw [e]
   obtain ⟨m, hn, _⟩ := I.loc
   refine .cons (by rw [I.ok.kind]; decide) hf hn ?_ I.funs
   exact Heap.get?_none_of_le (Nat.le_trans I.ok.bsz I.ok.above)
def Inv.stkSub (I : Inv X pins σ H s) : ∀ b ∈ frs X.stack, b ∈ X.env.locals :: X.fs := fun b hb => by
 rcases I.ok.stk with e | ⟨e, hf⟩
 . rw [e] at hb; exact List.mem_cons_of_mem _ hb
 . rw [e] at hb
   unfold frs at hb
   rw [List.filterMap_cons, hf] at hb
   exact hb
def Inv.stkFree (I : Inv X pins σ H s) : ∀ b ∈ frs X.stack, H b = none := fun b hb => by
 rcases List.mem_cons.mp (I.stkSub b hb) with e | hb
 . rw [e]; exact I.free
 . obtain ⟨_, o, ho, _⟩ := I.ok.funs.mem hb
   exact I.base.free b o ho (I.ok.frf b hb) fun z => I.ok.exfs b z hb
def Inv.step {d' : Drawn} (I : Inv X pins σ H s)
 (hch : ∀ b ∈ ch, (b ∈ X.ex \/ X.s₀.heap.objs.size <= b) /\ b ≠ X.env.locals /\ (∀ x c, X.env.cells.lookup x = some c -> c ≠ b) /\ ∀ p ∈ X.pn ++ pins, p.1 ≠ b)
 (keep : ∀ b o, b ≠ X.env.locals -> b ∉ X.fs -> b ∉ ch -> s.heap.get? b = some o -> H b = none -> h'.get? b = some o)
 (slot : ∀ b o, b ≠ X.env.locals -> b ∈ X.fs -> b ∉ ch -> s.heap.get? b = some o -> H b = none -> ∃ sl, h'.get? b = some { o with slots := sl }) (free : ∀ b o, b ∉ ch -> s.heap.get? b = some o -> H b = none -> H' b = none)
 (there : ∀ b o, b ∉ ch -> s.heap.get? b = some o -> ∃ o', h'.get? b = some o')
 (tups : ∀ b xs, H b = some (.tup xs) -> H' b = some (.tup xs)) (frzs : ∀ b o u, H b = some (.frz o u) -> H' b = some (.frz o u)) (tbls : ∀ b ps, H b = some (.tbl ps) -> ∃ more, H' b = some (.tbl (ps ++ more)))
 (ns : ∀ m, s.heap.Ns X.env.locals m -> h'.Ns X.env.locals m) (hok : HOk X.prog X.w H' h') (hg : AllBare g') :
 Inv X pins σ H' { s with heap := h', gens := g', drawn := d', toks := t' } := by
 have neL : ∀ b o, X.s₀.heap.get? b = some o -> b ≠ X.env.locals := fun b o e => Nat.ne_of_lt (Nat.lt_of_lt_of_le (Heap.lt_size e) I.ok.above)
 have neC : ∀ b o, X.s₀.heap.get? b = some o -> b ∉ X.ex -> b ∉ ch := fun b o e hx hb => by
  rcases (hch b hb).1 with z | z
  . exact hx z
  . exact absurd (Nat.lt_of_lt_of_le (Heap.lt_size e) z) (Nat.lt_irrefl _)
 have cellK : ∀ x c, X.env.cells.lookup x = some c -> ∀ v, s.heap.IsCell c v -> h'.IsCell c v := fun x c e v z0 => by
  obtain ⟨o, ho, hd⟩ := z0
  have nch : c ∉ ch := fun z => (hch c z).2.2.1 x c e rfl
  by_cases hc : c ∈ X.fs
  . obtain ⟨sl, q⟩ := slot c o (I.cne x c e) hc nch ho (I.freeC x c e)
    exact ⟨_, q, hd⟩
  . exact ⟨o, keep c o (I.cne x c e) hc nch ho (I.freeC x c e), hd⟩
 refine ⟨I.ok, I.os, hg, ⟨fun b o e n hb hx => ?_, fun b o e n hb hx => ?_, fun b o e n hx => ?_, fun b o e hx => ?_, fun b xs e => tups b xs (I.base.tups b xs e), fun b o xs e => frzs b o xs (I.base.frzs b o xs e), fun b ps e => ?_⟩, ?_, fun x c e => ?_, ?_, fun x c e => ?_, fun p hp => ?_, hok, I.len⟩
 . exact keep b o (neL b o e) hb (neC b o e hx) (I.base.keep b o e n hb hx) (I.base.free b o e n hx)
 . obtain ⟨sl, e1⟩ := I.base.slot b o e n hb hx
   obtain ⟨sl', e2⟩ := slot b _ (neL b o e) hb (neC b o e hx) e1 (I.base.free b o e n hx)
   exact ⟨sl', e2⟩
 . obtain ⟨o', e1⟩ := I.base.there b o e hx
   exact free b o' (neC b o e hx) e1 (I.base.free b o e n hx)
 . obtain ⟨o', e1⟩ := I.base.there b o e hx
   exact there b o' (neC b o e hx) e1
 . obtain ⟨m1, e1⟩ := I.base.tbls b ps e
   obtain ⟨m2, e2⟩ := tbls b _ e1
   exact ⟨m1 ++ m2, by rw [e2, Array.append_assoc]⟩
 . obtain ⟨m, hn, hl⟩ := I.loc
   refine ⟨m, ns m hn, fun i x v e1 e2 e3 => ?_⟩
   obtain ⟨u, r, l⟩ := hl i x v e1 e2 e3
   refine ⟨u, r, ?_⟩
   rcases l with l | ⟨k, c, e, z⟩
   . exact .inl l
   . exact .inr ⟨k, c, e, cellK x c e _ z⟩
 . obtain ⟨v, z⟩ := I.cell x c e
   exact ⟨v, cellK x c e v z⟩
 . obtain ⟨m, ⟨o, _, _, ho, _⟩, _⟩ := I.loc
   exact free _ o (fun z => (hch _ z).2.1 rfl) ho I.free
 . obtain ⟨v, o, ho, hd⟩ := I.cell x c e
   exact free c o (fun z => (hch c z).2.2.1 x c e rfl) ho (I.freeC x c e)
 . obtain ⟨e, n, ne, nf, d⟩ := I.pin p hp
   have nch : p.1 ∉ ch := fun z => (hch p.1 z).2.2.2 p hp rfl
   exact ⟨keep p.1 p.2 ne nf nch e n, free p.1 p.2 nch e n, ne, nf, d⟩
def Inv.un (I : Inv X pins σ H s) (u : Un X.fs [] H H' s.heap h') (hok : HOk X.prog X.w H' h') : Inv X pins σ H' { s with heap := h', toks := t' } := by
 obtain ⟨m, ⟨o, es, ep, ho, r⟩, _⟩ := id I.loc
 obtain ⟨sl, hL⟩ := u.any ho I.free (by simp)
 exact I.step (g' := s.gens) (d' := s.drawn) (ch := []) (fun _ z => nomatch z) (fun b o _ hb _ e n => u.keep b o e n hb (by simp)) (fun b o _ hb _ e n => u.slot b o e n hb (by simp)) (fun b o _ e n => u.free b o e n (by simp)) (fun b o _ e => u.there b o e (by simp)) u.tups u.frzs u.tbls (fun m' hm => by
  obtain ⟨o', es', ep', ho', r'⟩ := hm
  rw [ho] at ho'; cases ho'
  exact ⟨_, es', ep', hL, r'⟩) hok I.bare
def Inv.call {d' : Drawn} (I : Inv X pins σ H s) (u : Un (frs X.stack) ch H H' s.heap h') (hok : HOk X.prog X.w H' h') (hg : AllBare g')
 (hch : ∀ b ∈ ch, (b ∈ X.ex \/ X.s₀.heap.objs.size <= b) /\ b ≠ X.env.locals /\ (∀ x c, X.env.cells.lookup x = some c -> c ≠ b) /\ ∀ p ∈ X.pn ++ pins, p.1 ≠ b) :
 Inv X pins σ H' { s with heap := h', gens := g', drawn := d', toks := t' } := by
 obtain ⟨m, ⟨o, es, ep, ho, r⟩, _⟩ := id I.loc
 obtain ⟨sl, hL⟩ := u.any ho I.free fun z => (hch _ z).2.1 rfl
 exact I.step (ch := ch) hch (fun b o hL hb hc e n => u.keep b o e n (fun z => (List.mem_cons.mp (I.stkSub b z)).elim hL hb) hc) (fun b o _ _ hc e n => u.any e n hc) (fun b o hc e n => u.free b o e n hc) (fun b o hc e => u.there b o e hc) u.tups u.frzs u.tbls (fun m' hm => by
  obtain ⟨o', es', ep', ho', r'⟩ := hm
  rw [ho] at ho'; cases ho'
  exact ⟨_, es', ep', hL, r'⟩) hok hg
def Inv.turned {it : Addr} (I : Inv X pins σ H s) (k : ∀ b o, b ≠ it -> s.heap.get? b = some o -> h'.get? b = some o) (hn : H it = none) (hL : it ≠ X.env.locals)
 (h1 : it ∈ X.ex \/ X.s₀.heap.objs.size <= it) (h2 : ∀ x c, X.env.cells.lookup x = some c -> c ≠ it) (h3 : ∀ p ∈ X.pn ++ pins, p.1 ≠ it) : Inv X pins σ H { s with heap := h', toks := t' } := by
 have nit : ∀ b u, H b = some u -> b ≠ it := fun b u e z => by rw [z, hn] at e; cases e
 refine I.step (g' := s.gens) (d' := s.drawn) (ch := [it]) (fun b hb => ?_) (fun b o _ _ hc e _ => k b o (fun z => hc (by simp [z])) e) (fun b o _ _ hc e _ => ⟨o.slots, k b o (fun z => hc (by simp [z])) e⟩) (fun _ _ _ _ n => n)
  (fun b o hc e => ⟨o, k b o (fun z => hc (by simp [z])) e⟩) (fun _ _ e => e) (fun _ _ _ e => e) (fun b ps e => ⟨#[], by rw [e]; simp⟩) (fun m hm => ?_) (fun b u e => ?_) I.bare
 . have e : b = it := by simpa using hb
   subst e
   exact ⟨h1, hL, h2, h3⟩
 . obtain ⟨o, es, ep, ho, r⟩ := hm
   exact ⟨o, es, ep, k _ o (Ne.symm hL) ho, r⟩
 . refine (I.hok b u e).stay (fun c v hc q => k c v ?_ q) (fun _ q => q) fun _ _ q => q
   rcases hc with z | z
   . rw [z]; exact nit b u e
   . exact nit c _ z
def Inv.tok (I : Inv X pins σ H s) (t : Nat) : Inv X pins σ H { s with toks := t } := I.un (h' := s.heap) (t' := t) Un.refl I.hok
def Inv.kept (I : Inv X pins σ H s) (k : ∀ b u, s.heap.get? b = some u -> h'.get? b = some u) : Inv X pins σ H { s with heap := h', toks := t' } := I.un (Un.kept k) (I.hok.kept k)
def Inv.laid (I : Inv X pins σ H s) (k : ∀ b u, s.heap.get? b = some u -> h'.get? b = some u) (hp : s.heap.objs.size <= a) (new : Z7 X.prog X.w (upd H a o) h' a o) :
 Inv X pins σ (upd H a o) { s with heap := h', toks := t' } := I.un (Un.laid k hp (I.hok.fresh hp)) (I.hok.laid k hp new)
def Inv.write (I : Inv X pins σ H s) (mu : Mut (H x)) (he : e = x \/ H e = some (.own x)) (k : ∀ b u, b ≠ e -> s.heap.get? b = some u -> h'.get? b = some u) (heo : ∃ u, h'.get? e = some u)
 (new : Z7 X.prog X.w (upd H x o) h' x o) : Inv X pins σ (upd H x o) { s with heap := h', toks := t' } := I.un (Un.write mu he k heo) (I.hok.write mu he k heo new)
def Inv.pins_of (I : Inv X pins σ H s) (h : ∀ p ∈ pins', s.heap.get? p.1 = some p.2 /\ H p.1 = none /\ p.1 ≠ X.env.locals /\ p.1 ∉ X.fs /\ ∀ v, p.2.data ≠ .cell v) : Inv X pins' σ H s :=
 ⟨I.ok, I.os, I.bare, I.base, I.loc, I.cell, I.free, I.freeC, fun p hp => (List.mem_append.mp hp).elim (fun z => I.pin p (List.mem_append_left _ z)) (h p), I.hok, I.len⟩
def ZdX (hN : N.Nodup) {i j : Nat} {x : Str} (a : N[i]? = some x) (b : N[j]? = some x) : i = j := by
 obtain ⟨h1, e1⟩ := List.getElem?_eq_some_iff.mp a
 obtain ⟨h2, e2⟩ := List.getElem?_eq_some_iff.mp b
 exact (List.getElem_inj hN).mp (e1.trans e2.symm)
def Zip {M : Model} {A : Around} {E : VS} {i : Nat} {x : Str} {v : V} {u : Value} {Q : Unit -> Shared -> Prop} (I : Inv X pins σ H s) (hN : X.N.Nodup) (hi : X.N[i]? = some x) (hx : Loc X.env.scope x) (r : RelV v u)
 (h : ∀ s', Inv X pins (σ.set i (some v)) H s' -> (∃ a, Heap.SameBut a s.heap s'.heap /\ (a = X.env.locals \/ X.env.cells.lookup x = some a)) -> Q () s') (hf : X.fn x = true \/ X.env.scope.names.lookup x = some .local := by first | exact .inl rfl | exact .inr rfl | assumption) : wpAny M A (storeName X.env x u) Q E s := by
 obtain ⟨m, hn, hl⟩ := id I.loc
 have hcls : (X.env.scope.kind == .class || (X.env.scope.kind == .module && X.env.locals != X.env.globals)) = false := by rw [I.ok.kind]; rfl
 have hiσ : i < σ.length := by rw [I.len]; exact (List.getElem?_eq_some_iff.mp hi).1
 have cne := I.cne
 have tracked : ∀ {a : Addr} {h' : Heap}, (∃ o, s.heap.get? a = some o /\ H a = none) -> Heap.SameBut a s.heap h' -> HOk X.prog X.w H h' := fun {a h'} ha hs b ob e => by
  obtain ⟨_, _, hfree⟩ := ha
  refine (I.hok b ob e).stay (fun c w' hc q => (hs.2 c ?_).trans q) (fun _ q => q) fun _ _ q => q
  rintro rfl
  rcases hc with rfl | hc
  . rw [hfree] at e; cases e
  . rw [hfree] at hc; cases hc
 rcases hx with hk | hk
 . refine wpAny_storeName_local hk hn (fun h' hn' hs => ?_) hcls
   obtain ⟨oL, _, _, hoL, _⟩ := id hn
   refine h _ ⟨I.ok, I.os, I.bare, ⟨fun b o e n hb hx => ?_, fun b o e n hb hx => ?_, I.base.free, fun b o e hx => ?_, I.base.tups, I.base.frzs, I.base.tbls⟩, ⟨_, hn', fun j y v' e1 e2 e3 => ?_⟩, fun y c e => ?_, I.free, I.freeC, fun p hp => ?_, tracked ⟨oL, hoL, I.free⟩ hs, by simpa using I.len⟩ ⟨_, hs, .inl rfl⟩
   . exact (hs.2 b (Nat.ne_of_lt (Nat.lt_of_lt_of_le (Heap.lt_size e) I.ok.above))).trans (I.base.keep b o e n hb hx)
   . obtain ⟨sl, e1⟩ := I.base.slot b o e n hb hx
     exact ⟨sl, (hs.2 b (Nat.ne_of_lt (Nat.lt_of_lt_of_le (Heap.lt_size e) I.ok.above))).trans e1⟩
   . obtain ⟨o', e1⟩ := I.base.there b o e hx
     exact ⟨o', (hs.2 b (Nat.ne_of_lt (Nat.lt_of_lt_of_le (Heap.lt_size e) I.ok.above))).trans e1⟩
   . by_cases hj : j = i
     . subst hj
       rw [hi] at e1; cases e1
       rw [List.getElem?_set_self hiσ] at e2
       cases e2
       exact ⟨u, r, .inl ⟨hk, by simp⟩⟩
     . rw [List.getElem?_set_ne (Ne.symm hj)] at e2
       obtain ⟨u', r', q⟩ := hl j y v' e1 e2 e3
       refine ⟨u', r', ?_⟩
       rcases q with ⟨k, e⟩ | ⟨k, c, e, z⟩
       . refine .inl ⟨k, ?_⟩
         have : y ≠ x := fun e => hj (ZdX hN e1 (e ▸ hi))
         simp [this, e]
       . exact .inr ⟨k, c, e, z.sameBut hs (cne y c e)⟩
   . obtain ⟨w', z⟩ := I.cell y c e
     exact ⟨w', z.sameBut hs (cne y c e)⟩
   . obtain ⟨e, n, ne, nf, d⟩ := I.pin p hp
     exact ⟨(hs.2 p.1 ne).trans e, n, ne, nf, d⟩
 . have hfn : X.fn x = true := by
    rcases hf with z | z
    . exact z
    . rw [z] at hk; cases hk
   obtain ⟨c, hc⟩ := I.ok.has x (.inl hk)
   obtain ⟨w', z⟩ := I.cell x c hc
   refine wpAny_storeName_cell I.ok.kind hk hc z (fun h' hc' hs => ?_)
   obtain ⟨oc, hoc, hocd⟩ := id z
   refine h { s with heap := h' } ⟨I.ok, I.os, I.bare, ⟨fun b o e n hb hx => ?_, fun b o e n hb hx => ?_, I.base.free, fun b o e hx => ?_, I.base.tups, I.base.frzs, I.base.tbls⟩, ⟨m, hn.sameBut hs (Ne.symm (cne x c hc)), fun j y v' e1 e2 e3 => ?_⟩, fun y c' e => ?_, I.free, I.freeC, fun p hp => ?_, tracked ⟨oc, hoc, I.freeC x c hc⟩ hs, by simpa using I.len⟩ ⟨c, hs, .inr hc⟩
   . exact (hs.2 b (Nat.ne_of_lt (Nat.lt_of_lt_of_le (Heap.lt_size e) (I.ok.cab x c hfn hc)))).trans (I.base.keep b o e n hb hx)
   . obtain ⟨sl, e1⟩ := I.base.slot b o e n hb hx
     exact ⟨sl, (hs.2 b (Nat.ne_of_lt (Nat.lt_of_lt_of_le (Heap.lt_size e) (I.ok.cab x c hfn hc)))).trans e1⟩
   . obtain ⟨o', e1⟩ := I.base.there b o e hx
     exact ⟨o', (hs.2 b (Nat.ne_of_lt (Nat.lt_of_lt_of_le (Heap.lt_size e) (I.ok.cab x c hfn hc)))).trans e1⟩
   . by_cases hj : j = i
     . subst hj
       rw [hi] at e1; cases e1
       rw [List.getElem?_set_self hiσ] at e2
       cases e2
       exact ⟨u, r, .inr ⟨.inl hk, c, hc, hc'⟩⟩
     . rw [List.getElem?_set_ne (Ne.symm hj)] at e2
       obtain ⟨u', r', q⟩ := hl j y v' e1 e2 e3
       refine ⟨u', r', ?_⟩
       rcases q with q | ⟨k, c', e, z'⟩
       . exact .inl q
       . refine .inr ⟨k, c', e, z'.sameBut hs ?_⟩
         rintro rfl
         exact hj (ZdX hN e1 (I.ok.inj _ _ _ e hc ▸ hi))
   . by_cases hcc : c' = c
     . subst hcc; exact ⟨_, hc'⟩
     . obtain ⟨w2, z2⟩ := I.cell y c' e
       exact ⟨w2, z2.sameBut hs hcc⟩
   . obtain ⟨e, n, ne, nf, d⟩ := I.pin p hp
     refine ⟨(hs.2 p.1 ?_).trans e, n, ne, nf, d⟩
     intro q
     rw [q, hoc] at e
     have q' : oc = p.2 := Option.some.inj e
     exact d w' (by rw [<- q']; exact hocd)
def Zbp (I : Inv X pins σ H s) (hN : X.N.Nodup) (hi : X.N[i]? = some x) (hx : Loc X.env.scope x) (r : RelV v u)
 (h : ∀ s', Inv X pins (σ.set i (some v)) H s' -> Q () s') (hf : X.fn x = true \/ X.env.scope.names.lookup x = some .local := by first | exact .inl rfl | exact .inr rfl | assumption) : wpAny M A (storeName X.env x u) Q E s :=
 Zip I hN hi hx r (fun s' I' _ => h s' I') hf
def Inv.call' (I : Inv X pins σ H s) (ho : s'.os = s.os) (u : Un (frs X.stack) ch H H' s.heap s'.heap) (hok : HOk X.prog X.w H' s'.heap) (hg : AllBare s'.gens)
 (hch : ∀ b ∈ ch, (b ∈ X.ex \/ X.s₀.heap.objs.size <= b) /\ b ≠ X.env.locals /\ (∀ x c, X.env.cells.lookup x = some c -> c ≠ b) /\ ∀ p ∈ X.pn ++ pins, p.1 ≠ b) : Inv X pins σ H' s' := by
 obtain ⟨h', g', d', t', o'⟩ := s'
 have e : o' = s.os := ho
 subst e
 exact I.call (g' := g') (t' := t') (d' := d') u hok hg hch
end
abbrev XK := Value -> Option Addr -> Hp -> Prop
noncomputable abbrev St := List (Option V)
abbrev VK := V -> Hp -> Prop
abbrev TE := St -> Hp -> VK -> Prop
abbrev TT := St -> Hp -> (Bool -> Hp -> Prop) -> Prop
abbrev TA := St -> Hp -> (List V -> Hp -> Prop) -> Prop
structure Ends where
 nx : St -> Hp -> Prop
 rt : VK
 bk : St -> Hp -> Prop := fun _ _ => False
 ct : St -> Hp -> Prop := fun _ _ => False
abbrev TS := Ends -> St -> Hp -> Prop
def EP (X : Cx) (pins : Pn) (σ : St) (Q : VK) (u : Value) (s' : Shared) : Prop := ∃ v H', Inv X pins σ H' s' /\ RelV v u /\ Q v H'
def TP (X : Cx) (pins : Pn) (σ : St) (Q : Bool -> Hp -> Prop) (b : Bool) (s' : Shared) : Prop := ∃ H', Inv X pins σ H' s' /\ Q b H'
def AP (X : Cx) (pins : Pn) (σ : St) (Q : List V -> Hp -> Prop) (us : List Value) (s' : Shared) : Prop := ∃ vs H', Inv X pins σ H' s' /\ Vals vs us /\ Q vs H'
def SP (X : Cx) (pins : Pn) (D : Ends) (f : Flow) (s' : Shared) : Prop :=
 match f with
 | .next => ∃ σ' H', Inv X pins σ' H' s' /\ D.nx σ' H'
 | .brk => ∃ σ' H', Inv X pins σ' H' s' /\ D.bk σ' H'
 | .cont => ∃ σ' H', Inv X pins σ' H' s' /\ D.ct σ' H'
 | .ret u => ∃ v σ' H', Inv X pins σ' H' s' /\ RelV v u /\ D.rt v H'
def PE (X : Cx) (e : Expr) (t : TE) : Prop :=
 ∀ (pins : Pn) (s : Shared) (σ : St) (H : Hp) (Q : VK), Inv X pins σ H s -> t σ H Q -> wpAny (model X.prog X.w) X.A (eval e X.env) (EP X pins σ Q) X.xe s
def PT (X : Cx) (e : Expr) (t : TT) : Prop :=
 ∀ (pins : Pn) (s : Shared) (σ : St) (H : Hp) (Q : Bool -> Hp -> Prop), Inv X pins σ H s -> t σ H Q -> wpAny (model X.prog X.w) X.A (isTrue e X.env (eval e X.env)) (TP X pins σ Q) X.xe s
def PW (X : Cx) (e : Expr) (t : TT) : Prop :=
 ∀ (whole : Sem Value) (pins : Pn) (s : Shared) (σ : St) (H : Hp) (Q : Bool -> Hp -> Prop), Inv X pins σ H s -> t σ H Q -> wpAny (model X.prog X.w) X.A (isTrue e X.env whole) (TP X pins σ Q) X.xe s
def PW.pt (h : PW X e t) : PT X e t := h _
def PA (X : Cx) (es : List Expr) (t : TA) : Prop :=
 ∀ (pos : Pos) (pins : Pn) (s : Shared) (σ : St) (H : Hp) (Q : List V -> Hp -> Prop), Inv X pins σ H s -> t σ H Q -> wpAny (model X.prog X.w) X.A (spliced (backTo pos (starEach es X.env))) (AP X pins σ Q) X.xe s
def PS (X : Cx) (st : Stmt) (t : TS) : Prop :=
 ∀ (pins : Pn) (s : Shared) (σ : St) (H : Hp) (D : Ends), Inv X pins σ H s -> t D σ H -> wpAny (model X.prog X.w) X.A (exec st X.env) (SP X pins D) X.xe s
def PSs (X : Cx) (st : List Stmt) (t : TS) : Prop :=
 ∀ (pins : Pn) (s : Shared) (σ : St) (H : Hp) (D : Ends), Inv X pins σ H s -> t D σ H -> wpAny (model X.prog X.w) X.A (execs st X.env) (SP X pins D) X.xe s
def thn (h : wpAny M A t Q E s) (hQ : ∀ a s, Q a s -> Q' a s) : wpAny M A t Q' E s := wpAny_mono h hQ fun _ _ x => x
section
def bin {a b : Expr} {ta tb : TE} (ha : PE X a ta) (hb : PE X b tb) {σ : St} {R : V -> V -> Hp -> Prop} (I : Inv X pins σ H s) (h : ta σ H fun x H1 => tb σ H1 fun y H2 => R x y H2)
 {α : Type} {Q : α -> Shared -> Prop} {f : Value -> Value -> Sem α}
 (hf : ∀ v u s2 x y H2, Inv X pins σ H2 s2 -> RelV x v -> RelV y u -> R x y H2 -> wpAny (model X.prog X.w) X.A (f v u) Q X.xe s2) :
 wpAny (model X.prog X.w) X.A (eval a X.env) (fun v s₁ => wpAny (model X.prog X.w) X.A (eval b X.env) (fun u s₂ => wpAny (model X.prog X.w) X.A (f v u) Q X.xe s₂) X.xe s₁) X.xe s := by
 refine thn (ha pins s σ H _ I h) fun v s1 z0 => ?_
 obtain ⟨x, H1, I1, r1, q1⟩ := z0
 refine thn (hb pins s1 σ H1 _ I1 q1) fun u s2 z0 => ?_
 obtain ⟨y, H2, I2, r2, q2⟩ := z0
 exact hf v u s2 x y H2 I2 r1 r2 q2
def tVar (i : Nat) : TE := fun σ H Q => ∃ v, σ[i]? = some (some v) /\ Q v H
def tC (v : V) : TE := fun _ H Q => Q v H
def Ziq (hN : X.N[i]? = some x) (hv : Vis X.env.scope x) (hd : (x == ("__debug__" : Str)) = false := by decide) (hcd : (x == ("__classdict__" : Str)) = false := by decide) : PE X (.Name x pos) (tVar i) := by
 intro pins s σ H Q I h
 obtain ⟨v, e, h⟩ := h
 obtain ⟨m, hn, hl⟩ := I.loc
 obtain ⟨u, r, l⟩ := hl i x v hN e hv
 have fin : EP X pins σ Q u s := ⟨v, H, I, r, h⟩
 rcases l with ⟨hk, hm⟩ | ⟨hk, c, hc, hcell⟩
 . exact wpAny_Name (wpAny_loadName_local I.ok.kind hk hn hm fin) hd
 . rcases hk with hk | hk
   . exact wpAny_Name (wpAny_loadName_cell I.ok.kind hk hc hcell fin) hd
   . exact wpAny_Name (wpAny_loadName_free I.ok.kind hk hc hcell fin hcd) hd
def Zam {i j pos} : PE X (.Constant (.int i) j pos) (tC (.int i)) := fun _ _ _ H _ I h => wpAny_Constant_int ⟨.int i, H, I.tok _, ⟨_, rfl⟩, h⟩
def ZcG {b j pos} : PE X (.Constant (.bool b) j pos) (tC (.bl b)) := fun _ _ _ H _ I h => Constant_bool ⟨.bl b, H, I, rfl, h⟩
def Zb3 {j pos} : PE X (.Constant .none j pos) (tC .non) := fun _ _ _ H _ I h => Constant_none ⟨.non, H, I, rfl, h⟩
def Z0 {x j pos} : PE X (.Constant (.str x) j pos) (tC (.str x)) := fun _ _ _ H _ I h => Calls.Constant_str ⟨.str x, H, I.tok _, ⟨_, rfl⟩, h⟩
def Gl (X : Cx) (x : Str) : Prop := X.env.kindOf x = some .globalImplicit
def ZbK (I : Inv X pins σ H s) (hg : Gl X x) (hm : X.mg x = some u) (h : Q u s)
 (hd : (x == ("__debug__" : Str)) = false := by decide) : wpAny (model X.prog X.w) X.A (eval (.Name x pos) X.env) Q E s :=
 Calls.Name_function_global I.ok.kind hg (Calls.loadGlobal_global (by rw [I.ok.glob]; exact I.mod.glob.keeps I.bk) hm h) hd
def Zcx (I : Inv X pins σ H s) (hg : Gl X x) (hm : X.mg x = none) (hv : bootBuiltins x = some u) (h : Q u s)
 (hn : x ≠ "__name__" := by decide) (hd : (x == ("__debug__" : Str)) = false := by decide) : wpAny (model X.prog X.w) X.A (eval (.Name x pos) X.env) Q E s := by
 obtain ⟨mb, h1, h2⟩ := I.mod.blt
 exact Calls.Name_function_global I.ok.kind hg (Calls.loadGlobal_builtin (by rw [I.ok.glob]; exact I.mod.glob.keeps I.bk) hm (by rw [I.ok.blt]; exact h1.keeps I.bk) ((h2 x hn).trans hv) h) hd
def Zd6 (hg : Gl X x) (hm : X.mg x = some u) (r : RelV v u) (hd : (x == ("__debug__" : Str)) = false := by decide) : PE X (.Name x pos) (tC v) :=
 fun _ _ _ H _ I h => ZbK I hg hm ⟨v, H, I, r, h⟩ hd
def ZgU (hg : Gl X x) (hm : X.mg x = none) (hv : bootBuiltins x = some u) (r : RelV v u) (hn : x ≠ "__name__" := by decide) (hd : (x == ("__debug__" : Str)) = false := by decide) : PE X (.Name x pos) (tC v) :=
 fun _ _ _ H _ I h => Zcx I hg hm hv ⟨v, H, I, r, h⟩ hn hd
variable {a b : Expr} {ta tb : TE}
def PC (X : Cx) (op : CmpOp) (a b : Expr) (t : TE) : Prop :=
 ∀ (pins : Pn) (s : Shared) (σ : St) (H : Hp) (Q : VK), Inv X pins σ H s -> t σ H Q ->
  wpAny (model X.prog X.w) X.A (eval a X.env) (fun v s₁ => wpAny (model X.prog X.w) X.A (eval b X.env) (fun u s₂ => wpAny (model X.prog X.w) X.A (compareOp op v u) (EP X pins σ Q) X.xe s₂) X.xe s₁) X.xe s
def Zjh (b : Expr) (h : op ≠ .In) (h2 : op ≠ .NotIn) : behindInMarks op b = false := by
 have e1 : (op == CmpOp.In) = false := by cases op <;> first | rfl | exact absurd rfl h
 have e2 : (op == CmpOp.NotIn) = false := by cases op <;> first | rfl | exact absurd rfl h2
 cases b <;> simp [behindInMarks, e1, e2]
def tIsN (ta : TE) : TE := fun σ H Q => ta σ H fun x H1 => Q (.bl (decide (x = .non))) H1
def ZoU (ta : TE) : TE := fun σ H Q => ta σ H fun x H1 => Q (.bl (!decide (x = .non))) H1
theorem RelV.none_iff (r : RelV x v) : (v == Value.none) = decide (x = .non) := by
 cases x with
 | non => cases r; rfl
 | bl _ => cases r; rfl
 | int _ => obtain ⟨t, rfl⟩ := r; rfl
 | str _ => obtain ⟨t, rfl⟩ := r; rfl
 | byt _ => obtain ⟨t, rfl⟩ := r; rfl
 | flt _ => obtain ⟨t, rfl⟩ := r; rfl
 | ref _ => cases r; rfl
 | ty _ => cases r; rfl
def ZmJ {j pos'} (ha : PE X a ta) : PC X .Is a (.Constant .none j pos') (tIsN ta) := by
 intro pins s σ H Q I h
 refine thn (ha pins s σ H _ I h) fun v s1 z0 => ?_
 obtain ⟨x, H1, I1, r1, q1⟩ := z0
 exact Constant_none (is_none_gen ⟨.bl _, H1, I1, by rw [r1.none_iff]; rfl, q1⟩)
def ZkY {j pos'} (ha : PE X a ta) : PC X .IsNot a (.Constant .none j pos') (ZoU ta) := by
 intro pins s σ H Q I h
 refine thn (ha pins s σ H _ I h) fun v s1 z0 => ?_
 obtain ⟨x, H1, I1, r1, q1⟩ := z0
 exact Constant_none (isnot_none_gen ⟨.bl _, H1, I1, by rw [r1.none_iff]; rfl, q1⟩)
def tB (t : TE) : TT := fun σ H Q => t σ H fun x H1 => ∃ c, x = .bl c /\ Q c H1
def Zir (h : PC X op a b t) (h1 : behindInMarks op b = false := by first | exact Zjh _ (by decide) (by decide) | rfl) : PT X (.Compare a [op] [b] pos) (tB t) := by
 intro pins s σ H Q I hw
 refine wpAny_isTrue_Compare1 (thn (h pins s σ H _ I hw) fun v s1 h1 => thn h1 fun u s2 h2 => thn h2 fun c s3 z0 => ?_) h1
 obtain ⟨x, H1, I1, r1, q1⟩ := z0
 obtain ⟨d, rfl, q⟩ := q1
 cases r1
 exact wpAny_truthy_bool ⟨H1, I1, q⟩
variable {tA tB' : TT} {rest : List Expr}
def tOr (t u : TT) : TT := fun σ H Q => t σ H fun c H1 => if c = true then Q true H1 else u σ H1 Q
def tNot (t : TT) : TT := fun σ H Q => t σ H fun c H1 => Q (!c) H1
theorem ZmK (ha : PT X a tA) : PW X (.BoolOp .Or [a] pos) tA := by
 intro wh pins s σ H Q I h
 refine isTrue_or (thn (ha pins s σ H Q I h) fun c s1 e => ?_)
 cases c with
 | false => exact isTrue_or_nil e
 | true => exact e
theorem ZoV (ha : PT X a tA) (hb : PW X (.BoolOp .Or (b :: rest) pos) tB') : PW X (.BoolOp .Or (a :: b :: rest) pos) (tOr tA tB') := by
 intro wh pins s σ H Q I h
 refine isTrue_or (thn (ha pins s σ H _ I h) fun c s1 z0 => ?_)
 obtain ⟨H1, I1, q1⟩ := z0
 cases c with
 | true => exact ⟨H1, I1, q1⟩
 | false => exact hb wh pins s1 σ H1 Q I1 q1
def ZmL (ha : PT X a tA) : PT X (.UnaryOp .Not a pos) (tNot tA) := by
 intro pins s σ H Q I h
 exact isTrue_not (ha pins s σ H (fun c H1 => Q (!c) H1) I h)
def ZoW (ta tb : TE) : TE := fun σ H Q => ta σ H fun x H1 => ∃ c, x = .bl c /\ if c = true then tb σ H1 Q else Q (.bl false) H1
def tOrV (ta tb : TE) : TE := fun σ H Q => ta σ H fun x H1 => ∃ c, x = .bl c /\ if c = true then Q (.bl true) H1 else tb σ H1 Q
def ZoX (ta : TE) : TE := fun σ H Q => ta σ H fun x H1 => ∃ c, x = .bl c /\ Q (.bl (!c)) H1
def ZmM {op} (h : PE X a t) : PE X (.BoolOp op [a] pos) t := fun pins s σ H Q I hw => BoolOp_one (h pins s σ H Q I hw)
theorem ZmN (ha : PE X a ta) (hb : PE X (.BoolOp .And (b :: rest) pos) tb) : PE X (.BoolOp .And (a :: b :: rest) pos) (ZoW ta tb) := by
 intro pins s σ H Q I h
 refine BoolOp_and (thn (ha pins s σ H _ I h) fun v s1 z0 => ?_)
 obtain ⟨x, H1, I1, r1, q1⟩ := z0
 obtain ⟨c, rfl, q1⟩ := q1
 cases r1
 refine wpAny_truthy_bool ?_
 cases c with
 | true => exact hb pins s1 σ H1 Q I1 q1
 | false => exact ⟨.bl false, H1, I1, rfl, q1⟩
theorem ZoY (ha : PE X a ta) (hb : PE X (.BoolOp .Or (b :: rest) pos) tb) : PE X (.BoolOp .Or (a :: b :: rest) pos) (tOrV ta tb) := by
 intro pins s σ H Q I h
 refine BoolOp_or (thn (ha pins s σ H _ I h) fun v s1 z0 => ?_)
 obtain ⟨x, H1, I1, r1, q1⟩ := z0
 obtain ⟨c, rfl, q1⟩ := q1
 cases r1
 refine wpAny_truthy_bool ?_
 cases c with
 | false => exact hb pins s1 σ H1 Q I1 q1
 | true => exact ⟨.bl true, H1, I1, rfl, q1⟩
def ZmO (ha : PE X a ta) : PE X (.UnaryOp .Not a pos) (ZoX ta) := by
 intro pins s σ H Q I h
 refine UnaryOp_ (thn (ha pins s σ H _ I h) fun v s1 z0 => ?_)
 obtain ⟨x, H1, I1, r1, q1⟩ := z0
 obtain ⟨c, rfl, q1⟩ := q1
 cases r1
 exact not_of (wpAny_truthy_bool ⟨.bl (!c), H1, I1, rfl, q1⟩)
def tIf (t : TT) (ta tb : TE) : TE := fun σ H Q => t σ H fun c H1 => if c = true then ta σ H1 Q else tb σ H1 Q
theorem Zji (hc : PT X c tA) (ha : PE X a ta) (hb : PE X b tb) : PE X (.IfExp c a b pos) (tIf tA ta tb) := by
 intro pins s σ H Q I h
 refine wpAny_IfExp (thn (hc pins s σ H _ I h) fun d s1 z0 => ?_)
 obtain ⟨H1, I1, q1⟩ := z0
 cases d with
 | true => exact ha pins s1 σ H1 Q I1 q1
 | false => exact hb pins s1 σ H1 Q I1 q1
end
def SqL (K : Fg) (H : Hp) (a : Addr) (xs : List V) : Prop :=
 Rd H a (.lst xs) \/
  ∃ (o : Obj) (its : Array Value) (n : Nat), K.lookup a = some o /\ o.cls = .type "list" /\ o.dict = none /\ o.data = .seq its n /\ its.size <= sizeLine /\ Vals xs its.toList
def SqT (K : Fg) (H : Hp) (a : Addr) (xs : List V) : Prop :=
 Rd H a (.tup xs) \/
  ∃ (o : Obj) (its : Array Value) (n : Nat), K.lookup a = some o /\ o.cls = .type "tuple" /\ o.data = .seq its n /\ its.size <= sizeLine /\ Vals xs its.toList
noncomputable def absV : Value -> Option V
 | .none => some .non
 | .bool b => some (.bl b)
 | .int i _ => some (.int i)
 | .str x _ => some (.str x)
 | .bytes b _ => some (.byt b)
 | .float b _ => some (.flt b)
 | .ref a => some (.ref a)
 | .type n => some (.ty n)
 | _ => none
theorem RelV.abs (r : RelV x u) : absV u = some x := by
 cases x with
 | non => cases r; rfl
 | bl _ => cases r; rfl
 | int _ => obtain ⟨t, rfl⟩ := r; rfl
 | str _ => obtain ⟨t, rfl⟩ := r; rfl
 | byt _ => obtain ⟨t, rfl⟩ := r; rfl
 | flt _ => obtain ⟨t, rfl⟩ := r; rfl
 | ref _ => cases r; rfl
 | ty _ => cases r; rfl
def RelV.inj (r : RelV x u) (q : RelV y u) : x = y := Option.some.inj (r.abs.symm.trans q.abs)
theorem Vals.inj : ∀ {xs ys : List V} {us : List Value}, Vals xs us -> Vals ys us -> xs = ys
 | _, _, _, .nil, .nil => rfl
 | _, _, _, .cons r t, .cons r' t' => by rw [r.inj r', Vals.inj t t']
section
variable {σ : St} {a : Addr} {xs ys : List V}
def Inv.list (I : Inv X pins σ H s) (h : SqL X.K H a xs) : ∃ its : List Value, Vals xs its /\ PlainL s.heap a its.toArray /\ xs.length <= sizeLine := by
 rcases h with h | ⟨o, its, n, hk, hc, hd, hs, hz, r⟩
 . obtain ⟨z, its, n, r, e⟩ := h.ok I.hok
   exact ⟨its, r, ⟨_, n, e, rfl, rfl, rfl⟩, z⟩
 . refine ⟨its.toList, r, ⟨o, n, I.kIn a o hk, hc, hd, by simpa using hs⟩, ?_⟩
   have e := r.length
   simp only [Array.length_toList] at e
   omega
def Inv.tuple (I : Inv X pins σ H s) (h : SqT X.K H a xs) : ∃ its : List Value, Vals xs its /\ IsTup s.heap a its.toArray /\ xs.length <= sizeLine := by
 rcases h with h | ⟨o, its, n, hk, hc, hs, hz, r⟩
 . obtain ⟨z, its, r, p⟩ := h.ok I.hok
   exact ⟨its, r, p, z⟩
 . refine ⟨its.toList, r, ⟨o, I.kIn a o hk, hc, n, by simpa using hs⟩, ?_⟩
   have e := r.length
   simp only [Array.length_toList] at e
   omega
def Inv.list_inj (I : Inv X pins σ H s) (h : SqL X.K H a xs) (h' : SqL X.K H a ys) : xs = ys := by
 obtain ⟨its, r, ⟨o, n, e, _, _, d⟩, _⟩ := I.list h
 obtain ⟨its', r', ⟨o', n', e', _, _, d'⟩, _⟩ := I.list h'
 rw [e] at e'; cases e'
 rw [d] at d'
 injection d' with d1 _
 have : its = its' := by simpa using congrArg Array.toList d1
 subst this
 exact r.inj r'
def Inv.tuple_inj (I : Inv X pins σ H s) (h : SqT X.K H a xs) (h' : SqT X.K H a ys) : xs = ys := by
 obtain ⟨its, r, ⟨o, e, _, n, d⟩, _⟩ := I.tuple h
 obtain ⟨its', r', ⟨o', e', _, n', d'⟩, _⟩ := I.tuple h'
 rw [e] at e'; cases e'
 rw [d] at d'
 injection d' with d1 _
 have : its = its' := by simpa using congrArg Array.toList d1
 subst this
 exact r.inj r'
end
noncomputable abbrev Cx.wish (X : Cx) (E : VS) : Cx := { X with xe := E }
noncomputable abbrev Cx.nox (X : Cx) : Cx := X.wish fun _ _ => False
def Cx.Ok.wish (ok : X.Ok) (E : VS) : (X.wish E).Ok :=
 ⟨ok.mod, ok.kind, ok.glob, ok.blt, ok.above, ok.inj, ok.has, ok.cab, ok.hd, ok.frames, ok.stk, ok.exf, ok.bs, ok.bsz, ok.noex, ok.exfs, ok.funs, ok.frf⟩
def Cx.Ok.unwish {E : VS} (ok : (X.wish E).Ok) : X.Ok :=
 ⟨ok.mod, ok.kind, ok.glob, ok.blt, ok.above, ok.inj, ok.has, ok.cab, ok.hd, ok.frames, ok.stk, ok.exf, ok.bs, ok.bsz, ok.noex, ok.exfs, ok.funs, ok.frf⟩
section
variable {σ : St} {E : VS}
def Inv.wish (I : Inv X pins σ H s) (E : VS) : Inv (X.wish E) pins σ H s := ⟨I.ok.wish E, I.os, I.bare, I.base, I.loc, I.cell, I.free, I.freeC, I.pin, I.hok, I.len⟩
def Inv.unwish (I : Inv (X.wish E) pins σ H s) : Inv X pins σ H s := ⟨I.ok.unwish, I.os, I.bare, I.base, I.loc, I.cell, I.free, I.freeC, I.pin, I.hok, I.len⟩
theorem SP.unwish (h : SP (X.wish E) pins D f s') : SP X pins D f s' := by
 cases f with
 | next => obtain ⟨σ', H', I, q⟩ := h; exact ⟨σ', H', I.unwish, q⟩
 | brk => obtain ⟨σ', H', I, q⟩ := h; exact ⟨σ', H', I.unwish, q⟩
 | cont => obtain ⟨σ', H', I, q⟩ := h; exact ⟨σ', H', I.unwish, q⟩
 | ret u => obtain ⟨v, σ', H', I, r, q⟩ := h; exact ⟨v, σ', H', I.unwish, r, q⟩
def PSs.nox {st : List Stmt} {t : TS} (h : PSs X.nox st t) : PSs X st t := fun pins s σ H D I hw =>
 wpAny_mono (h pins s σ H D (I.wish _) hw) (fun _ _ q => q.unwish) fun _ _ z => False.elim z
end
section
variable {st : Stmt} {rest : List Stmt} {t u : TS} {e : Expr} {te : TE}
def ZoZ : TS := fun D σ H => D.nx σ H
def tSeq (t u : TS) : TS := fun D σ H => t { D with nx := u D } σ H
def ZkZ : PSs X [] ZoZ := fun _ _ σ H _ I h => wpAny_execs_nil ⟨σ, H, I, h⟩
theorem Zjj (h1 : PS X st t) (h2 : PSs X rest u) : PSs X (st :: rest) (tSeq t u) := by
 intro pins s σ H D I h
 refine wpAny_execs_cons (thn (h1 pins s σ H { D with nx := u D } I h) fun f s1 q => ?_)
 cases f with
 | next =>
  obtain ⟨σ', H', I', q⟩ := q
  exact h2 pins s1 σ' H' D I' q
 | ret v => exact q
 | brk => exact q
 | cont => exact q
def Inv.quiet (I : Inv X pins σ H s) : interactive X.env = false := by simp [interactive, I.ok.kind]
def Zpa (te : TE) : TS := fun D σ H => te σ H fun _ H1 => D.nx σ H1
def Zla (he : PE X e te) (hs : swapsWith e none pos.line X.env = pure false := by rfl) : PS X (.Expr e pos) (Zpa te) := by
 intro pins s σ H D I h
 exact wpAny_Expr_any (thn (he pins s σ H _ I h) fun v s1 ⟨x, H1, I1, r1, q1⟩ => ⟨σ, H1, I1, q1⟩) I.quiet hs
def tRet (te : TE) : TS := fun D σ H => te σ H D.rt
def ZmP (he : PE X e te) : PS X (.Return (some e) pos) (tRet te) := by
 intro pins s σ H D I h
 exact wpAny_Return_some (thn (he pins s σ H _ I h) fun v s1 ⟨x, H1, I1, r1, q1⟩ => ⟨x, σ, H1, I1, r1, q1⟩)
def tIfS (c : TT) (t u : TS) : TS := fun D σ H => c σ H fun b H1 => if b = true then t D σ H1 else u D σ H1
theorem Zpb (hc : PT X c tc) (ha : PSs X a t) (hb : PSs X b u) : PS X (.If c a b pos) (tIfS tc t u) := by
 intro pins s σ H D I h
 refine wpAny_If (thn (hc pins s σ H _ I h) fun d s1 z0 => ?_)
 obtain ⟨H1, I1, q1⟩ := z0
 cases d with
 | true => exact ha pins s1 σ H1 D I1 q1
 | false => exact hb pins s1 σ H1 D I1 q1
end
abbrev TG := V -> St -> Hp -> (St -> Hp -> Prop) -> Prop
abbrev TGs := List V -> St -> Hp -> (St -> Hp -> Prop) -> Prop
def PG (X : Cx) (target : Expr) (t : TG) : Prop :=
 ∀ (pins : Pn) (s : Shared) (σ : St) (H : Hp) (v : V) (u : Value) (Q : St -> Hp -> Prop), Inv X pins σ H s -> RelV v u -> t v σ H Q ->
  wpAny (model X.prog X.w) X.A (assign target X.env u) (fun _ s' => ∃ σ' H', Inv X pins σ' H' s' /\ Q σ' H') X.xe s
def PGs (X : Cx) (ts : List Expr) (t : TGs) : Prop :=
 ∀ (pins : Pn) (s : Shared) (σ : St) (H : Hp) (vs : List V) (us : List Value) (Q : St -> Hp -> Prop), Inv X pins σ H s -> Vals vs us -> t vs σ H Q ->
  wpAny (model X.prog X.w) X.A (assignInOrder ((assignEach ts X.env).map (·.2)) us) (fun _ s' => ∃ σ' H', Inv X pins σ' H' s' /\ Q σ' H') X.xe s
abbrev TSet := V -> V -> V -> Hp -> (Hp -> Prop) -> Prop
def PSet (X : Cx) (t : TSet) : Prop :=
 ∀ (pins : Pn) (s : Shared) (σ : St) (H : Hp) (o i v : V) (ov iv u : Value) (Q : Hp -> Prop), Inv X pins σ H s -> RelV o ov -> RelV i iv -> RelV v u -> t o i v H Q ->
  wpAny (model X.prog X.w) X.A (setItem ov iv u) (fun _ s' => ∃ H', Inv X pins σ H' s' /\ Q H') X.xe s
section
noncomputable def Zcf (i : Nat) : TG := fun v σ H Q => Q (σ.set i (some v)) H
def ZgV (hN : X.N.Nodup) (hi : X.N[i]? = some x) (hx : Loc X.env.scope x) (hf : X.fn x = true \/ X.env.scope.names.lookup x = some .local := by first | exact .inl rfl | exact .inr rfl | assumption) : PG X (.Name x pos) (Zcf i) := by
 intro pins s σ H v u Q I r h
 exact wpAny_assign_Name (Zbp I hN hi hx r (fun s' I' => ⟨_, H, I', h⟩) hf)
noncomputable def gNil : TGs := fun vs σ H Q => vs = [] /\ Q σ H
noncomputable def Zky (t : TG) (u : TGs) : TGs := fun vs σ H Q => ∃ v r, vs = v :: r /\ t v σ H fun σ' H' => u r σ' H' Q
def Zlb : PGs X [] gNil := by
 intro pins s σ H vs us Q I r h
 obtain ⟨e, h⟩ := h
 subst e
 cases r
 exact assignInOrder_nil ⟨σ, H, I, h⟩
theorem Zjk (h1 : PG X e t) (h2 : PGs X es u)
 (hs : (assignEach (e :: es) X.env).map (·.2) = assign e X.env :: (assignEach es X.env).map (·.2) := by rfl) : PGs X (e :: es) (Zky t u) := by
 intro pins s σ H vs us Q I r h
 obtain ⟨v, vr, e1, h⟩ := h
 subst e1
 cases r with
 | cons r rr =>
  rw [hs]
  refine assignInOrder_cons (thn (h1 pins s σ H _ _ _ I r h) fun _ s1 z0 => ?_)
  obtain ⟨σ1, H1, I1, q1⟩ := z0
  exact h2 pins s1 σ1 H1 _ _ Q I1 rr q1
noncomputable def gTup (K : Fg) (n : Nat) (t : TGs) : TG := fun v σ H Q => ∃ a xs, v = .ref a /\ SqT K H a xs /\ xs.length = n /\ t xs σ H Q
def ZmQ (hc : X.calm = true) (h : PGs X es t)
 (hn : (assignEach es X.env).length = n := by rfl) (hst : (assignEach es X.env).findIdx? (·.1) = none := by rfl) : PG X (.Tuple es k pos) (gTup X.K n t) := by
 intro pins s σ H v u Q I r hw
 obtain ⟨a, xs, e1, hq, hl, hw⟩ := hw
 subst e1
 cases r
 obtain ⟨its, rv, ht, hz⟩ := I.tuple hq
 refine assign_Tuple_tuple (I.ok.hd hc) ht (by simp [hn, <- hl, rv.length]) hst fun h' hx => ?_
 have I1 : Inv X pins σ H { s with heap := h' } := I.kept (t' := s.toks) fun b o e => hx b o (Nat.ne_of_lt (Heap.lt_size e)) e
 exact h pins _ σ H xs _ Q I1 (by simpa using rv) hw
noncomputable def gSub (to ti : TE) (t : TSet) : TG := fun v σ H Q => to σ H fun o H1 => ti σ H1 fun i H2 => t o i v H2 fun H3 => Q σ H3
def ZmR (ho : PE X o to) (hi : PE X i ti) (hs : PSet X t)
 (ha : ∀ v, assign (.Subscript o i pos) X.env v = (do
  let ov <- holding [v] (eval o X.env)
  let iv <- holding [v, ov] (eval i X.env)
  standAt pos
  holding [v, ov, iv] (setItem ov iv v)
  release [v, ov, iv] []) := by intro _; rfl) : PG X (.Subscript o i pos) (gSub to ti t) := by
 intro pins s σ H v u Q I r h
 rw [ha]
 refine wpAny_bind (wpAny_holding (thn (ho pins s σ H _ I h) fun ov s1 z0 => ?_))
 obtain ⟨x, H1, I1, r1, q1⟩ := z0
 refine wpAny_bind (wpAny_holding (thn (hi pins s1 σ H1 _ I1 q1) fun iv s2 z0 => ?_))
 obtain ⟨y, H2, I2, r2, q2⟩ := z0
 refine wpAny_bind (wpAny_standAt (wpAny_bind (wpAny_holding (thn (hs pins s2 σ H2 x y v ov iv u _ I2 r1 r2 r q2) fun _ s3 z0 => ?_))))
 obtain ⟨H3, I3, q3⟩ := z0
 exact wpAny_release ⟨σ, H3, I3, q3⟩
def tAsg (te : TE) (g : TG) : TS := fun D σ H => te σ H fun x H1 => g x σ H1 D.nx
def ZmS (he : PE X e te) (hg : PG X tg g) (hs : swapsWithSole [tg] e pos.line X.env = pure false := by rfl) (hw : swappedStores [tg] e X.env = pure none := by rfl)
 (h1 : (assignEach [tg] X.env).map (·.2) = [assign tg X.env] := by rfl) : PS X (.Assign [tg] e pos) (tAsg te g) := by
 intro pins s σ H D I h
 refine wpAny_Assign_stores (thn (he pins s σ H _ I h) fun v s1 z0 => ?_) hs hw
 obtain ⟨x, H1, I1, r1, q1⟩ := z0
 rw [h1]
 exact thn (hg pins s1 σ H1 x v _ I1 r1 q1) fun _ s2 q => q
def ZmT (hN : X.N.Nodup) (hi : X.N[i]? = some x) (hx : Loc X.env.scope x) (he : PE X e te) (hs : swapsWith e (some (.Name x pos')) pos.line X.env = pure false := by rfl) (hf : X.fn x = true \/ X.env.scope.names.lookup x = some .local := by first | exact .inl rfl | exact .inr rfl | assumption) :
 PS X (.Assign [.Name x pos'] e pos) (tAsg te (Zcf i)) := by
 intro pins s σ H D I h
 refine wpAny_Assign_Name (thn (he pins s σ H _ I h) fun v s1 z0 => ?_) hs
 obtain ⟨y, H1, I1, r1, q1⟩ := z0
 exact Zbp I1 hN hi hx r1 (fun s2 I2 => ⟨_, H1, I2, q1⟩) hf
end
structure It where
 go : Nat -> Hp -> Prop
 yld : Nat -> Hp -> V -> Hp -> Prop
 stop : Nat -> Hp -> Prop
def FpOk (X : Cx) (pins : Pn) (H : Hp) (b : Addr) : Prop :=
 H b = none /\ b ≠ X.env.locals /\ b ∉ X.fs /\ (b ∈ X.ex \/ X.s₀.heap.objs.size <= b) /\ (∀ x c, X.env.cells.lookup x = some c -> c ≠ b) /\ ∀ p ∈ X.pn ++ pins, p.1 ≠ b
def Inv.fpOk (I : Inv X pins σ H s) (hb : s.heap.objs.size <= b) (hn : H' b = none) : FpOk X pins H' b := by
 refine ⟨hn, Nat.ne_of_gt (Nat.lt_of_lt_of_le I.lt hb), I.nofs hb, .inr (Nat.le_trans I.sz hb), fun x c e z => ?_, fun p hp z => ?_⟩
 . obtain ⟨v, q⟩ := I.cell x c e
   exact absurd (Nat.lt_of_lt_of_le q.lt (by rw [z]; exact hb)) (Nat.lt_irrefl _)
 . exact absurd (Nat.lt_of_lt_of_le (Heap.lt_size (I.pin p hp).1) (by rw [z]; exact hb)) (Nat.lt_irrefl _)
structure Turn (P : Program) (w : World) (K : Fg) (tg : Expr) (J : It) (fp : List Addr) (it : Addr) (tn : Nat -> Heap -> Prop) : Prop where
 mem : it ∈ fp
 obj : ∀ i h, tn i h -> ∀ b ∈ fp, ∃ o, h.get? b = some o /\ ∀ v, o.data ≠ .cell v
 keep : ∀ i h h', tn i h -> (∀ b ∈ fp, ∀ o, h.get? b = some o -> h'.get? b = some o) -> tn i h'
 item : ∀ (X : Cx), X.prog = P -> X.w = w -> X.K = K -> X.calm = true -> ∀ (i : Nat) (pins : Pn) (s : Shared) (σ : St) (H : Hp) (E : VS), Inv X pins σ H s -> (∀ b ∈ fp, FpOk X pins H b) -> tn i s.heap -> J.go i H ->
  wpAny (model P w) X.A (pyNext (.ref it)) (fun r s1 => ∃ u, r = some u /\
   wpAny (model P w) X.A (letOwnedTupleGo tg (.ref it) u) (fun _ s2 => ∃ x H', Inv X pins σ H' s2 /\ RelV x u /\ J.yld i H x H' /\ tn (i + 1) s2.heap /\ ∀ b ∈ fp, H' b = none) E s1) E s
 done : ∀ (X : Cx), X.prog = P -> X.w = w -> X.K = K -> X.calm = true -> ∀ (i : Nat) (pins : Pn) (s : Shared) (σ : St) (H : Hp) (E : VS), Inv X pins σ H s -> (∀ b ∈ fp, FpOk X pins H b) -> tn i s.heap -> J.stop i H ->
  wpAny (model P w) X.A (pyNext (.ref it)) (fun r s1 => r = none /\ Inv X pins σ H s1) E s
 self : ∀ (A : Around) (i : Nat) (s : Shared) (Q : VS) (E : VS), tn i s.heap -> Q (.ref it) s -> wpAny (model P w) A (pyIter (.ref it)) Q E s
abbrev TI := St -> Hp -> (It -> Hp -> Prop) -> Prop
def PIE (X : Cx) (pins : Pn) (σ : St) (tg : Expr) (R : It -> Hp -> Prop) (itv : Value) (s2 : Shared) : Prop :=
 ∃ (it : Addr) (fp : List Addr) (tn : Nat -> Heap -> Prop) (J : It) (H' : Hp), itv = .ref it /\ Inv X pins σ H' s2 /\ Turn X.prog X.w X.K tg J fp it tn /\ tn 0 s2.heap /\ (∀ b ∈ fp, FpOk X pins H' b) /\ R J H'
def PI (X : Cx) (tg iter : Expr) (wi : TI) : Prop :=
 ∀ (pins : Pn) (s : Shared) (σ : St) (H : Hp) (R : It -> Hp -> Prop), Inv X pins σ H s -> wi σ H R ->
  wpAny (model X.prog X.w) X.A (eval iter X.env) (fun v s1 => wpAny (model X.prog X.w) X.A (pyIter v) (PIE X pins σ tg R) X.xe s1) X.xe s
def Zfz (ho : s.heap.get? it = some o) (hc : o.cls = .type n) (hd : o.data = .fields vs)
 (hn : ["enumerate", "zip", "dict_itemiterator", "dict_reverseitemiterator", "odict_iterator", "itertools.zip_longest", "itertools.pairwise"].contains n = false) (hQ : Q () s) : wpAny M A (letOwnedTupleGo tg (.ref it) u) Q E s := by
 unfold letOwnedTupleGo
 cases tg <;> first
  | exact wpAny_pure hQ
  | (cases u <;> first
   | exact wpAny_pure hQ
   | (refine wpAny_bind (wpAny_load ho ?_)
      rw [hc, hd]
      show wpAny M A (if (["enumerate", "zip", "dict_itemiterator", "dict_reverseitemiterator", "odict_iterator", "itertools.zip_longest", "itertools.pairwise"].contains n && vs[0]? == some (rawInt _)) = true then _ else _) Q E s
      rw [if_neg (by intro h; rw [hn, Bool.false_and] at h; cases h)]
      exact wpAny_pure hQ))
noncomputable def Itl (K : Fg) (a : Addr) : It :=
 ⟨fun i H => ∃ xs x, SqL K H a xs /\ xs[i]? = some x, fun i H x H' => H' = H /\ ∀ xs, SqL K H a xs -> xs[i]? = some x, fun i H => ∃ xs, SqL K H a xs /\ xs.length <= i⟩
noncomputable def Itt (K : Fg) (a : Addr) : It :=
 ⟨fun i H => ∃ xs x, SqT K H a xs /\ xs[i]? = some x, fun i H x H' => H' = H /\ ∀ xs, SqT K H a xs -> xs[i]? = some x, fun i H => ∃ xs, SqT K H a xs /\ xs.length <= i⟩
noncomputable def Itr (lo : Int) (n : Nat) : It := ⟨fun i _ => i < n, fun i H x H' => H' = H /\ x = .int (lo + i), fun i _ => n <= i⟩
def Zis {P : Program} {w : World} {K : Fg} (a it : Addr) : Turn P w K tg (Itl K a) [it] it (fun i h => h.IsListIter it a i) where
 mem := by simp
 obj := fun i h st b hb => by
  have e : b = it := by simpa using hb
  subst e
  obtain ⟨o, e, c, d⟩ := st
  exact ⟨o, e, fun v z => by rw [d] at z; cases z⟩
 keep := fun i h h' st k => st.at fun o e => k it (by simp) o e
 item := by
  intro X hP hw hK hc i pins s σ H E I hf st hg
  subst hP hw hK
  obtain ⟨xs, x, hq, hx⟩ := hg
  obtain ⟨its, rv, p, hz⟩ := I.list hq
  obtain ⟨u, hu, ru⟩ := rv.get hx
  obtain ⟨f0, f1, f2, f3, f4, f5⟩ := hf it (by simp)
  refine wpAny_pyNext_list_item st p.isList (x := u) (by simpa using hu) fun h' st' sb => ?_
  have I1 : Inv X pins σ H { s with heap := h' } := I.turned (t' := s.toks) (fun b o hb e => (sb.2 b hb).trans e) f0 f1 f3 f4 f5
  obtain ⟨o, e, c, d⟩ := id st'
  exact ⟨u, rfl, Zfz (s := { s with heap := h' }) e c d (by decide) ⟨x, H, I1, ru, ⟨rfl, fun ys hy => by rw [I.list_inj hy hq]; exact hx⟩, st', fun b hb => (hf b hb).1⟩⟩
 done := by
  intro X hP hw hK hc i pins s σ H E I hf st hg
  subst hP hw hK
  obtain ⟨xs, hq, hx⟩ := hg
  obtain ⟨its, rv, p, hz⟩ := I.list hq
  obtain ⟨f0, f1, f2, f3, f4, f5⟩ := hf it (by simp)
  have hl := rv.length
  exact wpAny_pyNext_list_end (I.ok.hd hc) st p.isList (by simp; omega) fun h' eb => ⟨rfl, I.turned (t' := s.toks) (fun b o hb e => eb b o hb e) f0 f1 f3 f4 f5⟩
 self := fun _ _ _ _ _ st h => wpAny_pyIter_listiter st h
def Zh9 {P : Program} {w : World} {K : Fg} (a it : Addr) : Turn P w K tg (Itt K a) [it] it (fun i h => h.IsTupleIter it a i) where
 mem := by simp
 obj := fun i h st b hb => by
  have e : b = it := by simpa using hb
  subst e
  obtain ⟨o, e, c, d⟩ := st
  exact ⟨o, e, fun v z => by rw [d] at z; cases z⟩
 keep := fun i h h' st k => st.at fun o e => k it (by simp) o e
 item := by
  intro X hP hw hK hc i pins s σ H E I hf st hg
  subst hP hw hK
  obtain ⟨xs, x, hq, hx⟩ := hg
  obtain ⟨its, rv, p, hz⟩ := I.tuple hq
  obtain ⟨u, hu, ru⟩ := rv.get hx
  obtain ⟨f0, f1, f2, f3, f4, f5⟩ := hf it (by simp)
  refine wpAny_pyNext_tuple_item st (show s.heap.IsTuple a its.toArray from p) (x := u) (by simpa using hu) fun h' st' sb => ?_
  have I1 : Inv X pins σ H { s with heap := h' } := I.turned (t' := s.toks) (fun b o hb e => (sb.2 b hb).trans e) f0 f1 f3 f4 f5
  obtain ⟨o, e, c, d⟩ := id st'
  exact ⟨u, rfl, Zfz (s := { s with heap := h' }) e c d (by decide) ⟨x, H, I1, ru, ⟨rfl, fun ys hy => by rw [I.tuple_inj hy hq]; exact hx⟩, st', fun b hb => (hf b hb).1⟩⟩
 done := by
  intro X hP hw hK hc i pins s σ H E I hf st hg
  subst hP hw hK
  obtain ⟨xs, hq, hx⟩ := hg
  obtain ⟨its, rv, p, hz⟩ := I.tuple hq
  obtain ⟨f0, f1, f2, f3, f4, f5⟩ := hf it (by simp)
  have hl := rv.length
  exact wpAny_pyNext_tuple_end (I.ok.hd hc) st (show s.heap.IsTuple a its.toArray from p) (by simp; omega) fun h' eb => ⟨rfl, I.turned (t' := s.toks) (fun b o hb e => eb b o hb e) f0 f1 f3 f4 f5⟩
 self := fun _ _ _ _ _ st h => wpAny_pyIter_tupleiter st h
def ZhA {P : Program} {w : World} {K : Fg} (it : Addr) (lo : Int) (n : Nat) : Turn P w K tg (Itr lo n) [it] it (fun i h => IsRangeIter h it (lo + (i : Nat) * 1) ((n : Int) - (i : Nat)) 1) where
 mem := by simp
 obj := fun i h st b hb => by
  have e : b = it := by simpa using hb
  subst e
  exact ⟨_, st, fun v z => by
   have z' : Data.fields _ = Data.cell v := z
   cases z'⟩
 keep := fun i h h' st k => k it (by simp) _ st
 item := by
  intro X hP hw hK hc i pins s σ H E I hf st hg
  subst hP hw hK
  obtain ⟨f0, f1, f2, f3, f4, f5⟩ := hf it (by simp)
  have W := Walks.range (prog := X.prog) (w := X.w) (I.ok.hd hc) it lo 1 n
  refine W.item i s _ _ hg st fun v h' tk hv st' kk => ?_
  obtain ⟨t, rfl⟩ := hv
  have I1 : Inv X pins σ H { s with heap := h', toks := tk } := I.turned (fun b o hb e => kk b o (by simpa using hb) e) f0 f1 f3 f4 f5
  refine ⟨_, rfl, Zfz (s := { s with heap := h', toks := tk }) (n := "range_iterator") st' rfl rfl (by decide) ⟨.int (lo + i), H, I1, ⟨t, ?_⟩, ⟨rfl, rfl⟩, st', fun b hb => (hf b hb).1⟩⟩
  rw [Int.mul_one]
 done := by
  intro X hP hw hK hc i pins s σ H E I hf st hg
  subst hP hw hK
  obtain ⟨f0, f1, f2, f3, f4, f5⟩ := hf it (by simp)
  exact wpAny_pyNext_range_end (I.ok.hd hc) st (by have : n <= i := hg; omega) fun h' eb => ⟨rfl, I.turned (t' := s.toks) (fun b o hb e => eb b o hb e) f0 f1 f3 f4 f5⟩
 self := fun _ _ _ _ _ st h => wpAny_pyIter_rangeiter st h
section
noncomputable def Zpc (K : Fg) (tl : TE) : TI := fun σ H R => tl σ H fun x H1 => ∃ a, x = .ref a /\ (∃ xs, SqL K H1 a xs) /\ R (Itl K a) H1
noncomputable def iTup (K : Fg) (tl : TE) : TI := fun σ H R => tl σ H fun x H1 => ∃ a, x = .ref a /\ (∃ xs, SqT K H1 a xs) /\ R (Itt K a) H1
def ZgW (hl : PE X l tl) : PI X tg l (Zpc X.K tl) := by
 intro pins s σ H R I h
 refine thn (hl pins s σ H _ I h) fun v s1 z0 => ?_
 obtain ⟨x, H1, I1, r1, q1⟩ := z0
 obtain ⟨a, e, ⟨xs, hq⟩, q⟩ := q1
 subst e
 cases r1
 obtain ⟨its, rv, p, hz⟩ := I1.list hq
 refine wpAny_pyIter_list p.isList ?_
 refine ⟨s1.heap.objs.size, [s1.heap.objs.size], _, _, H1, rfl, I1.kept (t' := s1.toks) fun b o e => Heap.get?_push_of_some _ e, Zis a _, ⟨_, Heap.get?_push_size _ rfl, rfl, rfl⟩, fun b hb => ?_, q⟩
 have e : b = s1.heap.objs.size := by simpa using hb
 subst e
 exact I1.fpOk (Nat.le_refl _) (I1.hok.fresh (Nat.le_refl _))
def Zit (hl : PE X l tl) : PI X tg l (iTup X.K tl) := by
 intro pins s σ H R I h
 refine thn (hl pins s σ H _ I h) fun v s1 z0 => ?_
 obtain ⟨x, H1, I1, r1, q1⟩ := z0
 obtain ⟨a, e, ⟨xs, hq⟩, q⟩ := q1
 subst e
 cases r1
 obtain ⟨its, rv, p, hz⟩ := I1.tuple hq
 refine wpAny_pyIter_tuple (show s1.heap.IsTuple a its.toArray from p) ?_
 refine ⟨s1.heap.objs.size, [s1.heap.objs.size], _, _, H1, rfl, I1.kept (t' := s1.toks) fun b o e => Heap.get?_push_of_some _ e, Zh9 a _, ⟨_, Heap.get?_push_size _ rfl, rfl, rfl⟩, fun b hb => ?_, q⟩
 have e : b = s1.heap.objs.size := by simpa using hb
 subst e
 exact I1.fpOk (Nat.le_refl _) (I1.hok.fresh (Nat.le_refl _))
def Zf7 {σ : St} {R : It -> Hp -> Prop} {E : VS} {lo hi : Int} {t u v : Tok} {tk : Nat} (I : Inv X pins σ H s) (h1 : -(2 ^ 62) <= lo) (h2 : lo < 2 ^ 62) (h3 : -(2 ^ 62) <= hi) (h4 : hi < 2 ^ 62)
 (q : R (Itr lo (hi - lo).toNat) H) : wpAny (model X.prog X.w) X.A (pyIter (.ref s.heap.objs.size)) (PIE X pins σ tg R) E { s with heap := s.heap.push { cls := .type "range", data := .fields #[.int lo t, .int hi u, .int 1 v] }, toks := tk } := by
 refine wpAny_pyIter_range (IsRange.new ..) (small_one h1 h2 h3 h4) ?_
 have I1 : Inv X pins σ H { s with heap := s.heap.push { cls := .type "range", data := .fields #[.int lo t, .int hi u, .int 1 v] }, toks := tk } := I.kept fun b o e => Heap.get?_push_of_some _ e
 refine ⟨(s.heap.push { cls := .type "range", data := .fields #[.int lo t, .int hi u, .int 1 v] }).objs.size, [(s.heap.push { cls := .type "range", data := .fields #[.int lo t, .int hi u, .int 1 v] }).objs.size], _, _, H, rfl,
  I1.kept (t' := tk) fun b o e => Heap.get?_push_of_some _ e, ZhA _ lo (hi - lo).toNat, ?_, fun b hb => ?_, q⟩
 . have e1 : lo + ((0 : Nat) : Int) * 1 = lo := by simp
   have e2 : (((hi - lo).toNat : Nat) : Int) - ((0 : Nat) : Int) = Builtin.Range.rangeSize lo hi 1 := by rw [rangeSize_one]; split <;> omega
   show IsRangeIter _ _ (lo + ((0 : Nat) : Int) * 1) ((((hi - lo).toNat : Nat) : Int) - ((0 : Nat) : Int)) 1
   rw [e1, e2]
   exact Heap.get?_push_size _ rfl
 . have e : b = (s.heap.push { cls := .type "range", data := .fields #[.int lo t, .int hi u, .int 1 v] }).objs.size := by simpa using hb
   subst e
   exact I1.fpOk (Nat.le_refl _) (I1.hok.fresh (Nat.le_refl _))
noncomputable def Zpd (ta : TA) : TI := fun σ H R => ta σ H fun vs H1 => ∃ j : Int, vs = [.int j] /\ -(2 ^ 62) <= j /\ j < 2 ^ 62 /\ R (Itr 0 j.toNat) H1
noncomputable def Zpe (ta : TA) : TI := fun σ H R => ta σ H fun vs H1 => ∃ i j : Int, vs = [.int i, .int j] /\ (-(2 ^ 62) <= i /\ i < 2 ^ 62 /\ -(2 ^ 62) <= j /\ j < 2 ^ 62) /\ R (Itr i (j - i).toNat) H1
theorem Ziu {a : Expr} {ta : TA} {p : Pos} (hg : Gl X "range") (hm : X.mg "range" = none) (ha : PA X [a] ta) (hs : starEach [a] X.env = [(false, eval a X.env)] := by rfl) : PI X tg (.Call (.Name "range" p) [a] [] pos) (Zpd ta) := by
 intro pins s σ H R I h
 refine Call_ (Zcx I hg hm boot_range (PyProof.Rows.callWith_type1 (thn (ha pos pins s σ H _ I h) fun us s1 z0 => ?_) hs rfl))
 obtain ⟨vs, H1, I1, r1, q1⟩ := z0
 obtain ⟨j, e, q1, q2, q⟩ := q1
 subst e
 cases r1 with
 | cons r rr =>
  cases rr
  obtain ⟨t, rfl⟩ := r
  exact call_range_1 (Zf7 I1 (by omega) (by omega) q1 q2 (by simpa using q))
theorem Ziv (hg : Gl X "range") (hm : X.mg "range" = none) (ha : PA X [a, b] ta) (hs : starEach [a, b] X.env = [(false, eval a X.env), (false, eval b X.env)] := by rfl) (hs2 : starEach [b] X.env = [(false, eval b X.env)] := by rfl) :
 PI X tg (.Call (.Name "range" p) [a, b] [] pos) (Zpe ta) := by
 intro pins s σ H R I h
 refine Call_ (Zcx I hg hm boot_range (PyProof.Rows.callWith_type1 (thn (ha pos pins s σ H _ I h) fun us s1 z0 => ?_) (by show _ = _; rw [hs, hs2]) (by show _ = _; rw [hs2]; rfl)))
 obtain ⟨vs, H1, I1, r1, q1⟩ := z0
 obtain ⟨i, j, e, ⟨q1, q2, q3, q4⟩, q⟩ := q1
 subst e
 cases r1 with
 | cons r rr =>
  cases rr with
  | cons r' rr =>
   cases rr
   obtain ⟨t, rfl⟩ := r
   obtain ⟨t', rfl⟩ := r'
   exact call_range_2 (Zf7 I1 q1 q2 q3 q4 q)
def tFor (wi : TI) (g : TG) (tb : TS) : TS := fun D σ H => wi σ H fun J H1 => ∃ W : Nat -> Nat -> St -> Hp -> Prop, (∃ m, W 0 m σ H1) /\ ∀ i m σ H, W i m σ H ->
 (J.stop i H /\ D.nx σ H) \/ (J.go i H /\ ∃ N : St -> Hp -> Prop, (∀ σ' H', N σ' H' -> ∃ m', m' < m /\ W (i + 1) m' σ' H') /\ ∀ x H', J.yld i H x H' -> g x σ H' fun σ2 H2 => tb { D with nx := N, ct := N, bk := D.nx } σ2 H2)
noncomputable def Zcy (fp : List Addr) (h : Heap) : List (Addr × Obj) := fp.filterMap fun b => (h.get? b).map fun o => (b, o)
def ZaA (hb : b ∈ fp) (e : h.get? b = some o) : (b, o) ∈ Zcy fp h := List.mem_filterMap.mpr ⟨b, hb, by rw [e]; rfl⟩
theorem Ziw (hp : p ∈ Zcy fp h) : p.1 ∈ fp /\ h.get? p.1 = some p.2 := by
 obtain ⟨b, hb, e⟩ := List.mem_filterMap.mp hp
 cases q : h.get? b with
 | none => rw [q] at e; cases e
 | some o =>
  rw [q] at e
  have e' : (b, o) = p := Option.some.inj e
  subst e'
  exact ⟨hb, q⟩
def Inv.pinned (I : Inv X pins σ H s) (hf : ∀ b ∈ fp, FpOk X pins H b) (ho : ∀ b ∈ fp, ∃ o, s.heap.get? b = some o /\ ∀ v, o.data ≠ .cell v) : Inv X (pins ++ Zcy fp s.heap) σ H s :=
 I.pins_of fun p hp => (List.mem_append.mp hp).elim (fun z => I.pin p (List.mem_append_right _ z)) fun z => by
  obtain ⟨hb, e⟩ := Ziw z
  obtain ⟨f0, f1, f2, _⟩ := hf p.1 hb
  obtain ⟨o, e', d⟩ := ho p.1 hb
  rw [e] at e'; cases e'
  exact ⟨e, f0, f1, f2, d⟩
def Inv.unpinned (I : Inv X (pins ++ pl) σ H s) : Inv X pins σ H s := I.pins_of fun p hp => I.pin p (List.mem_append_right _ (List.mem_append_left _ hp))
def ZmU (hp : PassesOwn (model X.prog X.w) X.A X.env X.xe) (hc : X.calm = true) (hi : PI X tg iter wi) (hg : PG X tg g) (hb : PSs X body tb)
 (hs : ∀ x, foldedSetIterable iter X.env x = pure x := by intro _; rfl) : PS X (.For tg iter body [] pos) (tFor wi g tb) := by
 intro pins s σ H D I h
 refine wpAny_For (thn (hi pins s σ H _ I h) fun v s1 h1 => thn h1 fun itv s2 h2 => ?_) hs
 obtain ⟨it, fp, tn, J, H2, e, I2, T, st2, f2, W, ⟨m0, w0⟩, turn⟩ := h2
 subst e
 have stat : ∀ {H' : Hp}, (∀ b ∈ fp, H' b = none) -> ∀ b ∈ fp, FpOk X pins H' b := fun hn b hb => ⟨hn b hb, (f2 b hb).2⟩
 refine codeAny_forLoop_any (fun n s' => ∃ i σ' H', Inv X pins σ' H' s' /\ tn i s'.heap /\ (∀ b ∈ fp, H' b = none) /\ W i n σ' H') ?_ m0 ⟨0, σ, H2, I2, st2, fun b hb => (f2 b hb).1, w0⟩
 rintro n s3 ⟨i, σ3, H3, I3, st3, fr3, w3⟩
 rcases turn i n σ3 H3 w3 with ⟨stop, qn⟩ | ⟨go, N, hN, step⟩
 . refine wpAny_passesOwn hp (thn (T.done X rfl rfl rfl hc i pins s3 σ3 H3 X.xe I3 (stat fr3) st3 stop) fun r s4 z0 => ?_)
   obtain ⟨hr, I4⟩ := z0
   subst hr
   exact wpAny_execs_nil ⟨σ3, H3, I4, qn⟩
 . refine wpAny_passesOwn hp (thn (T.item X rfl rfl rfl hc i pins s3 σ3 H3 X.xe I3 (stat fr3) st3 go) fun r s4 z0 => ?_)
   obtain ⟨u, hr, h4⟩ := z0
   subst hr
   refine wpAny_passesOwn hp (thn h4 fun _ s5 z0 => ?_)
   obtain ⟨x, H5, I5, r5, y5, st5, fr5⟩ := z0
   have I5' := I5.pinned (stat fr5) (T.obj _ _ st5)
   refine wpAny_passesOwn hp (thn (hg _ s5 σ3 H5 x u _ I5' r5 (step x H5 y5)) fun _ s6 z0 => ?_)
   obtain ⟨σ6, H6, I6, q6⟩ := z0
   refine wpAny_passesOwn hp (thn (hb _ s6 σ6 H6 _ I6 q6) fun f s7 q7 => ?_)
   have again : ∀ {σ7 : St} {H7 : Hp}, Inv X (pins ++ Zcy fp s5.heap) σ7 H7 s7 -> N σ7 H7 -> ∃ m, m < n /\ ∃ i σ' H', Inv X pins σ' H' s7 /\ tn i s7.heap /\ (∀ b ∈ fp, H' b = none) /\ W i m σ' H' := fun {σ7 H7} I7 n7 => by
    obtain ⟨m', hm, w7⟩ := hN σ7 H7 n7
    refine ⟨m', hm, i + 1, σ7, H7, I7.unpinned, T.keep _ _ _ st5 fun b hb o e => (I7.pin (b, o) (List.mem_append_right _ (List.mem_append_right _ (ZaA hb e)))).1, fun b hb => ?_, w7⟩
    obtain ⟨o, e, d⟩ := T.obj _ _ st5 b hb
    exact (I7.pin (b, o) (List.mem_append_right _ (List.mem_append_right _ (ZaA hb e)))).2.1
   cases f with
   | next => obtain ⟨σ7, H7, I7, n7⟩ := q7; exact again I7 n7
   | cont => obtain ⟨σ7, H7, I7, n7⟩ := q7; exact again I7 n7
   | brk => obtain ⟨σ7, H7, I7, q7⟩ := q7; exact ⟨σ7, H7, I7.unpinned, q7⟩
   | ret v => obtain ⟨x7, σ7, H7, I7, r7, q7⟩ := q7; exact ⟨x7, σ7, H7, I7.unpinned, r7, q7⟩
end
abbrev R2 := V -> V -> Hp -> VK -> Prop
def OpR (X : Cx) (f : Value -> Value -> Sem Value) (r : R2) : Prop :=
 ∀ (pins : Pn) (s : Shared) (σ : St) (H : Hp) (x y : V) (v u : Value) (Q : VK), Inv X pins σ H s -> RelV x v -> RelV y u -> r x y H Q ->
  wpAny (model X.prog X.w) X.A (f v u) (EP X pins σ Q) X.xe s
def UnR (X : Cx) (f : Value -> Sem Value) (r : V -> Hp -> VK -> Prop) : Prop :=
 ∀ (pins : Pn) (s : Shared) (σ : St) (H : Hp) (x : V) (v : Value) (Q : VK), Inv X pins σ H s -> RelV x v -> r x H Q ->
  wpAny (model X.prog X.w) X.A (f v) (EP X pins σ Q) X.xe s
def ZI (X : Cx) (f : Value) (r : List V -> Hp -> VK -> Prop) : Prop :=
 ∀ (pins : Pn) (s : Shared) (σ : St) (H : Hp) (xs : List V) (us : List Value) (Q : VK), Inv X pins σ H s -> Vals xs us -> r xs H Q ->
  wpAny (model X.prog X.w) X.A (call f us) (EP X pins σ Q) X.xe s
def TruR (X : Cx) (r : V -> Hp -> (Bool -> Hp -> Prop) -> Prop) : Prop :=
 ∀ (pins : Pn) (s : Shared) (σ : St) (H : Hp) (x : V) (v : Value) (Q : Bool -> Hp -> Prop), Inv X pins σ H s -> RelV x v -> r x H Q ->
  wpAny (model X.prog X.w) X.A (truthy v) (TP X pins σ Q) X.xe s
def tOp (r : R2) (ta tb : TE) : TE := fun σ H Q => ta σ H fun x H1 => tb σ H1 fun y H2 => r x y H2 Q
def tUn (r : V -> Hp -> VK -> Prop) (ta : TE) : TE := fun σ H Q => ta σ H fun x H1 => r x H1 Q
def rI (C : Int -> Int -> Prop) (g : Int -> Int -> V) : R2 := fun x y H Q => ∃ i j, x = .int i /\ y = .int j /\ C i j /\ Q (g i j) H
def rI0 (g : Int -> Int -> V) : R2 := fun x y H Q => ∃ i j, x = .int i /\ y = .int j /\ Q (g i j) H
def rU (g : Int -> V) : V -> Hp -> VK -> Prop := fun x H Q => ∃ i, x = .int i /\ Q (g i) H
section
variable {a b c : Expr} {ta tb tc : TE}
def binT (ha : PE X a ta) (hb : PE X b tb) {σ : St} {R : V -> V -> Hp -> Prop} (I : Inv X pins σ H s)
 (h : ta σ H fun x H1 => tb σ H1 fun y H2 => R x y H2) {Q : VS} {f : Value -> Value -> Sem Value}
 (hf : ∀ v u s2 x y H2, Inv X pins σ H2 s2 -> RelV x v -> RelV y u -> R x y H2 -> wpAny (model X.prog X.w) X.A (f v u) Q X.xe s2) :
 wpAny (model X.prog X.w) X.A (eval a X.env) (fun v s₁ => wpAny (model X.prog X.w) X.A (eval b X.env) (fun u s₂ => wpAny (model X.prog X.w) X.A (f v u) Q X.xe s₂) X.xe s₁) X.xe s := by
 refine thn (ha pins s σ H _ I h) fun v s1 z0 => ?_
 obtain ⟨x, H1, I1, r1, q1⟩ := z0
 refine thn (hb pins s1 σ H1 _ I1 q1) fun u s2 z0 => ?_
 obtain ⟨y, H2, I2, r2, q2⟩ := z0
 exact hf v u s2 x y H2 I2 r1 r2 q2
def Zpf {op : Operator} {r : R2} (ho : OpR X (binaryOp op) r) (ha : PE X a ta) (hb : PE X b tb) : PE X (.BinOp a op b pos) (tOp r ta tb) := by
 intro pins s σ H Q I h
 exact wpAny_BinOp (binT ha hb I h fun v u s2 x y H2 I2 rx ry q => ho pins s2 σ H2 x y v u Q I2 rx ry q)
def Zpg (ho : UnR X (unaryOp op) r) (ha : PE X a ta) : PE X (.UnaryOp op a pos) (tUn r ta) := by
 intro pins s σ H Q I h
 exact UnaryOp_ (thn (ha pins s σ H _ I h) fun v s1 ⟨x, H1, I1, r1, q1⟩ => ho pins s1 σ H1 x v Q I1 r1 q1)
def opI {f : Value -> Value -> Sem Value} {C : Int -> Int -> Prop} {g : Int -> Int -> Int}
 (rule : ∀ (i j : Int) (t u : Tok) (s : Shared) (Q : VS) (E : VS), C i j -> Q (.int (g i j) s.toks) { s with toks := s.toks + 1 } -> wpAny (model X.prog X.w) X.A (f (.int i t) (.int j u)) Q E s) :
 OpR X f (rI C fun i j => .int (g i j)) := by
 intro pins s σ H x y v u Q I rx ry h
 obtain ⟨i, j, rfl, rfl, hc, q⟩ := h
 obtain ⟨t, rfl⟩ := rx
 obtain ⟨t', rfl⟩ := ry
 exact rule i j t t' s _ _ hc ⟨.int (g i j), H, I.tok _, ⟨_, rfl⟩, q⟩
def opI0 {f : Value -> Value -> Sem Value} {g : Int -> Int -> Int}
 (rule : ∀ (i j : Int) (t u : Tok) (s : Shared) (Q : VS) (E : VS), Q (.int (g i j) s.toks) { s with toks := s.toks + 1 } -> wpAny (model X.prog X.w) X.A (f (.int i t) (.int j u)) Q E s) :
 OpR X f (rI0 fun i j => .int (g i j)) := by
 intro pins s σ H x y v u Q I rx ry h
 obtain ⟨i, j, rfl, rfl, q⟩ := h
 obtain ⟨t, rfl⟩ := rx
 obtain ⟨t', rfl⟩ := ry
 exact rule i j t t' s _ _ ⟨.int (g i j), H, I.tok _, ⟨_, rfl⟩, q⟩
def opB0 {f : Value -> Value -> Sem Value} {g : Int -> Int -> Bool}
 (rule : ∀ (i j : Int) (t u : Tok) (s : Shared) (Q : VS) (E : VS), Q (.bool (g i j)) s -> wpAny (model X.prog X.w) X.A (f (.int i t) (.int j u)) Q E s) :
 OpR X f (rI0 fun i j => .bl (g i j)) := by
 intro pins s σ H x y v u Q I rx ry h
 obtain ⟨i, j, rfl, rfl, q⟩ := h
 obtain ⟨t, rfl⟩ := rx
 obtain ⟨t', rfl⟩ := ry
 exact rule i j t t' s _ _ ⟨.bl (g i j), H, I, rfl, q⟩
def CDiv (i j : Int) : Prop := 0 < j /\ j < 1073741824
def CPow (i j : Int) : Prop := 0 <= j /\ j <= 1000000 /\ i.natAbs < 2 ^ 64
def CMul (i j : Int) : Prop := (-(2 ^ 64) < i /\ i < 2 ^ 64) \/ (-(2 ^ 64) < j /\ j < 2 ^ 64)
def CMul.ok (h : CMul i j) : IntMulOk i j := by
 rcases h with ⟨h1, h2⟩ | ⟨h1, h2⟩
 . exact .of_left (intBits_le_64 h1 h2)
 . exact .of_right (intBits_le_64 h1 h2)
def ZmV : OpR X (binaryOp .Add) (rI0 fun i j => .int (i + j)) := opI0 fun _ _ _ _ _ _ _ q => add_int q
def ZmW : OpR X (binaryOp .Sub) (rI0 fun i j => .int (i - j)) := opI0 fun _ _ _ _ _ _ _ q => sub_int q
def ZmX : OpR X (binaryOp .Mult) (rI CMul fun i j => .int (i * j)) := opI fun _ _ _ _ _ _ _ hc q => mul_int q hc.ok
def Zlc : OpR X (binaryOp .FloorDiv) (rI CDiv fun i j => .int (i / j)) := opI fun i j _ _ _ _ _ hc q => by
 have h1 : (0 : Int) < j := hc.1
 have h2 : j < 1073741824 := hc.2
 exact floordiv_int (by omega) (by rw [Int.fdiv_eq_ediv_of_nonneg i (by omega)]; exact q) (.inl (PyProof.noPylong_small (by omega)))
def ZmY : OpR X (binaryOp .Mod) (rI (fun _ j => 0 < j) fun i j => .int (i % j)) := opI fun i j _ _ _ _ _ hc q => by
 have h1 : (0 : Int) < j := hc
 exact mod_int' (by omega) (by rw [Int.fmod_eq_emod_of_nonneg i (by omega)]; exact q)
def ZmZ : OpR X (binaryOp .Pow) (rI CPow fun i j => .int (i ^ j.toNat)) := opI fun _ _ _ _ _ _ _ hc q => pow_int_small hc.1 hc.2.1 hc.2.2 q
def unI {f : Value -> Sem Value} {g : Int -> Int}
 (rule : ∀ (i : Int) (t : Tok) (s : Shared) (Q : VS) (E : VS), Q (.int (g i) s.toks) { s with toks := s.toks + 1 } -> wpAny (model X.prog X.w) X.A (f (.int i t)) Q E s) :
 UnR X f (rU fun i => .int (g i)) := by
 intro pins s σ H x v Q I rx h
 obtain ⟨i, rfl, q⟩ := h
 obtain ⟨t, rfl⟩ := rx
 exact rule i t s _ _ ⟨.int (g i), H, I.tok _, ⟨_, rfl⟩, q⟩
def Zna : UnR X (unaryOp .USub) (rU fun i => .int (-i)) := unI fun _ _ _ _ _ q => neg_int q
end
noncomputable def scal : V -> V -> Bool
 | .non, .non => true | .non, .int _ => true | .int _, .non => true | .non, .bl _ => true | .bl _, .non => true | .non, .str _ => true | .str _, .non => true
 | .int _, .int _ => true | .bl _, .bl _ => true | .str _, .str _ => true | .byt _, .byt _ => true
 | .int _, .str _ => true | .str _, .int _ => true | .bl _, .str _ => true | .str _, .bl _ => true
 | _, _ => false
def rEq : R2 := fun x y H Q => scal x y = true /\ Q (.bl (decide (x = y))) H
def rNe : R2 := fun x y H Q => scal x y = true /\ Q (.bl (!decide (x = y))) H
def ZgX : decide (V.int i = V.int j) = (i == j) := by
 rw [Bool.eq_iff_iff]
 simp
def Zix : decide (V.bl i = V.bl j) = (i == j) := by
 rw [Bool.eq_iff_iff]
 simp
def ZgY : decide (V.str i = V.str j) = (i == j) := by
 rw [Bool.eq_iff_iff]
 simp
def ZgZ : decide (V.byt i = V.byt j) = (i.toList == j.toList) := by
 rw [Bool.eq_iff_iff]
 cases i
 cases j
 simp
section
variable {a b c : Expr} {ta tb tc : TE}
def Z1 (I : Inv X pins σ H s) (q : Q (.bl k) H) (e : k = k') : EP X pins σ Q (.bool k') s := by
 subst e
 exact ⟨.bl k, H, I, rfl, q⟩
theorem Zph : OpR X (compareOp .Eq) rEq := by
 intro pins s σ H x y v u Q I rx ry h
 obtain ⟨hs, q⟩ := h
 cases x with
 | non =>
  cases rx
  cases y with
  | non => cases ry; exact PySem.EqNone.eq_none_none (Z1 I q (by simp))
  | bl j => cases ry; exact PySem.EqNone.eq_none_bool (Z1 I q (by simp))
  | int j => obtain ⟨t', rfl⟩ := ry; exact PySem.EqNone.eq_none_int (Z1 I q (by simp))
  | str j => obtain ⟨t', rfl⟩ := ry; exact PySem.EqNone.eq_none_str (Z1 I q (by simp))
  | _ => exact absurd (show false = true from hs) Bool.false_ne_true
 | bl i =>
  cases rx
  cases y with
  | non => cases ry; exact PySem.EqNone.eq_bool_none (Z1 I q (by simp))
  | bl j => cases ry; exact eq_bool (Z1 I q Zix)
  | str j => obtain ⟨t', rfl⟩ := ry; exact PySem.EqMixed.eq_bool_str (Z1 I q (by simp))
  | _ => exact absurd (show false = true from hs) Bool.false_ne_true
 | int i =>
  obtain ⟨t, rfl⟩ := rx
  cases y with
  | non => cases ry; exact PySem.EqNone.eq_int_none (Z1 I q (by simp))
  | int j => obtain ⟨t', rfl⟩ := ry; exact eq_int (Z1 I q ZgX)
  | str j => obtain ⟨t', rfl⟩ := ry; exact PySem.EqMixed.eq_int_str (Z1 I q (by simp))
  | _ => exact absurd (show false = true from hs) Bool.false_ne_true
 | str i =>
  obtain ⟨t, rfl⟩ := rx
  cases y with
  | non => cases ry; exact PySem.EqNone.eq_str_none (Z1 I q (by simp))
  | bl j => cases ry; exact PySem.EqMixed.eq_str_bool (Z1 I q (by simp))
  | int j => obtain ⟨t', rfl⟩ := ry; exact PySem.EqMixed.eq_str_int (Z1 I q (by simp))
  | str j => obtain ⟨t', rfl⟩ := ry; exact eq_str (Z1 I q ZgY)
  | _ => exact absurd (show false = true from hs) Bool.false_ne_true
 | byt i =>
  obtain ⟨t, rfl⟩ := rx
  cases y with
  | byt j => obtain ⟨t', rfl⟩ := ry; exact PySem.W.eq_bytes (Z1 I q ZgZ)
  | _ => exact absurd (show false = true from hs) Bool.false_ne_true
 | _ => cases y <;> exact absurd (show false = true from hs) Bool.false_ne_true
theorem Zpi : OpR X (compareOp .NotEq) rNe := by
 intro pins s σ H x y v u Q I rx ry h
 obtain ⟨hs, q⟩ := h
 cases x with
 | non =>
  cases rx
  cases y with
  | non => cases ry; exact PySem.EqNone.ne_none_none (Z1 I q (by simp))
  | bl j => cases ry; exact PySem.EqNone.ne_none_bool (Z1 I q (by simp))
  | int j => obtain ⟨t', rfl⟩ := ry; exact PySem.EqNone.ne_none_int (Z1 I q (by simp))
  | str j => obtain ⟨t', rfl⟩ := ry; exact PySem.EqNone.ne_none_str (Z1 I q (by simp))
  | _ => exact absurd (show false = true from hs) Bool.false_ne_true
 | bl i =>
  cases rx
  cases y with
  | non => cases ry; exact PySem.EqNone.ne_bool_none (Z1 I q (by simp))
  | bl j => cases ry; exact ne_bool (Z1 I q (congrArg not Zix))
  | str j => obtain ⟨t', rfl⟩ := ry; exact PySem.EqMixed.ne_bool_str (Z1 I q (by simp))
  | _ => exact absurd (show false = true from hs) Bool.false_ne_true
 | int i =>
  obtain ⟨t, rfl⟩ := rx
  cases y with
  | non => cases ry; exact PySem.EqNone.ne_int_none (Z1 I q (by simp))
  | int j => obtain ⟨t', rfl⟩ := ry; exact ne_int (Z1 I q (congrArg not ZgX))
  | str j => obtain ⟨t', rfl⟩ := ry; exact PySem.EqMixed.ne_int_str (Z1 I q (by simp))
  | _ => exact absurd (show false = true from hs) Bool.false_ne_true
 | str i =>
  obtain ⟨t, rfl⟩ := rx
  cases y with
  | non => cases ry; exact PySem.EqNone.ne_str_none (Z1 I q (by simp))
  | bl j => cases ry; exact PySem.EqMixed.ne_str_bool (Z1 I q (by simp))
  | int j => obtain ⟨t', rfl⟩ := ry; exact PySem.EqMixed.ne_str_int (Z1 I q (by simp))
  | str j => obtain ⟨t', rfl⟩ := ry; exact ne_str (Z1 I q (congrArg not ZgY))
  | _ => exact absurd (show false = true from hs) Bool.false_ne_true
 | byt i =>
  obtain ⟨t, rfl⟩ := rx
  cases y with
  | byt j => obtain ⟨t', rfl⟩ := ry; exact PySem.W.ne_bytes (Z1 I q (congrArg not ZgZ))
  | _ => exact absurd (show false = true from hs) Bool.false_ne_true
 | _ => cases y <;> exact absurd (show false = true from hs) Bool.false_ne_true
def Zpj : OpR X (compareOp .Lt) (rI0 fun i j => .bl (decide (i < j))) := opB0 fun _ _ _ _ _ _ _ q => lt_int q
def Zpk : OpR X (compareOp .LtE) (rI0 fun i j => .bl (decide (i <= j))) := opB0 fun _ _ _ _ _ _ _ q => le_int q
def Zpl : OpR X (compareOp .Gt) (rI0 fun i j => .bl (decide (j < i))) := opB0 fun _ _ _ _ _ _ _ q => gt_int q
def Zpm : OpR X (compareOp .GtE) (rI0 fun i j => .bl (decide (j <= i))) := opB0 fun _ _ _ _ _ _ _ q => ge_int q
def nomark (b : Expr) (h : op ≠ .In := by decide) (h2 : op ≠ .NotIn := by decide) : behindInMarks op b = false := by
 have e1 : (op == CmpOp.In) = false := by cases op <;> first | rfl | exact absurd rfl h
 have e2 : (op == CmpOp.NotIn) = false := by cases op <;> first | rfl | exact absurd rfl h2
 cases b <;> simp [behindInMarks, e1, e2]
def Zld (ho : OpR X (compareOp op) r) (ha : PE X a ta) (hb : PE X b tb) (hm : behindInMarks op b = false) : PE X (.Compare a [op] [b] pos) (tOp r ta tb) := by
 intro pins s σ H Q I h
 exact wpAny_Compare1 (binT ha hb I h fun v u s2 x y H2 I2 rx ry q => ho pins s2 σ H2 x y v u Q I2 rx ry q) hm
def Zpn (t : TE) : TT := fun σ H Q => t σ H fun x H' => ∃ k, x = .bl k /\ Q k H'
def Zle (ho : OpR X (compareOp op) r) (ha : PE X a ta) (hb : PE X b tb) (hm : behindInMarks op b = false) : PT X (.Compare a [op] [b] pos) (Zpn (tOp r ta tb)) := by
 intro pins s σ H Q I h
 refine wpAny_isTrue_Compare1 (thn (ha pins s σ H _ I h) fun v s1 ⟨x, H1, I1, r1, q1⟩ => thn (hb pins s1 σ H1 _ I1 q1) fun u s2 ⟨y, H2, I2, r2, q2⟩ =>
  thn (ho pins s2 σ H2 x y v u _ I2 r1 r2 q2) fun c s3 ⟨z, H3, I3, r3, k, e, q3⟩ => ?_) hm
 subst e
 cases r3
 exact wpAny_truthy_bool ⟨H3, I3, q3⟩
def Ziy (r r' : R2) (ta tb tc : TE) : TE := fun σ H Q => ta σ H fun x H1 => tb σ H1 fun y H2 => r x y H2 fun z H3 => ∃ k, z = .bl k /\
 (if k = true then tc σ H3 fun w' H4 => r' y w' H4 Q else Q (.bl false) H3)
theorem Zjl (ho : OpR X (compareOp op) r) (ho' : OpR X (compareOp op') r') (ha : PE X a ta) (hb : PE X b tb) (hc : PE X c tc)
 (hm : lastMarks [op, op'] [b, c] = false := by with_unfolding_all rfl) : PE X (.Compare a [op, op'] [b, c] pos) (Ziy r r' ta tb tc) := by
 intro pins s σ H Q I h
 refine Compare_chain (thn (ha pins s σ H _ I h) fun v s1 ⟨x, H1, I1, r1, q1⟩ => chain_link (thn (hb pins s1 σ H1 _ I1 q1) fun u s2 ⟨y, H2, I2, r2, q2⟩ =>
  thn (ho pins s2 σ H2 x y v u _ I2 r1 r2 q2) fun d s3 ⟨z, H3, I3, r3, k, e, q3⟩ => ?_)) hm
 subst e
 cases r3
 refine wpAny_truthy_bool ?_
 cases k with
 | false => exact ite_ff ⟨.bl false, H3, I3, rfl, q3⟩
 | true => exact ite_tt (chain_last (thn (hc pins s3 σ H3 _ I3 q3) fun w' s4 ⟨z', H4, I4, r4, q4⟩ => ho' pins s4 σ H4 y z' u w' Q I4 r2 r4 q4))
def TruV (K : Fg) (x : V) (H : Hp) (k : Bool) : Prop :=
 match x with
 | .non => k = false
 | .bl b => k = b
 | .int i => k = (i != 0)
 | .str y => y.length <= sizeLine /\ k = ((y.length : Int) != 0)
 | .byt y => y.size <= sizeLine /\ k = ((y.size : Int) != 0)
 | .ref p => (∃ xs, SqL K H p xs /\ k = !xs.isEmpty) \/ (∃ xs, SqT K H p xs /\ k = !xs.isEmpty) \/ ∃ kvs, H p = some (.dK kvs) /\ k = !kvs.isEmpty
 | _ => False
def ZhB (r : KV kvs vs) : (!vs.isEmpty) = !kvs.isEmpty := by
 cases r <;> rfl
def Zec (r : Vals xs its) : (!its.toArray.isEmpty) = !xs.isEmpty := by
 cases r <;> simp
def ZbQ : (sizeLine : Nat) < 2 ^ 63 := by rw [sizeLine_eq]; decide
theorem Znb : TruR X (fun x H Q => ∃ k, TruV X.K x H k /\ Q k H) := by
 intro pins s σ H x v Q I rx h
 obtain ⟨k, e, q⟩ := h
 have hl := ZbQ
 have hs : sizeLine = 16777216 := sizeLine_eq
 cases x with
 | non =>
  cases rx
  have e' : k = false := e
  subst e'
  exact truthy_none ⟨H, I, q⟩
 | bl b =>
  cases rx
  have e' : k = b := e
  subst e'
  exact wpAny_truthy_bool ⟨H, I, q⟩
 | int i =>
  obtain ⟨t, rfl⟩ := rx
  have e' : k = (i != 0) := e
  subst e'
  exact PySem.P.truthy_int ⟨H, I, q⟩
 | str y =>
  obtain ⟨t, rfl⟩ := rx
  obtain ⟨hy, e'⟩ : y.length <= sizeLine /\ k = ((y.length : Int) != 0) := e
  subst e'
  exact PySem.P.truthy_str (by omega) ⟨H, I.tok _, q⟩
 | byt y =>
  obtain ⟨t, rfl⟩ := rx
  obtain ⟨hy, e'⟩ : y.size <= sizeLine /\ k = ((y.size : Int) != 0) := e
  subst e'
  exact PySem.W.truthy_bytes (by omega) ⟨H, I.tok _, q⟩
 | ref p =>
  cases rx
  have e' : (∃ xs, SqL X.K H p xs /\ k = !xs.isEmpty) \/ (∃ xs, SqT X.K H p xs /\ k = !xs.isEmpty) \/ ∃ kvs, H p = some (.dK kvs) /\ k = !kvs.isEmpty := e
  rcases e' with ⟨xs, hx, e'⟩ | ⟨xs, hx, e'⟩ | ⟨kvs, hx, e'⟩
  . subst e'
    obtain ⟨its, r, pl, hz⟩ := I.list hx
    have hlen := r.length
    exact wpAny_truthy_list pl.isList (by simp only [List.size_toArray]; omega) ⟨H, I.tok _, by rw [Zec r]; exact q⟩
  . subst e'
    obtain ⟨its, r, pl, hz⟩ := I.tuple hx
    have hlen := r.length
    exact truthy_tuple pl (by simp only [List.size_toArray]; omega) ⟨H, I.tok _, by rw [Zec r]; exact q⟩
  . subst e'
    obtain ⟨hz, hS, vs, r, m⟩ : kvs.length <= sizeLine /\ (p == sysModules) = false /\ ∃ vs, KV kvs vs /\ s.heap.DictOf (ZQ X.prog X.w) p vs := I.hok p _ hx
    have hlen : kvs.length = vs.length := Paired.length r
    exact wpAny_truthy_dict hS m (by omega) ⟨H, I.tok _, by rw [ZhB r]; exact q⟩
 | _ => exact (show False from e).elim
def Zjm (ha : PE X a ta) (he : ∀ whole, isTrue a X.env whole = (do let v <- whole; standAt a.pos; holding [v] (truthy v))) :
 PT X a (fun σ H Q => ta σ H fun x H' => ∃ k, TruV X.K x H' k /\ Q k H') := by
 intro pins s σ H Q I h
 exact isTrue_plain (thn (ha pins s σ H _ I h) fun v s1 ⟨x, H1, I1, r1, q1⟩ => Znb pins s1 σ H1 x v Q I1 r1 q1) (he _)
def ZhC : OpR X (binaryOp .Add) (fun x y H Q => ∃ i j, x = .str i /\ y = .str j /\ i.length + j.length <= sizeLine /\ Q (.str (i ++ j)) H) := by
 intro pins s σ H x y v u Q I rx ry h
 obtain ⟨i, j, rfl, rfl, hz, q⟩ := h
 obtain ⟨t, rfl⟩ := rx
 obtain ⟨t', rfl⟩ := ry
 exact add_str (fun t' tk => ⟨.str (i ++ j), H, I.tok _, ⟨_, rfl⟩, q⟩) hz
theorem ZcH (r : Vals [x] us) : ∃ u, us = [u] /\ RelV x u := by
 cases r with
 | cons r1 r2 => cases r2; exact ⟨_, rfl, r1⟩
def ZeW : ZI X (.type "int") (fun xs H Q => (∃ i, xs = [.int i] /\ Q (.int i) H) \/ ∃ k, xs = [.bl k] /\ Q (.int (if k then 1 else 0)) H) := by
 intro pins s σ H xs us Q I r h
 rcases h with ⟨i, rfl, q⟩ | ⟨k, rfl, q⟩
 . obtain ⟨u, rfl, t, rfl⟩ := ZcH r
   exact call_int_int ⟨.int i, H, I, ⟨_, rfl⟩, q⟩
 . obtain ⟨u, rfl, r1⟩ := ZcH r
   cases r1
   exact call_int_bool ⟨.int (if k then 1 else 0), H, I.tok _, ⟨_, rfl⟩, q⟩
def Zf8 : ZI X (.type "str") (fun xs H Q => ∃ i, xs = [.int i] /\ i.natAbs.log2 < 1920 /\ Q (.str (toString i)) H) := by
 intro pins s σ H xs us Q I r h
 obtain ⟨i, rfl, hz, q⟩ := h
 obtain ⟨u, rfl, t, rfl⟩ := ZcH r
 exact PySem.P.str_of_int hz ⟨.str _, H, I.tok _, ⟨_, rfl⟩, q⟩
end
structure ObjM (h : Heap) (x dx C : Addr) (mA : SO) : Prop where
 obj : h.get? x = some (PySem.W.instObj C dx)
 ns : h.Ns1 dx mA
 ne : dx ≠ x
def ZeX {dx : Addr} (n : h.Ns1 dx mA) : ∃ od, h.get? dx = some od /\ ∀ name, PySem.W.lookIn name od = some (mA name) := by
 obtain ⟨o, es, ep, ho, hd, hk, _, hm⟩ := n
 refine ⟨o, ho, fun name => ?_⟩
 have e := hm name
 unfold nsFind findBy at e
 rw [<- Array.find?_toList] at e
 unfold PySem.W.lookIn
 rw [hd]
 dsimp only
 split
 . rename_i y q
   rw [q] at e
   exact congrArg some e
 . rename_i q
   rw [q] at e
   have a : es.toList.any (·.refKey) = false := by
    rw [List.any_eq_false]
    intro y hy
    obtain ⟨z, t, hkey⟩ := hk y (Array.mem_toList_iff.mp hy)
    simp [DictEntry.refKey, hkey]
   have a' : ¬ es.toList.any (·.refKey) = true := by rw [a]; exact Bool.false_ne_true
   rw [if_neg a']
   exact congrArg some e
def ObjM.look (I : ObjM h x dx C mA) : ∃ od, PySem.W.InstAt h x (PySem.W.instObj C dx) C (some od) /\ ∀ name, PySem.W.lookIn name od = some (mA name) :=
 let ⟨od, ho, hl⟩ := ZeX I.ns
 ⟨od, ⟨I.obj, rfl, rfl, ho⟩, hl⟩
section
variable {prog : Program} {w : World} {A : Around} {E : VS} {K : Fg} {x dx C f : Addr} {v : Value}
def Zlf (X : K.In s.heap) (I : ObjM s.heap x dx C mA) (hg : PySem.W.plainGet K C name = true) (hh : PySem.W.hasDictIn K C = true)
 (ha : PySem.W.findIn K (.ref C) name = some none) (hv : mA name = some v) (hv' : PySem.W.handedIn v = true) (h : Q v { s with toks := s.toks + 1 }) :
 wpAny (model prog w) A (getAttr (.ref x) name expr) Q E s := by
 obtain ⟨od, J, hl⟩ := I.look
 exact PySem.W.get_value X J (PySem.W.plainGet_of hg).1 (PySem.W.findObj_own hh ha rfl (by rw [hl, hv])) hv' h
def Zjn (X : K.In s.heap) (I : ObjM s.heap x dx C mA) (hg : PySem.W.plainGet K C name = true)
 (hf : PySem.W.findIn K (.ref C) name = some (some (.ref f))) (ht : PySem.W.isFn K (.ref f) = true) (hv : mA name = none) (h : Q (.ref f, [.ref x]) s) :
 wpAny (model prog w) A (getMethod (.ref x) name pl) Q E s := by
 obtain ⟨od, J, hl⟩ := I.look
 exact PySem.W.method_fn X J (PySem.W.plainGet_of hg).1 (PySem.W.plainGet_of hg).2 hf (beq_iff_eq.mp ht) (by show (PySem.W.lookIn name od).map (·.isSome) = some false; rw [hl, hv]; rfl) h
def Zlg (X : K.In s.heap) (I : ObjM s.heap x dx C mA)
 (hs : PySem.W.findIn K (.ref C) "__setattr__" = some (some (.builtin "object.__setattr__"))) (hp : PySem.W.plainOver K C = true) (ht : PySem.W.takerIn K C name = some none) (hh : PySem.W.hasDictIn K C = true)
 (hw : PySem.Within mA ns) (hsz : ns.length <= sizeLine)
 (h : ∀ h', ObjM h' x dx C (fun y => if y = name then some v else mA y) -> Heap.SameBut dx s.heap h' -> Q () { s with heap := h', toks := s.toks + 2 }) :
 wpAny (model prog w) A (setAttr (.ref x) name v) Q E s := by
 obtain ⟨od, J, hl⟩ := I.look
 refine PySem.W.set_plain X J hs (PySem.W.osa_open (s := { s with toks := s.toks + 1 }) (r := none) X J hp ht fun b => ?_)
 obtain ⟨cd, hc, hd'⟩ := PySem.W.any_some hh
 have hx : s.heap.get? x = some ⟨.ref C, some dx, .plain, #[]⟩ := I.obj
 refine wpAny_bind (wpAny_pure (wpAny_bind (wpAny_bind (wpAny_loadPart hx (wpAny_bind (PySem.W.Looks.here (s := { s with toks := s.toks + 1 }) (PySem.W.looks_clsIn X hc) ?_))))))
 rw [hd']
 refine wpAny_pure (a := some dx) (wpAny_bind (wpAny_pure (wpAny_bind ?_)))
 refine wpAny_nsSet1 (s := { s with toks := s.toks + 1 }) I.ns fun h' hn2 hs2 => ?_
 obtain ⟨oD, esD, epD, hoD, hdD, hcD⟩ := hn2.count (PySem.Within.cons name v hw)
 refine wpAny_bind (wpAny_lookBehind hoD (by rw [hdD]; exact pastItsLine_dict (Nat.le_trans hcD (by rw [List.length_cons]; omega))) ?_)
 exact wpAny_pure (h _ ⟨(hs2.2 _ (Ne.symm I.ne)).trans I.obj, hn2, I.ne⟩ hs2)
def Zjo (X : K.In s.heap) (hm : PySem.W.makesIn K C = true)
 (hi : PySem.W.findIn K (.ref C) "__init__" = some (some (.ref f))) (hf : PySem.W.typeIn K (.ref f) = some (.type "function"))
 (h : codeAny (model prog w) (A.under (.builtin "type.__call__" ⟨.ref C :: vs, kw⟩)) (.call (.ref f) ⟨.ref (s.heap.objs.size + 1) :: vs, kw⟩) (PySem.W.InitBack (s.heap.objs.size + 1) R)
  { s with heap := (s.heap.push PySem.W.emptyDict).push (PySem.W.instObj C s.heap.objs.size) }) :
 codeAny (model prog w) A (.call (.ref C) ⟨vs, kw⟩) R s := by
 obtain ⟨hh, g, d, t, os⟩ := s
 exact PySem.W.make_core (PySem.W.makes_of X hm) (PySem.W.looks_findIn X hi) (fun self => PySem.W.bind_fn X self hf) (.inl rfl) h
end
noncomputable def putF (f : Str) (v : V) : List (Str × V) -> List (Str × V)
 | [] => [(f, v)]
 | (g, x) :: r => if g = f then (g, v) :: r else (g, x) :: putF f v r
theorem Zct (f g : Str) (v : V) : ∀ fs : List (Str × V), (putF f v fs).lookup g = if g = f then some v else fs.lookup g
 | [] => by
  show List.lookup g [(f, v)] = _
  by_cases h : g = f
  . have hb : (g == f) = true := beq_iff_eq.mpr h
    simp only [List.lookup, hb, if_pos h]
  . have hb : (g == f) = false := beq_eq_false_iff_ne.mpr h
    simp only [List.lookup, hb, if_neg h]
 | (k, x) :: r => by
  have ih := Zct f g v r
  rw [show putF f v ((k, x) :: r) = (if k = f then (k, v) :: r else (k, x) :: putF f v r) from rfl]
  by_cases hk : k = f
  . rw [if_pos hk]
    by_cases h : g = k
    . have hb : (g == k) = true := beq_iff_eq.mpr h
      simp only [List.lookup, hb, if_pos (h.trans hk)]
    . have hb : (g == k) = false := beq_eq_false_iff_ne.mpr h
      simp only [List.lookup, hb, if_neg (fun e : g = f => h (e.trans hk.symm))]
  . rw [if_neg hk]
    by_cases h : g = k
    . have hb : (g == k) = true := beq_iff_eq.mpr h
      simp only [List.lookup, hb, if_neg (fun e : g = f => hk (h.symm.trans e))]
    . have hb : (g == k) = false := beq_eq_false_iff_ne.mpr h
      simp only [List.lookup, hb]
      exact ih
theorem Zb4 (f : Str) (v : V) : ∀ fs : List (Str × V), f ∈ (putF f v fs).map (·.1) /\ ∀ g, g ∈ fs.map (·.1) -> g ∈ (putF f v fs).map (·.1)
 | [] => ⟨by simp [putF], fun g h => by simp at h⟩
 | (k, x) :: r => by
  obtain ⟨i1, i2⟩ := Zb4 f v r
  rw [show putF f v ((k, x) :: r) = (if k = f then (k, v) :: r else (k, x) :: putF f v r) from rfl]
  by_cases hk : k = f
  . rw [if_pos hk]
    subst hk
    exact ⟨by simp, fun g h => by simpa using h⟩
  . rw [if_neg hk]
    refine ⟨?_, fun g h => ?_⟩
    . rw [List.map_cons]
      exact List.mem_cons_of_mem _ i1
    . rw [List.map_cons] at h ⊢
      rcases List.mem_cons.mp h with e | e
      . exact List.mem_cons.mpr (.inl e)
      . exact List.mem_cons_of_mem _ (i2 g e)
theorem Zcu (f : Str) (v : V) : ∀ fs : List (Str × V), (putF f v fs).length <= fs.length + 1
 | [] => by simp [putF]
 | (k, x) :: r => by
  have ih := Zcu f v r
  rw [show putF f v ((k, x) :: r) = (if k = f then (k, v) :: r else (k, x) :: putF f v r) from rfl]
  by_cases hk : k = f
  . rw [if_pos hk, List.length_cons, List.length_cons]; omega
  . rw [if_neg hk, List.length_cons, List.length_cons]; omega
theorem RelO.some_of (r : RelO (some v) o) : ∃ u, o = some u /\ RelV v u := by
 cases o with
 | none => exact (show False from r).elim
 | some u => exact ⟨u, rfl, r⟩
theorem RelO.none_of (r : RelO none o) : o = none := by
 cases o with
 | none => rfl
 | some u => exact (show False from r).elim
theorem ZeY (r : RelV v u) : PySem.W.handedIn u = true := by
 cases v with
 | non => cases (show u = Value.none from r); rfl
 | bl b => cases (show u = Value.bool b from r); rfl
 | int i => obtain ⟨t, e⟩ := (show ∃ t, u = Value.int i t from r); cases e; rfl
 | str x => obtain ⟨t, e⟩ := (show ∃ t, u = Value.str x t from r); cases e; rfl
 | byt b => obtain ⟨t, e⟩ := (show ∃ t, u = Value.bytes b t from r); cases e; rfl
 | flt b => obtain ⟨t, e⟩ := (show ∃ t, u = Value.float b t from r); cases e; rfl
 | ref a => cases (show u = Value.ref a from r); rfl
 | ty n => cases (show u = Value.type n from r); rfl
section
def Zd7 (hok : HOk P w H h) (e : H a = some (.ins C dx fs)) : ∃ mA, ObjM h a dx C mA /\ (∀ f, RelO (fs.lookup f) (mA f)) /\ PySem.Within mA (fs.map (·.1)) /\ fs.length <= 1000 /\ H dx = some (.own a) := by
 obtain ⟨d, z, ne, ob, mA, n, r, q⟩ := (show Z7 P w H h a (.ins C dx fs) from hok a _ e)
 exact ⟨mA, ⟨ob, n, ne⟩, r, q, z, d⟩
end
structure Cls (K : Fg) (C : Addr) : Prop where
 pg : PySem.W.plainGet K C Str.empty = true
 hd : PySem.W.hasDictIn K C = true
 po : PySem.W.plainOver K C = true
 sa : PySem.W.findIn K (.ref C) "__setattr__" = some (some (.builtin "object.__setattr__"))
def Cls.get {K : Fg} {C : Addr} (c : Cls K C) (f : Str) : PySem.W.plainGet K C f = true := c.pg
def ZJ (K : Fg) (C : Addr) (f : Str) : Prop := PySem.W.findIn K (.ref C) f = some none
def ZJ.taker {K : Fg} {C : Addr} {f : Str} (n : ZJ K C f) : PySem.W.takerIn K C f = some none := by
 unfold PySem.W.takerIn
 rw [show PySem.W.findIn K (.ref C) f = some none from n]
 rfl
structure Meth (K : Fg) (C : Addr) (m : Str) (f : Addr) : Prop where
 at_ : PySem.W.findIn K (.ref C) m = some (some (.ref f))
 fn : PySem.W.isFn K (.ref f) = true
 kp : PySem.W.keepIn K (.ref f) = true
section
def ZhD (I : Inv X pins σ H s) (e : H a = some (.ins C dx fs)) (c : Cls X.K C) (n : ZJ X.K C f) (l : fs.lookup f = some v)
 (h : ∀ u s', Inv X pins σ H s' -> RelV v u -> Q u s') : wpAny (model X.prog X.w) A (getAttr (.ref a) f b) Q E s := by
 obtain ⟨mA, O, r, _, _, _⟩ := Zd7 I.hok e
 obtain ⟨u, hu, ru⟩ := RelO.some_of (v := v) (o := mA f) (by rw [<- l]; exact r f)
 exact Zlf I.kIn O (c.get f) c.hd n hu (ZeY ru) (h u _ (I.tok _) ru)
def Zed (I : Inv X pins σ H s) (e : H a = some (.ins C dx fs)) (c : Cls X.K C) (k : Meth X.K C m g) (l : fs.lookup m = none)
 (h : Q (.ref g, [.ref a]) s) : wpAny (model X.prog X.w) A (getMethod (.ref a) m pl) Q E s := by
 obtain ⟨mA, O, r, _, _, _⟩ := Zd7 I.hok e
 have hn : mA m = none := RelO.none_of (by rw [<- l]; exact r m)
 exact Zjn I.kIn O (c.get m) k.at_ k.fn hn h
def ZhE (I : Inv X pins σ H s) (e : H a = some (.ins C dx fs)) (c : Cls X.K C) (n : ZJ X.K C f) (hl : fs.length < 1000) (ry : RelV y u)
 (h : ∀ s', Inv X pins σ (upd H a (.ins C dx (putF f y fs))) s' -> Q () s') : wpAny (model X.prog X.w) A (setAttr (.ref a) f u) Q E s := by
 obtain ⟨mA, O, r, wi, _, ho⟩ := Zd7 I.hok e
 have hz : (fs.map (·.1)).length <= sizeLine := by rw [List.length_map, sizeLine_eq]; omega
 refine Zlg I.kIn O c.sa c.po n.taker c.hd wi hz fun h' O' sb => h _ ?_
 have hd : ∃ o, h'.get? dx = some o := let ⟨o, _, _, e', _⟩ := O'.ns; ⟨o, e'⟩
 refine I.write (x := a) (e := dx) (by rw [e]; exact True.intro) (.inr ho) (fun b q hb z => (sb.2 b hb).trans z) hd ?_
 refine ⟨by rw [Zk O.ne]; exact ho, ?_, O.ne, O'.obj, _, O'.ns, fun g => ?_, fun g hg => ?_⟩
 . have := Zcu f y fs; omega
 . show RelO ((putF f y fs).lookup g) (if g = f then some u else mA g)
   rw [Zct]
   by_cases q : g = f
   . rw [if_pos q, if_pos q]; exact ry
   . rw [if_neg q, if_neg q]; exact r g
 . by_cases q : g = f
   . rw [q]; exact (Zb4 f y fs).1
   . refine (Zb4 f y fs).2 g (wi g fun z => hg ?_)
     show (if g = f then some u else mA g) = none
     rw [if_neg q]; exact z
def Inv.made (I : Inv X pins σ H s) : Inv X pins σ (upd (upd H s.heap.objs.size (.own (s.heap.objs.size + 1))) (s.heap.objs.size + 1) (.ins C s.heap.objs.size []))
 { s with heap := (s.heap.push PySem.W.emptyDict).push (PySem.W.instObj C s.heap.objs.size) } := by
 have e1 : (s.heap.push PySem.W.emptyDict).get? s.heap.objs.size = some PySem.W.emptyDict := Heap.get?_push_size s.heap rfl
 have e2 : ((s.heap.push PySem.W.emptyDict).push (PySem.W.instObj C s.heap.objs.size)).get? (s.heap.objs.size + 1) = some (PySem.W.instObj C s.heap.objs.size) := by
  have := Heap.get?_push_size (s.heap.push PySem.W.emptyDict) (o := PySem.W.instObj C s.heap.objs.size) rfl
  rwa [Heap.size_push] at this
 have e3 : (s.heap.push PySem.W.emptyDict).Ns s.heap.objs.size (fun _ => none) := ⟨PySem.W.emptyDict, #[], _, e1, rfl, (fun e he => absurd he (by simp)), fun _ => rfl⟩
 have I1 := I.laid (a := s.heap.objs.size) (o := .own (s.heap.objs.size + 1)) (h' := s.heap.push PySem.W.emptyDict) (t' := s.toks) (fun b u q => Heap.get?_push_of_some _ q) (Nat.le_refl _) ⟨_, e1⟩
 refine I1.laid (a := s.heap.objs.size + 1) (o := .ins C s.heap.objs.size []) (t' := s.toks) (fun b u q => Heap.get?_push_of_some _ q) (Nat.le_of_eq (Heap.size_push _ _)) ?_
 have ne : s.heap.objs.size ≠ s.heap.objs.size + 1 := Nat.ne_of_lt (Nat.lt_succ_self _)
 refine ⟨by rw [Zk ne, Zl], Nat.zero_le _, ne, e2, fun _ => none, (Heap.Ns1.of_empty e3).at fun o q => Heap.get?_push_of_some _ q, fun _ => True.intro, fun y hy => absurd rfl hy⟩
def Zha (hb : attributeBase e f env (eval e env) = eval e env)
 (h : wpAny (model prog w) A (eval e env) (fun o s₁ => wpAny (model prog w) A (getAttr o f true) Q E s₁) E s) : wpAny (model prog w) A (eval (.Attribute e f pos) env) Q E s :=
 Attribute_any_ h (by rw [arm_eval_Attribute, hb])
end
def tFld (K : Fg) (ta : TE) (f : Str) : TE := fun σ H Q => ta σ H fun x H1 => ∃ a C dx fs v, x = .ref a /\ H1 a = some (.ins C dx fs) /\ Cls K C /\ ZJ K C f /\ fs.lookup f = some v /\ Q v H1
def sFld (K : Fg) (ta tv : TE) (f : Str) : TS := fun D σ H => tv σ H fun y H1 => ta σ H1 fun x H2 => ∃ a C dx fs, x = .ref a /\ H2 a = some (.ins C dx fs) /\ Cls K C /\ ZJ K C f /\ fs.length < 1000 /\
 D.nx σ (upd H2 a (.ins C dx (putF f y fs)))
section
def Znc (he : PE X e ta) (hb : attributeBase e f X.env (eval e X.env) = eval e X.env) : PE X (.Attribute e f pos) (tFld X.K ta f) := by
 intro pins s σ H Q I h
 refine Zha hb (thn (he pins s σ H _ I h) fun u s1 z0 => ?_)
 obtain ⟨x, H1, I1, rx, a, C, dx, fs, v, ex, ea, c, n, l, q⟩ := z0
 subst ex
 obtain rfl : u = Value.ref a := rx
 exact ZhD I1 ea c n l fun u' s2 I2 ru => ⟨v, H1, I2, ru, q⟩
def Znd (ha : PE X o ta) (hv : PE X value tv) (hs : swapsWith value (some (.Attribute o f pos')) pos.line X.env = pure false) : PS X (.Assign [.Attribute o f pos'] value pos) (sFld X.K ta tv f) := by
 intro pins s σ H D I h
 refine plainObj_wpAny_Assign_Attribute (thn (hv pins s σ H _ I h) fun u s1 ⟨y, H1, I1, ry, q⟩ => thn (ha pins s1 σ H1 _ I1 q) fun ov s2 ⟨x, H2, I2, rx, a, C, dx, fs, ex, ea, c, n, l, q2⟩ => ?_) hs
 subst ex
 obtain rfl : ov = Value.ref a := rx
 exact ZhE I2 ea c n l ry fun s3 I3 => ⟨σ, _, I3, q2⟩
end
section
inductive TyOf (K : Fg) (H : Hp) : V -> Value -> Prop where
 | non : TyOf K H .non (.type "NoneType")
 | bl (x : Bool) : TyOf K H (.bl x) (.type "bool")
 | int (i : Int) : TyOf K H (.int i) (.type "int")
 | str (x : Str) : TyOf K H (.str x) (.type "str")
 | flt (x : UInt64) : TyOf K H (.flt x) (.type "float")
 | lst {a : Addr} {xs : List V} (e : H a = some (.lst xs)) : TyOf K H (.ref a) (.type "list")
 | frz {a : Addr} {o : Obj} {xs : List V} (e : H a = some (.frz o (.lst xs))) : TyOf K H (.ref a) (.type "list")
 | tup {a : Addr} {xs : List V} (e : H a = some (.tup xs)) : TyOf K H (.ref a) (.type "tuple")
 | dK {a : Addr} {kvs : List (Key × V)} (e : H a = some (.dK kvs)) : TyOf K H (.ref a) (.type "dict")
 | dT {a : Addr} {kvs : List (List Key × V)} (e : H a = some (.dT kvs)) : TyOf K H (.ref a) (.type "dict")
 | ins {a C dx : Addr} {fs : List (Str × V)} (e : H a = some (.ins C dx fs)) (cl : Cls K C) (ha : PySem.W.findIn K (.ref C) "__class__" = some (some (.builtin "object.__class__")))
  (hn : PySem.W.specialIn K (.builtin "object.__class__") "__get__" = some (some (.builtin "getset_descriptor.__get__"))) (htk : PySem.W.takesIn K (.builtin "object.__class__") = some true)
  (hm : PySem.W.mroIn K C (.type "object") = some true) : TyOf K H (.ref a) (.ref C)
theorem Ziz (I : Inv X pins σ H s) (rx : RelV x u) (ty : TyOf X.K H x t) (e : PySem.W.kitOne X.K t c = some b) (h : ∀ tk, Q (.bool b) { s with toks := tk }) :
 wpAny (model X.prog X.w) A (call (.builtin "isinstance") [u, c]) Q E s := by
 cases ty with
 | non => cases (show u = Value.none from rx); exact PySem.W.kia_one PySem.W.kitx_none I.kIn True.intro e (fun z => nomatch z) h
 | bl y => cases (show u = Value.bool y from rx); exact PySem.W.kia_one PySem.W.kitx_bool I.kIn True.intro e (fun z => nomatch z) h
 | int i => obtain ⟨t, q⟩ := (show ∃ t, u = Value.int i t from rx); cases q; exact PySem.W.kia_one PySem.W.kitx_int I.kIn True.intro e (fun z => nomatch z) h
 | str y => obtain ⟨t, q⟩ := (show ∃ t, u = Value.str y t from rx); cases q; exact PySem.W.kia_one PySem.W.kitx_str I.kIn True.intro e (fun z => nomatch z) h
 | flt y => obtain ⟨t, q⟩ := (show ∃ t, u = Value.float y t from rx); cases q; exact PySem.W.kia_one PySem.W.kitx_float I.kIn True.intro e (fun z => nomatch z) h
 | @lst a xs ea =>
  cases (show u = Value.ref a from rx)
  obtain ⟨_, _, n, _, h1⟩ := (show Z7 X.prog X.w H s.heap a (.lst xs) from I.hok a _ ea)
  exact PySem.W.kia_one PySem.W.kitx_list I.kIn ⟨_, h1, rfl⟩ e (fun z => nomatch z) h
 | @frz a ob xs ea =>
  cases (show u = Value.ref a from rx)
  obtain ⟨_, _, _, n, _, h1⟩ := (show Z7 X.prog X.w H s.heap a (.frz ob (.lst xs)) from I.hok a _ ea)
  exact PySem.W.kia_one PySem.W.kitx_list I.kIn ⟨_, h1, rfl⟩ e (fun z => nomatch z) h
 | @tup a xs ea =>
  cases (show u = Value.ref a from rx)
  obtain ⟨_, _, _, p⟩ := (show Z7 X.prog X.w H s.heap a (.tup xs) from I.hok a _ ea)
  obtain ⟨o, h1, h2, _⟩ := p
  exact PySem.W.kia_one PySem.W.kitx_tuple I.kIn ⟨o, h1, h2⟩ e (fun z => nomatch z) h
 | @dK a kvs ea =>
  cases (show u = Value.ref a from rx)
  obtain ⟨_, _, vs, _, p⟩ := (show Z7 X.prog X.w H s.heap a (.dK kvs) from I.hok a _ ea)
  obtain ⟨o, es, ep, h1, h2, _⟩ := p
  exact PySem.W.kia_one PySem.W.kitx_dict I.kIn ⟨o, h1, h2.1⟩ e (fun z => nomatch z) h
 | @dT a kvs ea =>
  cases (show u = Value.ref a from rx)
  obtain ⟨_, _, xs, _, o, es, ep, h1, h2, _⟩ := (show Z7 X.prog X.w H s.heap a (.dT kvs) from I.hok a _ ea)
  exact PySem.W.kia_one PySem.W.kitx_dict I.kIn ⟨o, h1, h2.1⟩ e (fun z => nomatch z) h
 | @ins a C dx fs ea cl ha hn htk hm =>
  cases (show u = Value.ref a from rx)
  obtain ⟨mA, O, _⟩ := Zd7 I.hok ea
  obtain ⟨od, J, _⟩ := O.look
  exact PySem.W.kia_one (PySem.W.kitx_own (cl.get _) cl.hd ha hn htk hm) I.kIn J e (fun z => nomatch z) h
end
structure Room (k : Nat) (A : Around) : Prop where
 hd : A.handled = none
 dp : A.depth + 3 * k + 5 < recursionLimit
 un : A.units + 16 * k + 200 < cLine
def Room.mono (r : Room k A) (h : j <= k) : Room j A := ⟨r.hd, by have := r.dp; omega, by have := r.un; omega⟩
def Room.deeper (r : Room (k + 1) A) (env : Env) : Room k (A.deeper env) :=
 ⟨r.hd, by have := r.dp; show A.depth + 1 + 3 * k + 5 < _; omega, by have := r.un; show A.units + 3 + 16 * k + 200 < _; omega⟩
def ZhF {A : Around} {C : Addr} : (A.under (.builtin "type.__call__" ⟨.ref C :: us, kw⟩)).depth = A.depth + 1 := by
 first | rfl | simp [Around.under, Code.weight, Code.isCreation, Code.isGuard, Code.isCaller, Code.frames, Code.isFrame, guardIds]
def ZhG {A : Around} {C : Addr} : (A.under (.builtin "type.__call__" ⟨.ref C :: us, kw⟩)).units = A.units + 1 := by
 first | rfl | simp [Around.under, Code.cUnits, Code.frames, Code.isFrame]
def Room.make (r : Room (k + 1) A) (C : Addr) (us : List Value) (kw : List (Str × Value)) : Room k (A.under (.builtin "type.__call__" ⟨.ref C :: us, kw⟩)) :=
 ⟨r.hd, by have := r.dp; rw [ZhF]; omega, by have := r.un; rw [ZhG]; omega⟩
def Room.depth (r : Room k A) : A.depth < recursionLimit := by have := r.dp; omega
def Room.units (r : Room k A) : A.units + 64 < cLine := by have := r.un; omega
def tNil : TA := fun _ H Q => Q [] H
def Zkz (ta : TE) (tr : TA) : TA := fun σ H Q => ta σ H fun x H1 => tr σ H1 fun xs H2 => Q (x :: xs) H2
section
def ZaX : PA X [] tNil := fun _ _ _ _ H Q I h => Calls.spliced_nil ⟨[], H, I, .nil, h⟩
abbrev SE (X : Cx) (e : Expr) (es : List Expr) : Prop := starEach (e :: es) X.env = (false, eval e X.env) :: starEach es X.env
def Zaf (ha : PE X e te) (hr : PA X es t) (hs : SE X e es := by rfl) : PA X (e :: es) (Zkz te t) := by
 intro pos pins s σ H Q I h
 rw [hs]
 show wpAny _ _ (spliced ((false, eval e X.env) :: backTo pos (starEach es X.env))) _ _ s
 refine Calls.spliced_cons (thn (ha pins s σ H _ I h) fun u s1 z0 => ?_)
 obtain ⟨x, H1, I1, r1, q1⟩ := z0
 exact thn (hr pos pins s1 σ H1 _ I1 q1) fun us s2 ⟨xs, H2, I2, r2, q2⟩ => ⟨x :: xs, H2, I2, .cons r1 r2, q2⟩
def tTup (t : TA) : TE := fun σ H Q => t σ H fun xs H1 => xs.length <= sizeLine /\ ∀ p, H1 p = none -> Q (.ref p) (upd H1 p (.tup xs))
def tLst (t : TA) : TE := fun σ H Q => t σ H fun xs H1 => xs.length <= sizeLine /\ ∀ p, H1 p = none -> Q (.ref p) (upd H1 p (.lst xs))
def Zne {x1} (h : PA X es t) : PE X (.Tuple es x1 pos) (tTup t) := by
 intro pins s σ H Q I hq
 refine wpAny_Tuple_spliced (thn (h pos pins s σ H _ I hq) fun us s1 ⟨xs, H1, I1, r, z, q⟩ => ⟨by rw [<- r.length]; exact z, ?_⟩)
 have hf : H1 s1.heap.objs.size = none := I1.hok.fresh (Nat.le_refl _)
 refine ⟨.ref s1.heap.objs.size, upd H1 s1.heap.objs.size (.tup xs), I1.laid (t' := s1.toks) (fun b u e => Heap.get?_push_of_some _ e) (Nat.le_refl _) ?_, rfl, q _ hf⟩
 exact ⟨z, us, r, ⟨_, Heap.get?_push_size _ rfl, rfl, _, rfl⟩⟩
def Zi0 (h : PA X es t) : PE X (.List es pos) (tLst t) := by
 intro pins s σ H Q I hq
 refine wpAny_List_spliced (thn (h pos pins s σ H _ I hq) fun us s1 ⟨xs, H1, I1, r, z, q⟩ => ⟨by rw [<- r.length]; exact z, ?_⟩)
 have hf : H1 s1.heap.objs.size = none := I1.hok.fresh (Nat.le_refl _)
 refine ⟨.ref s1.heap.objs.size, upd H1 s1.heap.objs.size (.lst xs), I1.laid (t' := s1.toks) (fun b u e => Heap.get?_push_of_some _ e) (Nat.le_refl _) ?_, rfl, q _ hf⟩
 exact ⟨z, us, 0, r, Heap.get?_push_size _ rfl⟩
end
abbrev Sp := List V -> Hp -> VK -> XK -> Prop
abbrev CXT := List Env -> Hp -> Shared -> XK -> Value -> Shared -> Prop
structure Env0 (P : Program) (w : World) (K : Fg) (mg : SO) (base : Heap) (A : Around) (outer : List Env) (s : Shared) (H : Hp) : Prop where
 frames : A.frames = some outer
 mod : Mod K mg base
 bs : ∀ b o, base.get? b = some o -> s.heap.get? b = some o /\ H b = none
 bsz : base.objs.size <= s.heap.objs.size
 funs : s.heap.FunFrames base outer
 frf : ∀ b ∈ frs outer, H b = none
 hok : HOk P w H s.heap
 bare : AllBare s.gens
def CE (outer : List Env) (P : Program) (w : World) (H : Hp) (s : Shared) (Q : VK) (u : Value) (s' : Shared) : Prop :=
 ∃ v H', s'.os = s.os /\ AllBare s'.gens /\ Un (frs outer) [] H H' s.heap s'.heap /\ HOk P w H' s'.heap /\ RelV v u /\ Q v H'
def CR (CX : CXT) (outer : List Env) (P : Program) (w : World) (H : Hp) (s : Shared) (Q : VK) (E : XK) (r : Result) (s' : Shared) : Prop :=
 match r with
 | .ok (.ret u) => CE outer P w H s Q u s'
 | .ok _ => False
 | .error e => CX outer H s E e s'
structure FnOk (P : Program) (w : World) (K : Fg) (mg : SO) (base : Heap) (CX : CXT) (k : Nat) (f : Addr) (fd : FuncData) (ps : List Str) (sp : Sp) : Prop where
 len : ∀ vs H Q E, sp vs H Q E -> vs.length = ps.length
 run : ∀ (A : Around) (outer : List Env) (s : Shared) (H : Hp) (args : Args) (us : List Value) (vs : List V) (Q : VK) (E : XK), Room k A -> Env0 P w K mg base A outer s H -> BindsTo s fd args (ps.zip us) -> Vals vs us -> sp vs H Q E ->
  codeAny (model P w) A (.call (.ref f) args) (CR CX outer P w H s Q E) s
def Env0.make {P : Program} {w : World} {K : Fg} {A : Around} (e : Env0 P w K mg base A outer s H) (C : Addr) (us : List Value) (kw : List (Str × Value)) :
 Env0 P w K mg base (A.under (.builtin "type.__call__" ⟨.ref C :: us, kw⟩)) outer s H := ⟨by first | exact e.frames | (simpa [Around.under, Code.envs, Code.isFrame, pushEnvs] using e.frames), e.mod, e.bs, e.bsz, e.funs, e.frf, e.hok, e.bare⟩
section
def Inv.env0 (I : Inv X pins σ H s) : Env0 X.prog X.w X.K X.mg X.base X.A X.stack s H :=
 ⟨I.ok.frames, I.ok.mod, I.bs, Nat.le_trans I.ok.bsz I.sz, I.stack, I.stkFree, I.hok, I.bare⟩
def Inv.after (I : Inv X pins σ H s) (h : CE X.stack X.prog X.w H s Q u s') : EP X pins σ Q u s' := by
 obtain ⟨v, H', os, bare, un, hok, r, q⟩ := h
 obtain ⟨hh, g, d, t, os'⟩ := s'
 obtain rfl : os' = s.os := os
 exact ⟨v, H', I.call (h' := hh) (g' := g) (d' := d) (t' := t) (ch := []) un hok bare (fun b z => absurd z (by simp)), r, q⟩
end
def Zk0 (sp : Sp) (dvs : List V) (E : XK) (t : TA) : TE := fun σ H Q => t σ H fun vs H1 => sp (vs ++ dvs) H1 Q E
def Zk1 (C : Addr) (m : Str) (sp : Sp) (dvs : List V) (E : XK) (ta : TE) (t : TA) : TE := fun σ H Q => ta σ H fun x H1 => ∃ a dx fs, x = .ref a /\ H1 a = some (.ins C dx fs) /\ fs.lookup m = none /\
 t σ H1 fun vs H2 => sp (x :: (vs ++ dvs)) H2 Q E
def Zk2 (C : Addr) (sp : Sp) (dvs : List V) (E : XK) (t : TA) : TE := fun σ H Q => t σ H fun vs H1 => ∀ x dx, H1 x = none -> H1 dx = none -> dx ≠ x ->
 sp (.ref x :: (vs ++ dvs)) (upd (upd H1 dx (.own x)) x (.ins C dx [])) (fun v H2 => v = .non /\ Q (.ref x) H2) E
def Binds (K : Fg) (fd : FuncData) (ps : List Str) (ds : List Value) : Prop :=
 ∀ (s : Shared) (us : List Value), K.In s.heap -> (us ++ ds).length = ps.length -> BindsTo s fd ⟨us, []⟩ (ps.zip (us ++ ds))
def Binds.all {K : Fg} {fd : FuncData} (h : ∀ us : List Value, us.length = ps.length -> bindArgs fd ⟨us, []⟩ = pure (ps.zip us)) : Binds K fd ps [] := fun s us _ hl => by
 rw [List.append_nil] at hl ⊢
 exact .of_eq (h us hl)
def Passes (CX : CXT) (X : Cx) (E : XK) : Prop := ∀ (pins : Pn) (σ : St) (H : Hp) (s : Shared) (e : Value) (s' : Shared), Inv X pins σ H s -> CX X.stack H s E e s' -> X.xe e s'
section
theorem Zi1 (F : FnOk X.prog X.w X.K X.mg X.base CX k f fd ps sp) (hr : Room k X.A) (hb : Binds X.K fd ps ds) (hd : Vals dvs ds) (hx : Passes CX X E)
 (I : Inv X pins σ H s) (r : Vals vs us) (h : sp (vs ++ dvs) H Q E) : wpAny (model X.prog X.w) X.A (call (.ref f) us) (EP X pins σ Q) X.xe s := by
 have r2 : Vals (vs ++ dvs) (us ++ ds) := r.append hd
 have hl : (us ++ ds).length = ps.length := by rw [<- r2.length]; exact F.len _ _ _ _ h
 refine wpAny_call (codeAny_mono (F.run X.A X.stack s H ⟨us, []⟩ (us ++ ds) (vs ++ dvs) Q E hr I.env0 (hb s us I.kIn hl) r2 h) fun r s' hq => ?_)
 cases r with
 | error e => exact hx pins σ H s e s' I hq
 | ok fl =>
  cases fl with
  | ret u => exact I.after hq
  | next => exact False.elim hq
  | brk => exact False.elim hq
  | cont => exact False.elim hq
abbrev SFx (X : Cx) (pos : Pos) (es : List Expr) : Prop := (backTo pos (starEach es X.env)).any (·.1) = false
def Zlh (F : FnOk X.prog X.w X.K X.mg X.base CX k f fd ps sp) (hr : Room k X.A) (hg : Gl X x) (hm : X.mg x = some (.ref f)) (hk : PySem.W.keepIn X.K (.ref f) = true) (hb : Binds X.K fd ps ds) (hd : Vals dvs ds) (hx : Passes CX X E)
 (ha : PA X (e :: es) t) (hdb : (x == ("__debug__" : Str)) = false := by decide) (he : SE X e es := by rfl) (hpl : SFx X pos es := by rfl) :
 PE X (.Call (.Name x p) (e :: es) [] pos) (Zk0 sp dvs E t) := by
 intro pins s σ H Q I h
 refine wpAny_Call_Name_kw (ZbK I hg hm ?_ hdb)
 refine PySem.W.callWith_K (h₀ := X.base) I.ok.mod.kin hk (thn (ha pos pins s σ H _ I h) fun us s1 ⟨vs, H1, I1, r, q⟩ => ⟨I1.kIn, ?_⟩) he hpl
 exact Zi1 F hr hb hd hx I1 r q
def Zli (he : PE X o ta) (c : Cls X.K C) (hm : Meth X.K C m f) (F : FnOk X.prog X.w X.K X.mg X.base CX k f fd ps sp) (hr : Room k X.A) (hb : Binds X.K fd ps ds) (hd : Vals dvs ds) (hx : Passes CX X E) (ha : PA X (e :: es) t)
 (hst : SE X e es := by rfl) (hpl : SFx X pos es := by rfl)
 (ht : eval (.Call (.Attribute o m apos) (e :: es) [] pos) X.env = (do
  let ov <- eval o X.env
  standAt apos.atName
  let (f, first) <- holding [ov] (getMethod ov m pl)
  callWith pos f first (backTo pos (starEach (e :: es) X.env)) (backToKw pos (keywordEach [] X.env))) := by rfl) :
 PE X (.Call (.Attribute o m apos) (e :: es) [] pos) (Zk1 C m sp dvs E ta t) := by
 intro pins s σ H Q I h
 refine PySem.W.methodCall_KW (pl := pl) (thn (he pins s σ H _ I h) fun u s1 z0 => ?_) ht
 obtain ⟨x, H1, I1, rx, a, dx, fs, ex, ea, l, q⟩ := z0
 subst ex
 obtain rfl : u = Value.ref a := rx
 refine Zed I1 ea c hm l ?_
 refine PySem.W.callWith_K (first := [.ref a]) (h₀ := X.base) I.ok.mod.kin hm.kp (thn (ha pos pins s1 σ H1 _ I1 q) fun us s2 ⟨vs, H2, I2, r, q2⟩ => ⟨I2.kIn, ?_⟩) hst hpl
 exact Zi1 (us := .ref a :: us) (vs := .ref a :: vs) F hr hb hd hx I2 (.cons rfl r) q2
structure Mk (K : Fg) (C f : Addr) : Prop where
 makes : PySem.W.makesIn K C = true
 init : PySem.W.findIn K (.ref C) "__init__" = some (some (.ref f))
 fn : PySem.W.isFn K (.ref f) = true
 kp : PySem.W.keepIn K (.ref C) = true
theorem Zjp (M : Mk X.K C f) (F : FnOk X.prog X.w X.K X.mg X.base CX k f fd ps sp) (hr : Room (k + 1) X.A) (hb : Binds X.K fd ps ds) (hd : Vals dvs ds)
 (hx : Passes CX X E) (I : Inv X pins σ H s) (r : Vals vs us)
 (h : ∀ x dx, H x = none -> H dx = none -> dx ≠ x -> sp (.ref x :: (vs ++ dvs)) (upd (upd H dx (.own x)) x (.ins C dx [])) (fun v H2 => v = .non /\ Q (.ref x) H2) E) :
 wpAny (model X.prog X.w) X.A (call (.ref C) us) (EP X pins σ Q) X.xe s := by
 have hq := h (s.heap.objs.size + 1) s.heap.objs.size (I.hok.fresh (Nat.le_succ _)) (I.hok.fresh (Nat.le_refl _)) (Nat.ne_of_lt (Nat.lt_succ_self _))
 have I2 := Inv.made (C := C) I
 have r2 : Vals (V.ref (s.heap.objs.size + 1) :: (vs ++ dvs)) (Value.ref (s.heap.objs.size + 1) :: (us ++ ds)) := .cons rfl (r.append hd)
 have hl : (Value.ref (s.heap.objs.size + 1) :: us ++ ds).length = ps.length := by
  have e := r2.length
  rw [F.len _ _ _ _ hq] at e
  exact e.symm
 refine wpAny_call (Zjo (f := f) I.kIn M.makes M.init (beq_iff_eq.mp M.fn) (codeAny_mono (F.run _ X.stack _ _ ⟨Value.ref (s.heap.objs.size + 1) :: us, []⟩ (Value.ref (s.heap.objs.size + 1) :: (us ++ ds)) _ _ E (hr.make C us [])
  (I2.env0.make C us []) (hb _ (Value.ref (s.heap.objs.size + 1) :: us) I2.kIn hl) r2 hq) fun r s' hq' => ?_))
 cases r with
 | error e => exact hx pins σ _ _ e s' I2 hq'
 | ok fl =>
  cases fl with
  | ret u =>
   obtain ⟨v, H', I3, rv, ev, q3⟩ := I2.after hq'
   subst ev
   exact ⟨rv, ⟨V.ref (s.heap.objs.size + 1), H', I3, rfl, q3⟩⟩
  | next => exact False.elim hq'
  | brk => exact False.elim hq'
  | cont => exact False.elim hq'
def Zlj (M : Mk X.K C f) (F : FnOk X.prog X.w X.K X.mg X.base CX k f fd ps sp) (hr : Room (k + 1) X.A) (hg : Gl X x) (hm : X.mg x = some (.ref C)) (hb : Binds X.K fd ps ds) (hd : Vals dvs ds) (hx : Passes CX X E)
 (ha : PA X (e :: es) t) (hdb : (x == ("__debug__" : Str)) = false := by decide) (he : SE X e es := by rfl) (hpl : SFx X pos es := by rfl) :
 PE X (.Call (.Name x p) (e :: es) [] pos) (Zk2 C sp dvs E t) := by
 intro pins s σ H Q I h
 refine wpAny_Call_Name_kw (ZbK I hg hm ?_ hdb)
 refine PySem.W.callWith_K (h₀ := X.base) I.ok.mod.kin M.kp (thn (ha pos pins s σ H _ I h) fun us s1 ⟨vs, H1, I1, r, q⟩ => ⟨I1.kIn, ?_⟩) he hpl
 exact Zjp M F hr hb hd hx I1 r q
end
structure FnScope (N P : List Str) (sc : Scope) : Prop where
 kind : sc.kind = .function
 co : sc.isCoroutine = false
 gen : sc.isGenerator = false
 nd : N.Nodup
 pre : N.take P.length = P
 par : ∀ x ∈ P, sc.names.lookup x = some .local \/ sc.names.lookup x = some .cell
 nofree : ∀ y ∈ sc.names, y.2 ≠ .free
theorem ZeZ {x : Str} : ∀ {binds : List (Str × Value)} {m : SO}, (∀ v, (x, v) ∉ binds) -> bindL kindOf binds m x = m x
 | [], _, _ => rfl
 | (n, v) :: r, m, h => by
  unfold bindL
  rw [ZeZ fun w hw => h w (List.mem_cons_of_mem _ hw)]
  split
  . have : x ≠ n := by rintro rfl; exact h v List.mem_cons_self
    simp [this]
  . rfl
theorem Zfa {x : Str} : ∀ {binds : List (Str × Value)} {m : SO}, (∀ v, (x, v) ∉ binds) -> bindC kindOf binds m x = m x
 | [], _, _ => rfl
 | (n, v) :: r, m, h => by
  unfold bindC
  rw [Zfa fun w hw => h w (List.mem_cons_of_mem _ hw)]
  split
  . rfl
  . have : x ≠ n := by rintro rfl; exact h v List.mem_cons_self
    simp [this]
theorem Zfb {x : Str} {v : Value} : ∀ {P : List Str} {vs : List Value} {i : Nat} {m : SO}, P.Nodup -> P[i]? = some x -> vs[i]? = some v -> kindOf x = some .local ->
 bindL kindOf (P.zip vs) m x = some v
 | [], _, _, _, _, h, _, _ => by simp at h
 | _ :: _, [], _, _, _, _, h, _ => by simp at h
 | p :: P, w :: vs, 0, m, nd, h1, h2, hk => by
  simp at h1 h2; subst h1; subst h2
  show bindL kindOf ((p, w) :: P.zip vs) m p = _
  unfold bindL
  rw [ZeZ fun v hv => (List.nodup_cons.mp nd).1 (List.of_mem_zip hv).1, if_pos hk]
  simp
 | p :: P, w :: vs, i + 1, m, nd, h1, h2, hk => by
  show bindL kindOf ((p, w) :: P.zip vs) m x = _
  unfold bindL
  exact Zfb (i := i) (List.nodup_cons.mp nd).2 (by simpa using h1) (by simpa using h2) hk
theorem Zfc {x : Str} {v : Value} : ∀ {P : List Str} {vs : List Value} {i : Nat} {m : SO}, P.Nodup -> P[i]? = some x -> vs[i]? = some v -> kindOf x ≠ some .local ->
 bindC kindOf (P.zip vs) m x = some v
 | [], _, _, _, _, h, _, _ => by simp at h
 | _ :: _, [], _, _, _, _, h, _ => by simp at h
 | p :: P, w :: vs, 0, m, nd, h1, h2, hk => by
  simp at h1 h2; subst h1; subst h2
  show bindC kindOf ((p, w) :: P.zip vs) m p = _
  unfold bindC
  rw [Zfa fun v hv => (List.nodup_cons.mp nd).1 (List.of_mem_zip hv).1, if_neg hk]
  simp
 | p :: P, w :: vs, i + 1, m, nd, h1, h2, hk => by
  show bindC kindOf ((p, w) :: P.zip vs) m x = _
  unfold bindC
  exact Zfc (i := i) (List.nodup_cons.mp nd).2 (by simpa using h1) (by simpa using h2) hk
noncomputable def start (N : List Str) (vs : List V) : St := vs.map some ++ List.replicate (N.length - vs.length) none
noncomputable def cxOf (CX : CXT) (P : Program) (w : World) (K : Fg) (mg : SO) (base : Heap) (N : List Str) (qual : Str) (scope : Scope) (f : Addr) (cd : Value) (A : Around) (outer : List Env) (s : Shared) (H : Hp) (E : XK) : Cx where
 prog := P
 w := w
 K := K
 mg := mg
 base := base
 A := A.deeper (envOfC qual scope s.heap.objs.size f cd)
 N := N
 s₀ := s
 H₀ := H
 env := envOfC qual scope s.heap.objs.size f cd
 outer := outer
 stack := envOfC qual scope s.heap.objs.size f cd :: outer
 ex := []
 calm := true
 fn := fun _ => true
 pn := []
 xe := fun e s' => wpAny (model P w) (A.deeper (envOfC qual scope s.heap.objs.size f cd)) (leaving (envOfC qual scope s.heap.objs.size f cd) e) (fun _ s'' => CX outer H s E e s'') (fun e' s'' => CX outer H s E e' s'') s'
def Zf9 {sc : Scope} {n : Nat} {x : Str} (h : sc.names.lookup x = some .cell) : ∃ c, (cellsFrom n sc.names []).lookup x = some c := by
 have q := PySem.W.cellsFrom_some sc.names n [] (.inl h)
 exact Option.isSome_iff_exists.mp q
def Zfd {CX : CXT} {P : Program} {w : World} {K : Fg} {f : Addr} {cd : Value} {A : Around} {s1 : Shared} {E : XK} {vs : List V}
 (S : FnScope N ps scope) (hd : A.handled = none) (e0 : Env0 P w K mg base A outer s H) (hl : vs.length = ps.length) (r : Vals vs us)
 (x : InCallC s s.heap.objs.size (bindL (envOfC qual scope s.heap.objs.size f cd).kindOf (ps.zip us) fun _ => none) (cellsFrom (s.heap.objs.size + 1) scope.names []) (bindC (envOfC qual scope s.heap.objs.size f cd).kindOf (ps.zip us) fun _ => none) s1) :
 Inv (cxOf CX P w K mg base N qual scope f cd A outer s H E) [] (start N vs) H s1 := by
 have hpl : ps.length <= N.length := by have := congrArg List.length S.pre; rw [List.length_take] at this; omega
 obtain ⟨h1, tk, rfl, hk⟩ := x.done
 have noA : ∀ b : Addr, b ∉ (cxOf CX P w K mg base N qual scope f cd A outer s H E).ex := fun b z => absurd (show b ∈ ([] : List Addr) from z) (by simp)
 refine ⟨⟨e0.mod, S.kind, rfl, rfl, Nat.le_refl _, fun y z c h1 h2 => ?_, fun y hy => ?_, fun y c _ h => ?_, fun _ => hd, Around.frames_deeper e0.frames, .inr ⟨rfl, rfl⟩, fun b z => absurd z (noA b), e0.bs, e0.bsz, fun b _ _ => noA b, fun b z => absurd z (noA b), e0.funs, e0.frf⟩,
  rfl, e0.bare, Un.kept hk, ⟨_, x.toInCall.ns, fun i y v h1 h2 h3 => ?_⟩, fun y c h => ⟨_, x.cell y c h⟩, e0.hok.fresh (Nat.le_refl _), fun y c h => ?_, fun p hp => absurd (show p ∈ ([] : Pn) from hp) (by simp), e0.hok.kept hk, ?_⟩
 . exact name_of_addr x.apart (PySem.mem_of_lookup h1) (PySem.mem_of_lookup h2)
 . have hy : scope.names.lookup y = some .cell \/ scope.names.lookup y = some .free := hy
   rcases hy with hy | hy
   . exact Zf9 hy
   . exact absurd rfl (S.nofree _ (PySem.mem_of_lookup hy))
 . exact Nat.le_of_lt (x.above y c (PySem.mem_of_lookup h))
 . have hi : i < vs.length := by
    unfold start at h2
    by_cases hi : i < vs.length
    . exact hi
    . rw [List.getElem?_append_right (by simpa using hi)] at h2
      rw [List.getElem?_replicate] at h2
      split at h2 <;> cases h2
   have ha : vs[i]? = some v := by
    unfold start at h2
    rw [List.getElem?_append_left (by simpa using hi), List.getElem?_map] at h2
    cases e : vs[i]? with
    | none => rw [e] at h2; cases h2
    | some a => rw [e] at h2; cases h2; rfl
   obtain ⟨u, hu, rv⟩ := r.get ha
   have hp : ps[i]? = some y := by
    rw [<- S.pre, List.getElem?_take_of_lt (by omega)]; exact h1
   have ndP : ps.Nodup := by rw [<- S.pre]; exact S.nd.sublist (List.take_sublist _ _)
   refine ⟨u, rv, ?_⟩
   rcases S.par y (List.mem_of_getElem? hp) with k | k
   . exact .inl ⟨k, Zfb ndP hp hu k⟩
   . obtain ⟨c, e⟩ := Zf9 (n := s.heap.objs.size + 1) k
     refine .inr ⟨.inl k, c, e, ?_⟩
     have q := x.cell y c e
     rw [Zfc ndP hp hu (by show scope.names.lookup y ≠ _; rw [k]; decide)] at q
     exact q
 . exact e0.hok.fresh (Nat.le_of_lt (x.above y c (PySem.mem_of_lookup h)))
 . unfold start
   show _ = N.length
   rw [List.length_append, List.length_map, List.length_replicate]
   omega
theorem Zpo {CX : CXT} {P : Program} {w : World} {K : Fg} {k : Nat} {f : Addr} {params : Arguments} {body : List Stmt} {dV kV doc pm cdv ct oc : Value} {an od : Option Addr}
 {osl : Array (Option Value)} {N ps : List Str} {sp : Sp} (lk : K.lookup f = some ⟨oc, od, .func (PySem.W.fnOf name qual params body scope dV kV doc pm an cdv ct), osl⟩) (hcd : PySem.W.codeIn K cdv qual = true) (S : FnScope N ps scope)
 (len : ∀ vs H Q E, sp vs H Q E -> vs.length = ps.length)
 (hbody : ∀ (A : Around) (outer : List Env) (s : Shared) (H : Hp) (vs : List V) (Q : VK) (E : XK), Room k (A.deeper (envOfC qual scope s.heap.objs.size f cdv)) -> sp vs H Q E ->
  ∃ t, PSs (cxOf CX P w K mg base N qual scope f cdv A outer s H E) body t /\ t { nx := fun _ H' => Q .non H', rt := Q } (start N vs) H) :
 FnOk P w K mg base CX (k + 1) f (PySem.W.fnOf name qual params body scope dV kV doc pm an cdv ct) ps sp := by
 refine ⟨len, fun A outer s H args us vs Q E hr e0 hb r hsp => ?_⟩
 have hl := len _ _ _ _ hsp
 have KX : K.In s.heap := e0.mod.kin.keeps fun b o e => (e0.bs b o e).1
 have lim : s.heap.NoLimit := e0.mod.nolimit.keeps fun b o e => (e0.bs b o e).1
 have hkind : ∀ y ∈ ps.zip us, scope.names.lookup y.1 = some .local \/ (scope.names.lookup y.1 = some .cell /\ ((cellsFrom (s.heap.objs.size + 1) scope.names []).lookup y.1).isSome = true) := fun ⟨n, v⟩ hy => by
  rcases S.par n (List.of_mem_zip hy).1 with q | q
  . exact .inl q
  . exact .inr ⟨q, PySem.W.cellsFrom_some _ _ _ (.inl q)⟩
 refine codeAny_call_function hr.depth (KX _ _ lk) rfl S.co S.gen rfl (PySem.W.codeRec_of KX hcd) (hb _ _ _ _ ?_)
 refine wpAny_newFunctionEnv_cells S.kind hkind fun env he s1 x => ?_
 subst he
 refine ⟨lim.keeps x.toInCall.keep, codeAny_func ?_⟩
 obtain ⟨t, ht, hq⟩ := hbody A outer s H vs Q E (hr.deeper _) hsp
 have I : Inv (cxOf CX P w K mg base N qual scope f cdv A outer s H E) [] (start N vs) H s1 := Zfd S hr.hd e0 hl r x
 refine wpAny_mono (ht [] s1 (start N vs) H _ I hq) (fun fl s' hs => ?_) fun e s' hs => hs
 have fin : ∀ {σ' : St} {H' : Hp} {v : V} {u : Value}, Inv (cxOf CX P w K mg base N qual scope f cdv A outer s H E) [] σ' H' s' -> RelV v u -> Q v H' -> CE outer P w H s Q u s' :=
  fun {σ' H' v u} J rv q => ⟨v, H', J.os, J.bare, J.base, J.hok, rv, q⟩
 cases fl with
 | ret u =>
  obtain ⟨v, σ', H', J, rv, q⟩ := hs
  exact fin J rv q
 | next =>
  obtain ⟨σ', H', J, q⟩ := hs
  exact fin (v := V.non) (u := Value.none) J rfl q
 | brk =>
  obtain ⟨_, _, _, q⟩ := hs
  exact False.elim q
 | cont =>
  obtain ⟨_, _, _, q⟩ := hs
  exact False.elim q
section
variable {x : Str} {p : Pos} {e : Expr} {es : List Expr} {t : TA} {id T : String} {r : List V -> Hp -> VK -> Prop}
def tCB (r : List V -> Hp -> VK -> Prop) (t : TA) : TE := fun σ H Q => t σ H fun vs H1 => r vs H1 Q
def ZcI (hc : ZI X (.builtin id) r) (hg : Gl X x) (hm : X.mg x = none) (hv : bootBuiltins x = some (.builtin id)) (ha : PA X (e :: es) t) (hn : x ≠ "__name__" := by decide) (hdb : (x == ("__debug__" : Str)) = false := by decide)
 (he : SE X e es := by rfl) (hpl : SFx X pos es := by rfl) : PE X (.Call (.Name x p) (e :: es) [] pos) (tCB r t) := by
 intro pins s σ H Q I h
 refine wpAny_Call_Name_kw (Zcx I hg hm hv ?_ hn hdb)
 exact PyProof.Rows.callWith_builtin1 (thn (ha pos pins s σ H _ I h) fun us s1 ⟨vs, H1, I1, r1, q1⟩ => hc pins s1 σ H1 vs us Q I1 r1 q1) he hpl
def Zi2 (hc : ZI X (.type T) r) (hg : Gl X x) (hm : X.mg x = none) (hv : bootBuiltins x = some (.type T)) (ha : PA X (e :: es) t) (hn : x ≠ "__name__" := by decide) (hdb : (x == ("__debug__" : Str)) = false := by decide)
 (he : SE X e es := by rfl) (hpl : SFx X pos es := by rfl) : PE X (.Call (.Name x p) (e :: es) [] pos) (tCB r t) := by
 intro pins s σ H Q I h
 refine wpAny_Call_Name_kw (Zcx I hg hm hv ?_ hn hdb)
 exact PyProof.Rows.callWith_type1 (thn (ha pos pins s σ H _ I h) fun us s1 ⟨vs, H1, I1, r1, q1⟩ => hc pins s1 σ H1 vs us Q I1 r1 q1) he hpl
end
end L2
namespace HT
open PySem PyProof.Rows
section
variable {prog : Program} {w : World} {A : Around} {E : VS} {s : Shared}
noncomputable def sIx (n d : Nat) : Option Int -> Nat
 | none => d
 | some v => if v < 0 then (v + (n : Int)).toNat else min v.toNat n
def Zhb (n d k : Nat) : sIx n d (some (k : Int)) = min k n := by
 show (if (k : Int) < 0 then ((k : Int) + (n : Int)).toNat else min (k : Int).toNat n) = min k n
 rw [if_neg (by omega), Int.toNat_natCast]
end
end HT
namespace L2
open PySem PySem.Spec PyProof.Rows
variable {X : Cx} {H : Hp} {pos : Pos} {s : Shared} {pins : Pn} {ys : List V} {its' : List Value}
abbrev TO := St -> Hp -> (Option Int -> Hp -> Prop) -> Prop
def PO (X : Cx) (e : Option Expr) (t : TO) : Prop :=
 ∀ (pins : Pn) (s : Shared) (σ : St) (H : Hp) (Q : Option Int -> Hp -> Prop), Inv X pins σ H s -> t σ H Q ->
  wpAny (model X.prog X.w) X.A (evalPart e X.env) (fun u s' => ∃ o H', Inv X pins σ H' s' /\ IsPart u o /\ Q o H') X.xe s
noncomputable def Zlk : TO := fun _ H Q => Q none H
noncomputable def Zpp (t : TE) : TO := fun σ H Q => t σ H fun x H1 => ∃ i, x = .int i /\ Q (some i) H1
section
variable {e : Expr} {te : TE} {lo hi : Option Expr} {tl th : TO} {p2 : Pos}
def Zll : PO X none Zlk := by
 intro pins s σ H Q I h
 rw [evalPart_none]
 exact wpAny_pure ⟨none, H, I, .none, h⟩
def Zlm (h : PE X e te) : PO X (some e) (Zpp te) := by
 intro pins s σ H Q I hw
 rw [evalPart_some]
 refine thn (h pins s σ H _ I hw) fun u s1 z0 => ?_
 obtain ⟨x, H1, I1, r1, q1⟩ := z0
 obtain ⟨i, rfl, q⟩ := q1
 obtain ⟨t, rfl⟩ := r1
 exact ⟨some i, H1, I1, .int i t, q⟩
def SlR (X : Cx) (r : V -> Option Int -> Option Int -> Hp -> VK -> Prop) : Prop :=
 ∀ (pins : Pn) (s : Shared) (σ : St) (H : Hp) (x : V) (v vl vu : Value) (lo hi : Option Int) (sl : Addr) (Q : VK), Inv X pins σ H s -> RelV x v -> s.heap.IsSliceOf sl vl vu .none -> IsPart vl lo -> IsPart vu hi -> r x lo hi H Q ->
  ∃ T id, typeLookup (.type T) "__getitem__" = pure (some (.builtin id)) /\ s.TypeIs v T /\ wpAny (model X.prog X.w) X.A (getItem v (.ref sl)) (EP X pins σ Q) X.xe s
def tSl (r : V -> Option Int -> Option Int -> Hp -> VK -> Prop) (te : TE) (tl th : TO) : TE := fun σ H Q => te σ H fun x H1 => tl σ H1 fun l H2 => th σ H2 fun u H3 => r x l u H3 Q
def Zjq (hr : SlR X r) (he : PE X e te) (hl : PO X lo tl) (hu : PO X hi th) : PE X (.Subscript e (.Slice lo hi none p2) pos) (tSl r te tl th) := by
 intro pins s σ H Q I h
 refine Subscript_ (thn (he pins s σ H _ I h) fun v s1 z0 => ?_)
 obtain ⟨x, H1, I1, r1, q1⟩ := z0
 refine wpAny_Slice (thn (hl pins s1 σ H1 _ I1 q1) fun vl s2 ⟨l, H2, I2, pl, q2⟩ => thn (hu pins s2 σ H2 _ I2 q2) fun vu s3 ⟨u, H3, I3, pu, q3⟩ => ?_)
 rw [evalPart_none]
 refine wpAny_pure ?_
 have I4 : Inv X pins σ H3 { s3 with heap := s3.heap.push { cls := .type "slice", data := .fields #[vl, vu, .none] } } := I3.kept (t' := s3.toks) fun b ob q => Heap.get?_push_of_some _ q
 obtain ⟨T, id, hT, ht, hg⟩ := hr pins { s3 with heap := s3.heap.push { cls := .type "slice", data := .fields #[vl, vu, .none] } } σ H3 x v vl vu l u s3.heap.objs.size Q I4 r1 (Heap.IsSliceOf.new ..) pl pu q3
 show wpAny (model X.prog X.w) X.A (subscriptTail e (.Slice lo hi none p2) v (.ref s3.heap.objs.size)) (EP X pins σ Q) X.xe { s3 with heap := s3.heap.push { cls := .type "slice", data := .fields #[vl, vu, .none] } }
 exact tail_any (ops := [.ref s3.heap.objs.size, v]) ht hT hg (by with_unfolding_all rfl)
noncomputable def cutV (xs : List V) (lo hi : Option Int) : List V := (xs.drop (HT.sIx xs.length 0 lo)).take (HT.sIx xs.length xs.length hi - HT.sIx xs.length 0 lo)
def ZgG (xs : List V) (lo hi : Option Int) : (cutV xs lo hi).length <= xs.length := by
 unfold cutV
 rw [List.length_take, List.length_drop]
 omega
end
noncomputable def ixN (n : Nat) (i : Int) : Option Nat := if 0 <= i then (if i < n then some i.toNat else none) else if -(n : Int) <= i then some (i + n).toNat else none
noncomputable def atI {α : Type} (xs : List α) (i : Int) : Option α := (ixN xs.length i).bind fun j => xs[j]?
def Zhc (h : ixN n i = some j) : seqIndex? i n = some j /\ j < n /\ -(n : Int) <= i /\ i < n := by
 unfold ixN at h
 by_cases h0 : 0 <= i
 . rw [if_pos h0] at h
   by_cases h1 : i < n
   . rw [if_pos h1] at h
     have e : i.toNat = j := Option.some.inj h
     exact ⟨by rw [seqIndex_of h0 h1, e], by omega, by omega, h1⟩
   . rw [if_neg h1] at h; cases h
 . rw [if_neg h0] at h
   by_cases h1 : -(n : Int) <= i
   . rw [if_pos h1] at h
     have e : (i + n).toNat = j := Option.some.inj h
     exact ⟨by rw [seqIndex_neg (by omega) h1, e], by omega, h1, by omega⟩
   . rw [if_neg h1] at h; cases h
theorem ZeE (h : atI xs i = some v) : ∃ j, seqIndex? i xs.length = some j /\ xs[j]? = some v /\ j < xs.length /\ -(xs.length : Int) <= i /\ i < xs.length := by
 unfold atI at h
 cases e : ixN xs.length i with
 | none => rw [e] at h; cases h
 | some j =>
  rw [e] at h
  obtain ⟨h1, h2, h3, h4⟩ := Zhc e
  exact ⟨j, h1, h, h2, h3, h4⟩
def Zhd (b : Expr) : Prop := ∀ o i, subscripted b false o i = operate [o, i] (getItem o i)
def IxR (X : Cx) (r : R2) : Prop :=
 ∀ (value slice : Expr) (pins : Pn) (s : Shared) (σ : St) (H : Hp) (x y : V) (v u : Value) (Q : VK), Inv X pins σ H s -> RelV x v -> RelV y u -> r x y H Q ->
  subscripted slice false v u = operate [v, u] (getItem v u) -> wpAny (model X.prog X.w) X.A (subscriptTail value slice v u) (EP X pins σ Q) X.xe s
def MtR (X : Cx) (id : String) (r : V -> List V -> Hp -> VK -> Prop) : Prop :=
 ∀ (pins : Pn) (s : Shared) (σ : St) (H : Hp) (x : V) (xs : List V) (v : Value) (us : List Value) (Q : VK), Inv X pins σ H s -> RelV x v -> Vals xs us -> r x xs H Q ->
  wpAny (model X.prog X.w) X.A (call (.builtin id) (v :: us)) (EP X pins σ Q) X.xe s
section
variable {a b : Expr} {ta tb : TE}
def Zpq (hr : IxR X r) (ha : PE X a ta) (hb : PE X b tb) (hs : Zhd b) : PE X (.Subscript a b pos) (tOp r ta tb) := by
 intro pins s σ H Q I h
 exact Subscript_ (binT ha hb I h fun v u s2 x y H2 I2 rx ry q => hr a b pins s2 σ H2 x y v u Q I2 rx ry q (hs _ _))
def rIxL (K : Fg) : R2 := fun x y H Q => ∃ p xs i v, x = .ref p /\ y = .int i /\ SqL K H p xs /\ atI xs i = some v /\ Q v H
def rIxT (K : Fg) : R2 := fun x y H Q => ∃ p xs i v, x = .ref p /\ y = .int i /\ SqT K H p xs /\ atI xs i = some v /\ Q v H
def rIxS : R2 := fun x y H Q => ∃ z i c, x = .str z /\ y = .int i /\ z.length <= sizeLine /\ atI z.cps.toList i = some c /\ Q (.str ⟨#[c]⟩) H
def Zhe : IxR X (rIxL X.K) := by
 intro value slice pins s σ H x y v u Q I rx ry h hs
 obtain ⟨p, xs, i, z, rfl, rfl, hq, he, q⟩ := h
 cases rx
 obtain ⟨t, rfl⟩ := ry
 obtain ⟨its, r, pl, hz⟩ := I.list hq
 obtain ⟨j, h1, h2, h3, h4, h5⟩ := ZeE he
 obtain ⟨w, ew, rw'⟩ := r.get h2
 have hl := r.length
 have hn := ZbQ
 have fin : EP X pins σ Q w s := ⟨z, H, I, rw', q⟩
 by_cases h0 : 0 <= i
 . have hj : i.toNat = j := by
    rw [seqIndex_of h0 h5] at h1
    exact Option.some.inj h1
   exact item_listR pl.isList h0 (by omega) (by rw [hj]; simpa using ew) fin hs
 . have hj : (i + (its.toArray.size : Int)).toNat = j := by
    rw [seqIndex_neg (by omega) h4] at h1
    rw [List.size_toArray, <- hl]
    exact Option.some.inj h1
   exact subscriptTail_builtinR (x := w) pl.isList.typeIs slot_list_getitem.lookup
    (wpAny_getItem_list_neg (Q := fun r s' => r = w /\ EP X pins σ Q r s') pl.isList (by omega) (by rw [List.size_toArray] <;> omega) (by omega) (by rw [hj]; simpa using ew) ⟨rfl, fin⟩) hs
def Zi3 : IxR X (rIxT X.K) := by
 intro value slice pins s σ H x y v u Q I rx ry h hs
 obtain ⟨p, xs, i, z, rfl, rfl, hq, he, q⟩ := h
 cases rx
 obtain ⟨t, rfl⟩ := ry
 obtain ⟨its, r, pl, hz⟩ := I.tuple hq
 obtain ⟨j, h1, h2, h3, h4, h5⟩ := ZeE he
 obtain ⟨w, ew, rw'⟩ := r.get h2
 have hl := r.length
 have hn := ZbQ
 have fin : EP X pins σ Q w s := ⟨z, H, I, rw', q⟩
 exact subscriptTail_builtinR (x := w) pl.typeIs slot_tuple_getitem.lookup
  (getItem_tuple (j := j) (Q := fun r s' => r = w /\ EP X pins σ Q r s') pl (by omega) (by omega) (by rw [List.size_toArray, <- hl]; exact h1) (by simpa using ew) ⟨rfl, fin⟩) hs
def Znf : IxR X rIxS := by
 intro value slice pins s σ H x y v u Q I rx ry h hs
 obtain ⟨z, i, c, rfl, rfl, hz, he, q⟩ := h
 obtain ⟨t, rfl⟩ := rx
 obtain ⟨t', rfl⟩ := ry
 obtain ⟨j, h1, h2, h3, h4, h5⟩ := ZeE he
 have hl : z.cps.toList.length = z.length := by simp [Str.length]
 rw [hl] at h1 h4 h5
 have hn := ZbQ
 exact tail_any (typeIs_str s z t) slot_str_getitem.lookup (getItem_str (c := c) (by
  have e1 : decide (i < -(2 ^ 63 : Int)) = false := decide_eq_false (by omega)
  have e2 : decide (i ≥ 2 ^ 63) = false := decide_eq_false (by omega)
  rw [e1, e2, Bool.or_false]) (by rw [h1]; simpa using h2) ⟨.str ⟨#[c]⟩, H, I.tok _, ⟨_, rfl⟩, q⟩) hs
def ZhH (its : List Value) (n j : Nat) (u : Value) : Obj.mapSeq (·.setIfInBounds j u) { cls := .type "list", data := .seq its.toArray n } = { cls := .type "list", data := .seq (its.set j u).toArray n } := by
 simp [Obj.mapSeq]
def Inv.lst (I : Inv X pins σ H s) (h : H p = some (.lst xs)) :
 ∃ (its : List Value) (n : Nat), Vals xs its /\ s.heap.get? p = some { cls := .type "list", data := .seq its.toArray n } /\ xs.length <= sizeLine := by
 obtain ⟨z, its, n, r, e⟩ := I.hok p _ h
 exact ⟨its, n, r, e, z⟩
def Inv.lstUpd {σ : St} {p : Addr} {xs : List V} {its : List Value} {n n' : Nat} {f : Obj -> Obj} (I : Inv X pins σ H s) (h : H p = some (.lst xs))
 (ho : s.heap.get? p = some { cls := .type "list", data := .seq its.toArray n }) (hf : f { cls := .type "list", data := .seq its.toArray n } = { cls := .type "list", data := .seq its'.toArray n' }) (r : Vals ys its') (hz : ys.length <= sizeLine) (t : Nat) :
 Inv X pins σ (upd H p (.lst ys)) { s with heap := s.heap.update p f, toks := t } := by
 have e : (s.heap.update p f).get? p = some { cls := .type "list", data := .seq its'.toArray n' } := by
  rw [Heap.get?_update_self f ho (by rw [hf] <;> rfl), hf]
 refine I.write (x := p) (e := p) (by rw [h]; trivial) (.inl rfl) (fun b u hb q => (Heap.get?_update_other _ _ (Ne.symm hb)).trans q) ⟨_, e⟩ ?_
 exact ⟨hz, its', n', r, e⟩
def Zk3 : V -> V -> V -> Hp -> (Hp -> Prop) -> Prop := fun o i v H Q => ∃ p xs k j, o = .ref p /\ i = .int k /\ H p = some (.lst xs) /\ ixN xs.length k = some j /\ Q (upd H p (.lst (xs.set j v)))
def Zjr : PSet X Zk3 := by
 intro pins s σ H o i v ov iv u Q I ro ri rv h
 obtain ⟨p, xs, k, j, rfl, rfl, hp, hj, q⟩ := h
 cases ro
 obtain ⟨t, rfl⟩ := ri
 obtain ⟨its, n, r, ho, hz⟩ := I.lst hp
 obtain ⟨h1, h2, h3, h4⟩ := Zhc hj
 have hl := r.length
 have hn := ZbQ
 have I' : Inv X pins σ (upd H p (.lst (xs.set j v))) { s with heap := s.heap.update p (Obj.mapSeq (·.setIfInBounds j u)) } :=
  I.lstUpd hp ho (ZhH its n j u) (r.set rv j) (by rw [List.length_set]; exact hz) s.toks
 by_cases h0 : 0 <= k
 . have hk : k.toNat = j := by
    rw [seqIndex_of h0 h4] at h1
    exact Option.some.inj h1
   exact PySem.W.ki_setAt ho h0 (by omega) (by rw [List.size_toArray, <- hl]; exact h4) (by rw [hk]; exact ⟨_, I', q⟩)
 . have hk : (k + (its.toArray.size : Int)).toNat = j := by
    rw [seqIndex_neg (by omega) h3] at h1
    rw [List.size_toArray, <- hl]
    exact Option.some.inj h1
   exact PySem.W.ki_setBack ho (by omega) (by rw [List.size_toArray, <- hl]; exact h3) (by omega) (by rw [hk]; exact ⟨_, I', q⟩)
def ZfA (lo hi : Option Int) (n : Nat) : (sliceBounds lo hi none n).1 = ((HT.sIx n 0 lo : Nat) : Int) /\ (sliceBounds lo hi none n).2.1 = ((HT.sIx n n hi : Nat) : Int) /\ (sliceBounds lo hi none n).2.2 = 1 := by
 refine ⟨?_, ?_, rfl⟩
 . cases lo with
   | none => simp [sliceBounds, HT.sIx]
   | some i =>
    simp only [sliceBounds, HT.sIx, Option.getD_none, show (1 : Int) > 0 by decide, if_true]
    by_cases h : i < 0
    . simp only [h, if_true] <;> omega
    . simp only [h, if_false] <;> omega
 . cases hi with
   | none => simp [sliceBounds, HT.sIx]
   | some i =>
    simp only [sliceBounds, HT.sIx, Option.getD_none, show (1 : Int) > 0 by decide, if_true]
    by_cases h : i < 0
    . simp only [h, if_true] <;> omega
    . simp only [h, if_false] <;> omega
def Zfu (its : List Value) (lo hi : Option Int) : slicePick its.toArray lo hi none = ((its.drop (HT.sIx its.length 0 lo)).take (HT.sIx its.length its.length hi - HT.sIx its.length 0 lo)).toArray := by
 obtain ⟨h1, h2, h3⟩ := ZfA lo hi its.toArray.size
 unfold slicePick
 rw [h1, h2, h3]
 simp only [sliceRange_one, pick_run, List.size_toArray] <;> rfl
def rSlL (K : Fg) : V -> Option Int -> Option Int -> Hp -> VK -> Prop := fun x lo hi H Q => ∃ a xs, x = .ref a /\ SqL K H a xs /\ ∀ p, H p = none -> Q (.ref p) (upd H p (.lst (cutV xs lo hi)))
def Zhf : SlR X (rSlL X.K) := by
 intro pins s σ H x v vl vu lo hi sl Q I rx hs pl pu h
 obtain ⟨a, xs, rfl, hx, q⟩ := h
 cases rx
 obtain ⟨its, r, ht, hz⟩ := I.list hx
 have hlen := r.length
 refine ⟨"list", _, slot_list_getitem.lookup, ht.isList.typeIs, ?_⟩
 refine wpAny_getItem_list_slice ht.isList hs pl pu .none (by simp) ?_ (by rw [List.size_toArray] <;> omega)
 rw [Zfu, <- hlen]
 refine ⟨.ref s.heap.objs.size, _, I.laid (t' := s.toks) (o := .lst (cutV xs lo hi)) (fun b ob q => Heap.get?_push_of_some _ q) (Nat.le_refl _) ?_, rfl, q _ (I.hok.fresh (Nat.le_refl _))⟩
 exact ⟨Nat.le_trans (ZgG xs lo hi) hz, _, 0, (r.drop (HT.sIx xs.length 0 lo)).take (HT.sIx xs.length xs.length hi - HT.sIx xs.length 0 lo), Heap.get?_push_size _ rfl⟩
noncomputable def ZrD : V -> Bool
 | .non => true
 | .bl _ => true
 | .int _ => true
 | .str _ => true
 | _ => false
noncomputable def eqV : V -> V -> Bool
 | .non, .non => true
 | .bl a, .bl b => a == b
 | .bl a, .int b => (if a then 1 else 0) == b
 | .int a, .bl b => a == (if b then 1 else 0)
 | .int a, .int b => a == b
 | .str a, .str b => a == b
 | _, _ => false
def ZaY : ZI X (.builtin "len") (fun xs H Q => ∃ p ys, xs = [.ref p] /\ (SqL X.K H p ys \/ SqT X.K H p ys) /\ Q (.int ys.length) H) := by
 intro pins s σ H xs us Q I r h
 obtain ⟨p, ys, rfl, hq, q⟩ := h
 obtain ⟨u, rfl, rx⟩ := ZcH r
 cases rx
 have hn := ZbQ
 rcases hq with hq | hq
 . obtain ⟨its, r', pl, hz⟩ := I.list hq
   have hlen := r'.length
   exact Calls.call_len_list pl.isList (by simp only [List.size_toArray] <;> omega) ⟨.int ys.length, H, I.tok _, ⟨s.toks + 1, by rw [List.size_toArray, hlen]⟩, q⟩
 . obtain ⟨its, r', pl, hz⟩ := I.tuple hq
   have hlen := r'.length
   exact len_tuple pl (by simp only [List.size_toArray] <;> omega) ⟨.int ys.length, H, I.tok _, ⟨s.toks + 1, by rw [List.size_toArray, hlen]⟩, q⟩
def ZfB : ZI X (.builtin "len") (fun xs H Q => ∃ z, xs = [.str z] /\ z.length <= sizeLine /\ Q (.int z.length) H) := by
 intro pins s σ H xs us Q I r h
 obtain ⟨z, rfl, hz, q⟩ := h
 obtain ⟨u, rfl, t, rfl⟩ := ZcH r
 have hn := ZbQ
 exact len_str (by omega) ⟨.int z.length, H, I.tok _, ⟨_, rfl⟩, q⟩
def ZaZ : ZI X (.type "list") (fun xs H Q => ∃ p ys, xs = [.ref p] /\ (SqL X.K H p ys \/ SqT X.K H p ys) /\ ∀ l, H l = none -> Q (.ref l) (upd H l (.lst ys))) := by
 intro pins s σ H xs us Q I r h
 obtain ⟨p, ys, rfl, hq, q⟩ := h
 obtain ⟨u, rfl, rx⟩ := ZcH r
 cases rx
 have fin : ∀ (its : List Value), Vals ys its -> ys.length <= sizeLine -> ∀ (h' : Heap) (c' : Nat), (∀ b o', s.heap.get? b = some o' -> h'.get? b = some o') ->
  h'.get? s.heap.objs.size = some { cls := .type "list", dict := none, data := .seq its.toArray c', slots := #[] } -> EP X pins σ Q (.ref s.heap.objs.size) { s with heap := h' } := fun its r' hz h' c' kp e =>
  ⟨.ref s.heap.objs.size, _, I.laid (t' := s.toks) kp (Nat.le_refl _) (show Z7 X.prog X.w _ h' _ (.lst ys) from ⟨hz, its, c', r', e⟩), rfl, q _ (I.hok.fresh (Nat.le_refl _))⟩
 rcases hq with hq | hq
 . obtain ⟨its, r', pl, hz⟩ := I.list hq
   have hlen := r'.length
   obtain ⟨o, ho, hc, n, hd⟩ := pl.isList
   exact call_list_seq p (.inl rfl) ho hc hd (fun h' c' kp e => fin its r' hz h' c' kp e) (by simp only [List.size_toArray] <;> omega)
 . obtain ⟨its, r', pl, hz⟩ := I.tuple hq
   have hlen := r'.length
   obtain ⟨o, ho, hc, n, hd⟩ := pl
   exact call_list_seq p (.inr rfl) ho hc hd (fun h' c' kp e => fin its r' hz h' c' kp e) (by simp only [List.size_toArray] <;> omega)
def tyV (K : Fg) (T : String) (x : V) (H : Hp) : Prop := match x with
 | .str _ => T = "str"
 | .int _ => T = "int"
 | .ref p => (T = "list" /\ ∃ xs, SqL K H p xs) \/ (T = "tuple" /\ ∃ o, K.lookup p = some o /\ o.cls = .type "tuple" /\ o.dict = none) \/
  (T = "dict" /\ ((∃ kvs, H p = some (.dK kvs)) \/ ∃ kvs, H p = some (.dT kvs))) \/ (T = "set" /\ ∃ S n, H p = some (.set S n))
 | _ => False
theorem Zng (I : Inv X pins σ H s) (r : RelV x v) (ty : tyV X.K T x H) :
 s.TypeIs v T /\ ∀ a, v = .ref a -> ∃ ob, s.heap.get? a = some ob /\ ob.dict = none := by
 cases x with
 | str z =>
  obtain ⟨t, rfl⟩ := r
  cases (show T = "str" from ty)
  exact ⟨typeIs_str s z t, fun _ e => nomatch e⟩
 | int i =>
  obtain ⟨t, rfl⟩ := r
  cases (show T = "int" from ty)
  exact ⟨typeIs_int s i t, fun _ e => nomatch e⟩
 | ref p =>
  cases r
  rcases ty with ⟨rfl, xs, hq⟩ | ⟨rfl, o, hk, hc, hd⟩ | ⟨rfl, hk⟩ | ⟨rfl, S, n, hk⟩
  . obtain ⟨its, _, pl, _⟩ := I.list hq
    refine ⟨pl.isList.typeIs, fun a e => ?_⟩
    cases e
    obtain ⟨o, n, e, c, hd, _⟩ := pl
    exact ⟨o, e, hd⟩
  . refine ⟨⟨o, I.kIn p o hk, hc⟩, fun a e => ?_⟩
    cases e
    exact ⟨o, I.kIn _ o hk, hd⟩
  . have z : ∃ o, s.heap.get? p = some o /\ o.ExactDict := by
     rcases hk with ⟨kvs, hk⟩ | ⟨kvs, hk⟩
     . obtain ⟨_, _, _, _, o, _, _, e, ex, _⟩ := I.hok p _ hk
       exact ⟨o, e, ex⟩
     . obtain ⟨_, _, _, _, o, _, _, e, ex, _⟩ := I.hok p _ hk
       exact ⟨o, e, ex⟩
    obtain ⟨o, e, ex⟩ := z
    refine ⟨⟨o, e, ex.1⟩, fun a e2 => ?_⟩
    cases e2
    exact ⟨o, e, ex.2.1⟩
  . obtain ⟨o, _, _, _, e, ex, _⟩ := I.hok p _ hk
    refine ⟨⟨o, e, ex.1⟩, fun a e2 => ?_⟩
    cases e2
    exact ⟨o, e, ex.2.1⟩
 | _ => exact False.elim ty
def tBM (K : Fg) (T : String) (r : V -> List V -> Hp -> VK -> Prop) (to : TE) (t : TA) : TE := fun σ H Q => to σ H fun x H1 => tyV K T x H1 /\ t σ H1 fun xs H2 => r x xs H2 Q
variable {o e : Expr} {es : List Expr} {to : TE} {t : TA} {name : Str} {apos cpos : Pos} {T id : String} {r : V -> List V -> Hp -> VK -> Prop}
def ZhI (pa : PlainAttrs T) (slot : Slot T name id) (hty : typeOf (.builtin id) = pure (.type "method_descriptor")) (hm : MtR X id r) (ho : PE X o to) (ha : PA X (e :: es) t)
 (hbase : attributeBase o name X.env (eval o X.env) = eval o X.env := by rfl)
 (hfew : ((backTo cpos (starEach (e :: es) X.env)).all (fun x => !x.1) && (backToKw cpos (keywordEach [] X.env)).all (fun x => x.1.isSome)
  && decide ((e :: es).length + ([] : List Keyword).length + (if ([] : List Keyword).isEmpty then 0 else 1) < 30)) = true := by rfl)
 (hline : (apos.endLine == cpos.line) = true := by rfl) (hs : SE X e es := by rfl) (hplain : (backTo cpos (starEach es X.env)).any (·.1) = false := by rfl) :
 PE X (.Call (.Attribute o name apos) (e :: es) [] cpos) (tBM X.K T r to t) := by
 intro pins s σ H Q I h
 refine wpAny_Call_method_late hbase hfew hline rfl (thn (ho pins s σ H _ I h) fun v s1 z0 => ?_)
 obtain ⟨x, H1, I1, r1, ty, q1⟩ := z0
 obtain ⟨h1, h2⟩ := Zng I1 r1 ty
 refine ⟨T, id, pa, slot, hty, h1, h2, ?_⟩
 have hA := ha cpos pins s1 σ H1 _ I1 q1
 rw [hs] at hA ⊢
 refine Calls.callWith_builtin (by show (false || (backTo cpos (starEach es X.env)).any (·.1)) = false; rw [hplain] <;> rfl) (Calls.evalArgs_plain ?_)
 exact thn hA fun us s2 ⟨vs, H2, I2, r2, q2⟩ => hm pins s2 σ H2 x vs v us Q I2 r1 r2 q2
end
def MtM (X : Cx) (id : String) (r : V -> List V -> Hp -> VK -> Prop) : Prop :=
 ∀ (pins : Pn) (s : Shared) (σ : St) (H : Hp) (x : V) (xs : List V) (v : Value) (us : List Value) (Q : VK), Inv X pins σ H s -> RelV x v -> Vals xs us -> r x xs H Q ->
  wpAny (model X.prog X.w) X.A (call (.builtin id) (v :: us)) (EP X pins σ Q) X.xe s
theorem Vals.one : ∀ {x : V} {us : List Value}, Vals [x] us -> ∃ u, us = [u] /\ RelV x u
 | _, _, .cons r .nil => ⟨_, rfl, r⟩
theorem Vals.two : ∀ {x y : V} {us : List Value}, Vals [x, y] us -> ∃ u v, us = [u, v] /\ RelV x u /\ RelV y v
 | _, _, _, .cons r (.cons q .nil) => ⟨_, _, rfl, r, q⟩
theorem Vals.reverse (h : Vals xs us) : Vals xs.reverse us.reverse := by
 induction h with
 | nil => exact .nil
 | cons r t ih => rw [List.reverse_cons, List.reverse_cons]; exact Vals.append ih (.cons r .nil)
theorem Vals.rep (h : Vals xs us) : ∀ k : Nat, Vals (List.replicate k xs).flatten (List.replicate k us).flatten
 | 0 => .nil
 | k + 1 => by
  rw [List.replicate_succ, List.replicate_succ, List.flatten_cons, List.flatten_cons]
  exact Vals.append h (Vals.rep h k)
theorem Zfe (its : List Value) : ∀ (k : Nat) (acc : List Value),
 List.foldl (fun x1 x2 => x1 ++ x2) acc.toArray (List.replicate k its.toArray) = (acc ++ (List.replicate k its).flatten).toArray
 | 0, acc => by simp
 | k + 1, acc => by
  have e : acc.toArray ++ its.toArray = (acc ++ its).toArray := by simp
  have e2 : (acc ++ its) ++ (List.replicate k its).flatten = acc ++ (List.replicate (k + 1) its).flatten := by
   rw [List.replicate_succ, List.flatten_cons, List.append_assoc]
  rw [<- e2, <- Zfe its k (acc ++ its), <- e, List.replicate_succ, List.foldl_cons]
section
variable {σ : St} {l b : Addr} {xs zs : List V}
def Inv.lset {its : List Value} {n : Nat} {f : Array Value -> Array Value} {t' : Nat} (I : Inv X pins σ H s) (hH : H l = some (.lst xs))
 (e : s.heap.get? l = some { cls := .type "list", data := .seq its.toArray n }) (hf : f its.toArray = its'.toArray) (hv : Vals ys its') (hz : ys.length <= sizeLine) :
 Inv X pins σ (upd H l (.lst ys)) { s with heap := s.heap.update l (Obj.mapSeq f), toks := t' } := by
 have q := PySem.IsL.update e f
 rw [hf] at q
 refine I.write (x := l) (e := l) (by rw [hH]; exact trivial) (.inl rfl) (fun b' u hb hu => (Heap.get?_update_other s.heap (Obj.mapSeq f) (Ne.symm hb)).trans hu) ⟨_, q⟩ ?_
 exact ⟨hz, its', _, hv, q⟩
def Inv.lnew (I : Inv X pins σ H s) (hv : Vals ys its) (hz : ys.length <= sizeLine) :
 Inv X pins σ (upd H s.heap.objs.size (.lst ys)) { s with heap := s.heap.push { cls := .type "list", data := .seq its.toArray }, toks := t' } :=
 I.laid (fun _ _ q => Heap.get?_push_of_some _ q) (Nat.le_refl _) ⟨hz, its, 0, hv, Heap.get?_push_size _ rfl⟩
def Inv.fresh (I : Inv X pins σ H s) : H s.heap.objs.size = none := I.hok.fresh (Nat.le_refl _)
def Inv.lstM (I : Inv X pins σ H s) (hH : H l = some (.lst xs)) : xs.length <= sizeLine /\ ∃ (its : List Value) (n : Nat), Vals xs its /\ xs.length = its.length /\ s.heap.get? l = some { cls := .type "list", data := .seq its.toArray n } := by
 obtain ⟨z, its, n, r, e⟩ := I.hok l _ hH
 exact ⟨z, its, n, r, r.length, e⟩
def Zjs (h : n <= sizeLine) : Builtin.List.listTooLong n = false := by
 unfold Builtin.List.listTooLong
 exact decide_eq_false (by omega)
end
section
def Zln : V -> List V -> Hp -> VK -> Prop := fun x vs H Q => ∃ l xs y, x = .ref l /\ vs = [y] /\ H l = some (.lst xs) /\ xs.length < sizeLine /\ Q .non (upd H l (.lst (xs ++ [y])))
def Zff : MtM X "list.append" Zln := by
 intro pins s σ H x vs v us Q I rx rv h
 obtain ⟨l, xs, y, rfl, rfl, hH, hz, q⟩ := h
 cases rx
 obtain ⟨u, rfl, ru⟩ := rv.one
 obtain ⟨z, its, n, r, hl, e⟩ := I.lstM hH
 refine call_meets F.slot_list_append ⟨_, e, rfl⟩ F.entry_list_append (F.args_list_append_2 _ _) (PySem.list_append l its.toArray n u (by rw [List.size_toArray]; omega)) ⟨e, ?_⟩
 refine ⟨.non, _, I.lset (its' := its ++ [u]) hH e (by simp) (r.append (.cons ru .nil)) ?_, rfl, q⟩
 rw [List.length_append, List.length_singleton]
 omega
def rCat : R2 := fun x y H Q => ∃ l b xs zs, x = .ref l /\ y = .ref b /\ H l = some (.lst xs) /\ H b = some (.lst zs) /\ xs.length + zs.length <= sizeLine /\ ∀ p, H p = none -> Q (.ref p) (upd H p (.lst (xs ++ zs)))
def Znh : OpR X (binaryOp .Add) rCat := by
 intro pins s σ H x y v u Q I rx ry h
 obtain ⟨l, b, xs, zs, rfl, rfl, hH, hB, hz, q⟩ := h
 cases rx
 cases ry
 obtain ⟨z, its, n, r, hl, e⟩ := I.lstM hH
 obtain ⟨z2, its2, n2, r2, hl2, e2⟩ := I.lstM hB
 refine PySem.P.add_list e e2 ?_ (by rw [List.size_toArray, List.size_toArray]; omega)
 have ea : its.toArray ++ its2.toArray = (its ++ its2).toArray := by simp
 rw [ea]
 exact ⟨.ref _, _, I.lnew (t' := s.toks) (r.append r2) (by rw [List.length_append]; omega), rfl, q _ I.fresh⟩
def rRep : R2 := fun x y H Q => ∃ l k xs, x = .ref l /\ y = .int k /\ H l = some (.lst xs) /\ -(2 ^ 63) <= k /\ k < 2 ^ 63 /\ xs.length * k.toNat <= sizeLine /\
 ∀ p, H p = none -> Q (.ref p) (upd H p (.lst (List.replicate k.toNat xs).flatten))
theorem Zlo (xs : List α) (k : Nat) : (List.replicate k xs).flatten.length = k * xs.length := by
 induction k with
 | zero => simp
 | succ k ih => rw [List.replicate_succ, List.flatten_cons, List.length_append, ih, Nat.succ_mul, Nat.add_comm]
def Zni : OpR X (binaryOp .Mult) rRep := by
 intro pins s σ H x y v u Q I rx ry h
 obtain ⟨l, k, xs, rfl, rfl, hH, h1, h2, hz, q⟩ := h
 cases rx
 obtain ⟨t, rfl⟩ := ry
 obtain ⟨z, its, n, r, hl, e⟩ := I.lstM hH
 have hlen : its.toArray.size * k.toNat <= sizeLine := by rw [List.size_toArray, <- hl]; exact hz
 have hcap : ¬ its.toArray.size * k.toNat > (2 ^ 63 - 1) / 8 := by
  have : (sizeLine : Nat) <= (2 ^ 63 - 1) / 8 := by decide
  omega
 have hfit : ¬ (!Builtin.List.listFitsIndex k) = true := by
  rw [fitsIndex_both h1 h2]
  exact Bool.false_ne_true
 have hlong : ¬ Builtin.List.listTooLong (its.toArray.size * k.toNat) = true := by
  rw [Zjs hlen]
  exact Bool.false_ne_true
 have hnew : List.foldl (fun x1 x2 => x1 ++ x2) #[] (List.replicate (if its.toArray.isEmpty = true then 0 else k.toNat) its.toArray) = (List.replicate k.toNat its).flatten.toArray := by
  have f0 : ∀ m : Nat, List.foldl (fun x1 x2 => x1 ++ x2) #[] (List.replicate m its.toArray) = (List.replicate m its).flatten.toArray := fun m => by
   have := Zfe its m []
   rw [List.nil_append] at this
   exact this
  rw [f0]
  cases its with
  | nil => simp
  | cons a r' => rw [if_neg (by simp)]
 refine wpAny_binaryOp_repeat_ref (T := "list") (U := "int") (by decide) ⟨_, e, rfl⟩ (fun s' => typeIs_int s' k t) noFill_list_mul F.fills_int_mul F.slot_int_rmul repeat_list F.slot_int_index.lookup
  (call_meets F.slot_int_rmul (typeIs_int s k t) F.entry_int_rmul (F.args_int_rmul_2 _ _) (int___rmul___int_list k t l its.toArray n)
   ⟨e, rfl, ⟨_, e, rfl⟩, call_meets F.slot_list_mul ⟨_, e, rfl⟩ F.entry_list_mul (F.args_list_mul_2 _ _) (AutoListH.list___mul___list_int_3 l its.toArray n k t hfit hcap hlong) ⟨e, ?_⟩⟩)
 rw [hnew]
 exact ⟨.ref _, _, I.lnew (t' := s.toks) (r.rep k.toNat) (by rw [Zlo, Nat.mul_comm]; exact hz), rfl, q _ I.fresh⟩
end
section
variable {κ : Type} [DecidableEq κ]
noncomputable def valV (kvs : List (κ × V)) (k : κ) : Option V := (kvs.find? fun kv => decide (kv.1 = k)).map (·.2)
noncomputable def putK (kvs : List (κ × V)) (k : κ) (v : V) : List (κ × V) :=
 if (kvs.any fun kv => decide (kv.1 = k)) = true then kvs.map (fun kv => if kv.1 = k then (kv.1, v) else kv) else kvs ++ [(k, v)]
def ZfC : valV ([] : List (κ × V)) k = none := rfl
def ZcJ {p : κ × V} {r : List (κ × V)} {k : κ} (e : p.1 = k) : valV (p :: r) k = some p.2 := by simp [valV, List.find?_cons, e]
def ZcK {p : κ × V} {r : List (κ × V)} {k : κ} (e : ¬ p.1 = k) : valV (p :: r) k = valV r k := by simp [valV, List.find?_cons, e]
theorem ZfD (k : κ) : ∀ kvs : List (κ × V), (kvs.any fun kv => decide (kv.1 = k)) = (valV kvs k).isSome
 | [] => rfl
 | p :: r => by
  rw [List.any_cons]
  by_cases e : p.1 = k
  . simp only [ZcJ e, decide_eq_true e, Bool.true_or, Option.isSome_some]
  . rw [ZcK e, decide_eq_false e, Bool.false_or]; exact ZfD k r
def Zcv (kvs : List (κ × V)) (k : κ) (v : V) : (putK kvs k v).length <= kvs.length + 1 := by
 unfold putK
 split
 . rw [List.length_map]; omega
 . rw [List.length_append, List.length_cons, List.length_nil]; omega
theorem RelO.isSome_eq (r : RelO o u) : o.isSome = u.isSome := by
 cases o with
 | none => cases u with
  | none => rfl
  | some _ => exact (show False from r).elim
 | some _ => cases u with
  | none => exact (show False from r).elim
  | some _ => rfl
theorem KV.val (r : KV kvs vs) (k : κ) : RelO (valV kvs k) (valueAt vs k) := by
 unfold KV at r
 induction r with
 | nil => exact True.intro
 | @cons p q ps qs h t ih =>
  obtain ⟨h1, h2⟩ := h
  by_cases e : p.1 = k
  . have e' : q.1 = k := h1.symm.trans e
    have b : valueAt (q :: qs) k = some q.2 := by simp [valueAt, List.find?_cons, e']
    rw [ZcJ e, b]; exact h2
  . have e' : ¬ q.1 = k := fun z => e (h1.trans z)
    have b : valueAt (q :: qs) k = valueAt qs k := by simp [valueAt, List.find?_cons, e']
    rw [ZcK e, b]; exact ih
theorem KV.any (r : KV kvs vs) (k : κ) : (kvs.any fun kv => decide (kv.1 = k)) = vs.any fun kv => decide (kv.1 = k) := by
 unfold KV at r
 induction r with
 | nil => rfl
 | cons h t ih => rw [List.any_cons, List.any_cons, ih, h.1]
theorem KV.repl (r : KV kvs vs) (k : κ) (ry : RelV y u) :
 KV (kvs.map fun kv => if kv.1 = k then (kv.1, y) else kv) (vs.map fun kv => if kv.1 = k then (kv.1, u) else kv) := by
 unfold KV at r ⊢
 induction r with
 | nil => exact .nil
 | @cons p q ps qs h t ih =>
  rw [List.map_cons, List.map_cons]
  refine .cons ?_ ih
  obtain ⟨h1, h2⟩ := h
  by_cases e : p.1 = k
  . rw [if_pos e, if_pos (h1.symm.trans e)]; exact ⟨h1, ry⟩
  . rw [if_neg e, if_neg (fun z => e (h1.trans z))]; exact ⟨h1, h2⟩
def KV.put (r : KV kvs vs) (k : κ) (ry : RelV y u) : KV (putK kvs k y) (stored vs k u) := by
 unfold putK stored
 rw [r.any k]
 by_cases e : (vs.any fun kv => decide (kv.1 = k)) = true
 . rw [if_pos e, if_pos e]; exact r.repl k ry
 . rw [if_neg e, if_neg e]; exact Paired.snoc r ⟨rfl, ry⟩
def KV.length (r : KV kvs vs) : kvs.length = vs.length := Paired.length r
end
theorem Zd8 (r : RelV (kV k) u) : (ZQ P w).is k u = true := by
 cases k with
 | inl i => obtain ⟨t, e⟩ := (show ∃ t, u = Value.int i t from r); subst e; exact ZgE P w i t
 | inr x => obtain ⟨t, e⟩ := (show ∃ t, u = Value.str x t from r); subst e; exact ZgF P w x t
theorem Zfg : ∀ {ks : List Key} {us : List Value}, Vals (ks.map kV) us -> ItemsAre (ZQ P w) ks us
 | [], _, r => by rw [List.map_nil] at r; cases r; exact .nil
 | k :: ks, _, r => by
  rw [List.map_cons] at r
  cases r with
  | cons h t => exact .cons (Zd8 h) (Zfg t)
abbrev KT (H : Hp) : List (List Key × V) -> List (List Key × Addr × Value) -> Prop := Paired fun p q => p.1 = q.1 /\ H q.2.1 = some (.tup (p.1.map kV)) /\ RelV p.2 q.2.2
theorem KT.val (r : KT H kvs xs) (k : List Key) : RelO (valV kvs k) ((atKey xs k).map (·.2)) := by
 induction r with
 | nil => exact True.intro
 | @cons p q ps qs h t ih =>
  obtain ⟨h1, _, h2⟩ := h
  by_cases e : p.1 = k
  . have e' : q.1 = k := h1.symm.trans e
    have b : atKey (q :: qs) k = some q.2 := by simp [atKey, List.find?_cons, e']
    rw [ZcJ e, b]; exact h2
  . have e' : ¬ q.1 = k := fun z => e (h1.trans z)
    have b : atKey (q :: qs) k = atKey qs k := by simp [atKey, List.find?_cons, e']
    rw [ZcK e, b]; exact ih
theorem KT.repl (r : KT H kvs xs) (k : List Key) (ry : RelV y u) :
 KT H (kvs.map fun kv => if kv.1 = k then (kv.1, y) else kv) (xs.map (putAt k u)) := by
 induction r with
 | nil => exact .nil
 | @cons p q ps qs h t ih =>
  rw [List.map_cons, List.map_cons]
  refine .cons ?_ ih
  obtain ⟨h1, h2, h3⟩ := h
  unfold putAt
  by_cases e : p.1 = k
  . rw [if_pos e, if_pos (h1.symm.trans e)]; exact ⟨h1, h2, ry⟩
  . rw [if_neg e, if_neg (fun z => e (h1.trans z))]; exact ⟨h1, h2, h3⟩
def KT.put (r : KT H kvs xs) (k : List Key) (hb : H b = some (.tup (k.map kV))) (ry : RelV y u) :
 KT H (putK kvs k y) (storedH xs k b u) := by
 have e : (kvs.any fun kv => decide (kv.1 = k)) = (atKey xs k).isSome := by
  rw [ZfD, (r.val k).isSome_eq, Option.isSome_map]
 unfold putK storedH
 rw [e]
 by_cases q : (atKey xs k).isSome = true
 . rw [if_pos q, if_pos q]; exact r.repl k ry
 . rw [if_neg q, if_neg q]; exact Paired.snoc r ⟨rfl, hb, ry⟩
def KT.keeps (r : KT H kvs xs) (ht : ∀ b ys, H b = some (.tup ys) -> H' b = some (.tup ys)) : KT H' kvs xs :=
 Paired.mapP r fun _ _ z => ⟨z.1, ht _ _ z.2.1, z.2.2⟩
section
def Zk4 (ok : HOk P w H h) (e : Rd H a u) : Z7 P w H h a u := e.ok ok
def Zd9 (ok : HOk P w H h) (e : Rd H a (.dK kvs)) : kvs.length <= sizeLine /\ (a == sysModules) = false /\ ∃ vs, KV kvs vs /\ h.DictOf (ZQ P w) a vs :=
 show Z7 P w H h a (.dK kvs) from Zk4 ok e
def Zk5 (ok : HOk P w H h) (e : H a = some (.dK kvs)) : kvs.length <= sizeLine /\ (a == sysModules) = false /\ ∃ vs, KV kvs vs /\ h.DictOf (ZQ P w) a vs := Zd9 ok (.inl e)
def ZcZ (ok : HOk P w H h) (e : H a = some (.tup (ks.map kV))) : (tupleKind (ZQ P w)).is h ks a := by
 obtain ⟨_, its, r, o, h1, h2, n, h3⟩ := (show Z7 P w H h a (.tup (ks.map kV)) from ok a _ e)
 exact ⟨o, its.toArray, n, h1, h2, h3, by simpa using Zfg r⟩
def Zee (ok : HOk P w H h) (e : Rd H a (.dT kvs)) : kvs.length <= sizeLine /\ (a == sysModules) = false /\
 ∃ xs, KT H kvs xs /\ h.DictOfH (tupleKind (ZQ P w)) a xs := by
 obtain ⟨z, y, xs, r, o, es, ep, h1, h2, h3, h4, h5⟩ := (show Z7 P w H h a (.dT kvs) from Zk4 ok e)
 refine ⟨z, y, xs, r, o, es, ep, h1, h2, h3, h4, fun x hx => ?_, h5⟩
 have all : ∀ {l : List (List Key × V)} {m : List (List Key × Addr × Value)}, KT H l m -> ∀ x ∈ m, (tupleKind (ZQ P w)).is h x.1 x.2.1 := by
  intro l m q
  induction q with
  | nil => intro x hx; exact nomatch hx
  | @cons p q ps qs hq t ih =>
   intro x hx
   rcases List.mem_cons.mp hx with e | hx
   . subst e
     exact ZcZ ok (by rw [<- hq.1]; exact hq.2.1)
   . exact ih x hx
 exact all r x hx
def Zpr (ok : HOk P w H h) (e : H a = some (.dT kvs)) : kvs.length <= sizeLine /\ (a == sysModules) = false /\
 ∃ xs, KT H kvs xs /\ h.DictOfH (tupleKind (ZQ P w)) a xs := Zee ok (.inl e)
end
def DGet (H : Hp) (a : Addr) (y : V) (r : Option V) : Prop :=
 (∃ kvs k, Rd H a (.dK kvs) /\ y = kV k /\ r = valV kvs k) \/ ∃ kvs k b, Rd H a (.dT kvs) /\ y = .ref b /\ H b = some (.tup (k.map kV)) /\ r = valV kvs k
def DPut (H : Hp) (a : Addr) (y v : V) (H' : Hp) : Prop :=
 (∃ kvs k, H a = some (.dK kvs) /\ y = kV k /\ kvs.length < sizeLine /\ H' = upd H a (.dK (putK kvs k v))) \/
 ∃ kvs k b, H a = some (.dT kvs) /\ y = .ref b /\ H b = some (.tup (k.map kV)) /\ kvs.length < sizeLine /\ H' = upd H a (.dT (putK kvs k v))
def DGet.k {a : Addr} {kvs : List (Key × V)} {k : Key} (e : H a = some (.dK kvs)) : DGet H a (kV k) (valV kvs k) := .inl ⟨kvs, k, .inl e, rfl, rfl⟩
def DPut.k {a : Addr} {kvs : List (Key × V)} {k : Key} {v : V} (e : H a = some (.dK kvs)) (hl : kvs.length < sizeLine) : DPut H a (kV k) v (upd H a (.dK (putK kvs k v))) := .inl ⟨kvs, k, e, rfl, hl, rfl⟩
section
def Inv.big (I : Inv X pins σ H s) : sysModules < s.heap.objs.size := by
 have h : mainGlobals < s.heap.objs.size := (I.mod.glob.keeps I.bk).lt
 exact Nat.lt_trans (by decide) h
def Zi4 (hu : A.units + 1 < cLine) (I : Inv X pins σ H s) (g : DGet H a y (some v)) (ry : RelV y u) (h : ∀ w' s', Inv X pins σ H s' -> RelV v w' -> Q w' s') :
 wpAny (model X.prog X.w) A (getItem (.ref a) u) Q E s := by
 rcases g with ⟨kvs, k, e, ey, l⟩ | ⟨kvs, k, b, e, ey, eb, l⟩
 . subst ey
   obtain ⟨z, hd, vs, rel, dd⟩ := Zd9 I.hok e
   obtain ⟨w', hw, rw'⟩ := RelO.some_of (v := v) (o := valueAt vs k) (by rw [l]; exact rel.val k)
   exact wpAny_getItem_of (Zd8 ry) dd.mapOf hw (h w' _ (I.tok _) rw')
 . subst ey
   cases (show u = Value.ref b from ry)
   obtain ⟨z, hd, xs, rel, dd⟩ := Zee I.hok e
   obtain ⟨w', hw, rw'⟩ := RelO.some_of (v := v) (o := (atKey xs k).map (·.2)) (by rw [l]; exact rel.val k)
   obtain ⟨p, hp, hp2⟩ := Option.map_eq_some_iff.mp hw
   refine wpAny_getItem_heap (tupleKind_room_in1 hu) (ZcZ I.hok eb) dd hp ?_
   rw [hp2]
   exact h w' _ (I.tok _) rw'
def d_in (hu : A.units + 1 < cLine) (I : Inv X pins σ H s) (g : DGet H a y o) (ry : RelV y u) (h : ∀ s', Inv X pins σ H s' -> Q (.bool o.isSome) s') :
 wpAny (model X.prog X.w) A (compareOp .In u (.ref a)) Q E s := by
 rcases g with ⟨kvs, k, e, ey, l⟩ | ⟨kvs, k, b, e, ey, eb, l⟩
 . subst ey
   obtain ⟨z, hd, vs, rel, dd⟩ := Zd9 I.hok e
   refine wpAny_in_of (Zd8 ry) hd dd.mapOf ?_
   rw [<- (rel.val k).isSome_eq, <- l]
   exact h _ (I.tok _)
 . subst ey
   cases (show u = Value.ref b from ry)
   obtain ⟨z, hd, xs, rel, dd⟩ := Zee I.hok e
   refine wpAny_in_heap (tupleKind_room_in1 hu) (ZcZ I.hok eb) hd dd ?_
   have q := (rel.val k).isSome_eq
   rw [Option.isSome_map] at q
   rw [<- q, <- l]
   exact h _ (I.tok _)
def Zlp (hu : A.units + 1 < cLine) (I : Inv X pins σ H s) (g : DGet H a y o) (ry : RelV y u) (h : ∀ s', Inv X pins σ H s' -> Q (.bool (!o.isSome)) s') :
 wpAny (model X.prog X.w) A (compareOp .NotIn u (.ref a)) Q E s := by
 rcases g with ⟨kvs, k, e, ey, l⟩ | ⟨kvs, k, b, e, ey, eb, l⟩
 . subst ey
   obtain ⟨z, hd, vs, rel, dd⟩ := Zd9 I.hok e
   refine wpAny_notIn_of (Zd8 ry) hd dd.mapOf ?_
   rw [<- (rel.val k).isSome_eq, <- l]
   exact h _ (I.tok _)
 . subst ey
   cases (show u = Value.ref b from ry)
   obtain ⟨z, hd, xs, rel, dd⟩ := Zee I.hok e
   refine wpAny_notIn_heap (tupleKind_room_in1 hu) (ZcZ I.hok eb) hd dd ?_
   have q := (rel.val k).isSome_eq
   rw [Option.isSome_map] at q
   rw [<- q, <- l]
   exact h _ (I.tok _)
def ZeF (I : Inv X pins σ H s) (mu : Mut (H a)) (hs : Heap.SameBut a s.heap h') (he : ∃ q, h'.get? a = some q) (new : Z7 X.prog X.w (upd H a ob) h' a ob) :
 Inv X pins σ (upd H a ob) { s with heap := h', toks := t' } :=
 I.write (x := a) (e := a) mu (.inl rfl) (fun b q hb z => (hs.2 b hb).trans z) he new
def Zi5 (z : kvs.length <= sizeLine) (hd : (a == sysModules) = false) (rel : KV kvs vs) (dd : h'.DictOf (ZQ P w) a vs) :
 Z7 P w H' h' a (.dK kvs) := ⟨z, hd, vs, rel, dd⟩
def Zi6 (hu : A.units + 1 < cLine) (I : Inv X pins σ H s) (g : DPut H a y v H') (ry : RelV y u) (rv : RelV v r) (h : ∀ s', Inv X pins σ H' s' -> Q () s') :
 wpAny (model X.prog X.w) A (setItem (.ref a) u r) Q E s := by
 rcases g with ⟨kvs, k, e, ey, l, eH⟩ | ⟨kvs, k, b, e, ey, eb, l, eH⟩
 . subst ey eH
   obtain ⟨z, hd, vs, rel, dd⟩ := Zk5 I.hok e
   have hz : vs.length <= sizeLine := by rw [<- rel.length]; exact z
   have hl : (putK kvs k v).length <= sizeLine := by have := Zcv kvs k v; omega
   refine wpAny_setItem_pairs (hsz := hz) (Zd8 ry) dd fun h' dd' hs => h _ ?_
   have he : ∃ q, h'.get? a = some q := let ⟨q, _, _, hq, _⟩ := dd'; ⟨q, hq⟩
   exact ZeF I (by rw [e]; exact True.intro) hs he (Zi5 hl hd (rel.put k rv) dd')
 . subst ey eH
   cases (show u = Value.ref b from ry)
   obtain ⟨z, hd, xs, rel, dd⟩ := Zpr I.hok e
   have hz : xs.length <= sizeLine := by rw [<- Paired.length rel]; exact z
   have hl : (putK kvs k v).length <= sizeLine := by have := Zcv kvs k v; omega
   refine wpAny_setItem_heap (hsz := hz) (tupleKind_room_in1 hu) (ZcZ I.hok eb) dd fun h' dd' hs => h _ ?_
   obtain ⟨q, es, ep, hq, h2, h3, h4, _, h5⟩ := dd'
   refine ZeF I (by rw [e]; exact True.intro) hs ⟨q, hq⟩ ⟨hl, hd, _, (rel.put k eb rv).keeps fun c ys ec => ?_, q, es, ep, hq, h2, h3, h4, h5⟩
   rw [Zk (ZoT ec e (fun z => nomatch z))]
   exact ec
end
section
def Zps (I : Inv X pins σ H s) (e : Rd H a (.dK kvs)) (h : ∀ t s', Inv X pins σ H s' -> Q (.int kvs.length t) s') : wpAny (model X.prog X.w) A (call (.builtin "len") [.ref a]) Q E s := by
 obtain ⟨z, hd, vs, rel, dd⟩ := Zd9 I.hok e
 refine call_len_dict hd dd (by rw [<- rel.length]; rw [sizeLine_eq] at z; omega) ?_
 rw [<- rel.length]
 exact h _ _ (I.tok _)
end
def NoSl (i : Expr) : Prop := ∀ ov iv, subscripted i false ov iv = operate [ov, iv] (getItem ov iv)
def Zlq {prog : Program} {w : World} {A : Around} {E : VS} {env : Env} {value slice : Expr} {T id : String} {Q : VS}
 (hl : typeLookup (.type T) "__getitem__" = pure (some (.builtin id))) (hs : NoSl slice)
 (h : wpAny (model prog w) A (eval value env) (fun o s₁ => wpAny (model prog w) A (eval slice env) (fun i s₂ => s₂.TypeIs o T /\ wpAny (model prog w) A (getItem o i) Q E s₂) E s₁) E s) :
 wpAny (model prog w) A (eval (.Subscript value slice pos) env) Q E s := by
 refine Subscript_ (wpAny_mono h (fun o s₁ h₁ => wpAny_mono h₁ (fun i s₂ h₂ => ?_) fun _ _ x => x) fun _ _ x => x)
 obtain ⟨hT, h₂⟩ := h₂
 unfold subscriptTail
 refine wpAny_bind ?_
 rw [getitemInPython_of_ne hT.not_modules]
 refine wpAny_bind (wpAny_specialOf hT hl ?_)
 have fin : wpAny (model prog w) A (subscripted slice false o i) (fun r s₃ => wpAny (model prog w) A (letTemporaryGo value o r >>= fun _ => pure r) Q E s₃) E s₂ := by
  rw [hs o i]
  exact wpAny_operating (wpAny_mono h₂ (fun r s₃ h₃ => wpAny_bind (wpAny_letTemporaryGo (wpAny_pure h₃))) fun _ _ x => x)
 first
  | exact wpAny_pure (wpAny_bind fin)
  | exact wpAny_bind (wpAny_pure (wpAny_bind fin))
  | exact wpAny_bind fin
def ZgH (I : Inv X pins σ H s) (g : DGet H a y o) : s.TypeIs (.ref a) "dict" := by
 rcases g with ⟨kvs, k, e, _, _⟩ | ⟨kvs, k, b, e, _, _, _⟩
 . obtain ⟨_, _, vs, _, dd⟩ := Zd9 I.hok e
   exact dd.typeIs
 . obtain ⟨_, _, xs, _, dd⟩ := Zee I.hok e
   exact dd.typeIs
def Zpt (td ty : TE) : TE := fun σ H Q => td σ H fun x H1 => ty σ H1 fun y H2 => ∃ a v, x = .ref a /\ DGet H2 a y (some v) /\ Q v H2
section
def Zlr (hu : X.A.units + 1 < cLine) (ho : PE X o td) (hi : PE X i ty) (hs : NoSl i) : PE X (.Subscript o i pos) (Zpt td ty) := by
 intro pins s σ H Q I h
 refine Zlq PySem.F.slot_dict_getitem.lookup hs (thn (ho pins s σ H _ I h) fun u s1 ⟨x, H1, I1, rx, q1⟩ => thn (hi pins s1 σ H1 _ I1 q1) fun iv s2 ⟨y, H2, I2, ry, a, v, ex, g, q2⟩ => ?_)
 subst ex
 obtain rfl : u = Value.ref a := rx
 exact ⟨ZgH I2 g, Zi4 hu I2 g ry fun w' s3 I3 rw' => ⟨v, H2, I3, rw', q2⟩⟩
end
def Zjt (h : Heap) (hb : sysModules < h.objs.size) : Z7 P w H (h.push { cls := .type "dict", data := .dict #[] }) h.objs.size (.dK []) :=
 ⟨Nat.zero_le _, beq_eq_false_iff_ne.mpr (Ne.symm (Nat.ne_of_lt hb)), [], .nil, Heap.DictOf.new h⟩
def ZfE : List (TE × TE) -> St -> Hp -> (List (V × V) -> Hp -> Prop) -> Prop
 | [], _, H, Q => Q [] H
 | (tk, tv) :: r, σ, H, Q => tk σ H fun x H1 => tv σ H1 fun y H2 => ZfE r σ H2 fun ps H3 => Q ((x, y) :: ps) H3
abbrev VV : List (V × V) -> List (Value × Value) -> Prop := Paired fun p q => RelV p.1 q.1 /\ RelV p.2 q.2
def PPs (X : Cx) (pos : Pos) (keys : List (Option Expr)) (values : List Expr) (trs : List (TE × TE)) : Prop :=
 ∀ (pins : Pn) (s : Shared) (σ : St) (H : Hp) (Q : List (V × V) -> Hp -> Prop), Inv X pins σ H s -> ZfE trs σ H Q ->
  wpAny (model X.prog X.w) X.A (evalPairs (pairTrees keys values X.env pos)) (fun vs s' => ∃ ps H', Inv X pins σ H' s' /\ VV ps vs /\ Q ps H') X.xe s
def Zls : PPs X pos [] [] [] := fun pins s σ H Q I h => pairTrees_nil_walk ⟨[], H, I, .nil, h⟩
def Zju (hk : PE X k tk) (hv : PE X v tv) (hr : PPs X pos ks vs trs) :
 PPs X pos (some k :: ks) (v :: vs) ((tk, tv) :: trs) := fun pins s σ H Q I h =>
 pairTrees_cons_walk (thn (hk pins s σ H _ I h) fun u s1 ⟨x, H1, I1, rx, q1⟩ => thn (hv pins s1 σ H1 _ I1 q1) fun w2 s2 ⟨y, H2, I2, ry, q2⟩ =>
  thn (hr pins s2 σ H2 _ I2 q2) fun ws s3 ⟨ps, H3, I3, rel, q3⟩ => ⟨(x, y) :: ps, H3, I3, .cons ⟨rx, ry⟩ rel, q3⟩)
noncomputable def Zda (kvs more : List (Key × V)) : List (Key × V) := more.foldl (fun acc kv => putK acc kv.1 kv.2) kvs
theorem KV.merge : ∀ {more : List (Key × V)} {rs : List (Key × Value)} {kvs : List (Key × V)} {vs : List (Key × Value)}, KV more rs -> KV kvs vs -> KV (Zda kvs more) (merged vs rs) := by
 intro more rs kvs vs r
 unfold KV at r
 induction r generalizing kvs vs with
 | nil => intro q; exact q
 | @cons p q ps qs h t ih =>
  intro r0
  have e : KV (putK kvs p.1 p.2) (stored vs q.1 q.2) := by
   have := r0.put p.1 h.2
   rw [<- h.1]; exact this
  exact ih e
theorem ZcU : ∀ (more kvs : List (Key × V)), (Zda kvs more).length <= kvs.length + more.length
 | [], kvs => by show kvs.length <= kvs.length + 0; omega
 | p :: r, kvs => by
  have h1 := ZcU r (putK kvs p.1 p.2)
  have h2 := Zcv kvs p.1 p.2
  show (Zda (putK kvs p.1 p.2) r).length <= _
  rw [List.length_cons]; omega
theorem Zef : ∀ {kvs : List (Key × V)} {ws : List (Value × Value)}, VV (kvs.map fun kv => (kV kv.1, kv.2)) ws -> ∃ rs, Carries (ZQ P w) ws rs /\ KV kvs rs
 | [], _, r => by rw [List.map_nil] at r; cases r; exact ⟨[], True.intro, .nil⟩
 | p :: kvs, _, r => by
  rw [List.map_cons] at r
  cases r with
  | @cons a b as bs h t =>
   obtain ⟨rs, c, q⟩ := Zef (P := P) (w := w) t
   obtain ⟨b1, b2⟩ := b
   exact ⟨(p.1, b2) :: rs, ⟨Zd8 h.1, rfl, c⟩, .cons ⟨rfl, h.2⟩ q⟩
def Zpu (trs : List (TE × TE)) : TE := fun σ H Q => ∀ p, H p = none -> ZfE trs σ (upd H p (.dK [])) fun ps H2 => H2 p = some (.dK []) /\ ∃ kvs : List (Key × V), ps = kvs.map (fun kv => (kV kv.1, kv.2)) /\ kvs.length <= 15 /\ Q (.ref p) (upd H2 p (.dK (Zda [] kvs)))
def Zlt (h : PPs X pos keys values trs) (hall : keys.all (·.isSome) = true) (hl : keys.length = values.length) (h0 : keys ≠ [])
 (h15 : keys.length <= 15) : PE X (.Dict keys values pos) (Zpu trs) := by
 intro pins s σ H Q I q
 have hn := I.hok.fresh (Nat.le_refl s.heap.objs.size)
 have I1 := I.laid (a := s.heap.objs.size) (o := .dK []) (h' := s.heap.push { cls := .type "dict", data := .dict #[] }) (t' := s.toks) (fun _ _ q => Heap.get?_push_of_some _ q) (Nat.le_refl _) (Zjt s.heap I.big)
 refine wpAny_Dict_walk (knd := ZQ X.prog X.w) hall hl h0 h15 (thn (h pins _ σ _ _ I1 (q _ hn)) fun ws s2 z0 => ?_)
 obtain ⟨ps, H2, I2, rel, e, kvs, ep, lk, q2⟩ := z0
 subst ep
 obtain ⟨rs, c, rk⟩ := Zef (P := X.prog) (w := X.w) rel
 obtain ⟨z, hd, vs0, r0, dd⟩ := Zk5 I2.hok e
 cases r0
 refine ⟨rs, c, dd, fun h' dd' hs => ⟨.ref s.heap.objs.size, _, ?_, rfl, q2⟩⟩
 have hz : (Zda [] kvs).length <= sizeLine := by
  have h1 := ZcU kvs []
  rw [List.length_nil] at h1
  rw [sizeLine_eq]; omega
 have he : ∃ q, h'.get? s.heap.objs.size = some q := let ⟨q, _, _, hq, _⟩ := dd'; ⟨q, hq⟩
 exact ZeF I2 (by rw [e]; exact True.intro) hs he (Zi5 hz hd (rk.merge .nil) dd')
structure M1 (X : Cx) (o : Expr) (m : Str) (apos : Pos) (e : Expr) (cpos : Pos) : Prop where
 base : attributeBase o m X.env (eval o X.env) = eval o X.env
 few : ((backTo cpos (starEach [e] X.env)).all (fun x => !x.1) && (backToKw cpos (keywordEach [] X.env)).all (fun x => x.1.isSome)
  && decide (([e] : List Expr).length + ([] : List Keyword).length + (if ([] : List Keyword).isEmpty then 0 else 1) < 30)) = true
 line : (apos.endLine == cpos.line) = true
 trees : backTo cpos (starEach [e] X.env) = [(false, eval e X.env)]
structure M2 (X : Cx) (o : Expr) (m : Str) (apos : Pos) (e f : Expr) (cpos : Pos) : Prop where
 base : attributeBase o m X.env (eval o X.env) = eval o X.env
 few : ((backTo cpos (starEach [e, f] X.env)).all (fun x => !x.1) && (backToKw cpos (keywordEach [] X.env)).all (fun x => x.1.isSome)
  && decide (([e, f] : List Expr).length + ([] : List Keyword).length + (if ([] : List Keyword).isEmpty then 0 else 1) < 30)) = true
 line : (apos.endLine == cpos.line) = true
 trees : backTo cpos (starEach [e, f] X.env) = [(false, eval e X.env), (false, eval f X.env)]
end L2
namespace Att
open PySem PySem.W PySem.Calls PyProof.Rows
theorem Zeg : ∀ (ns : List Int) (vs : List Value), WellAll P h vs (ns.map WData.int) -> IntsAre vs ns := by
 intro ns
 induction ns with
 | nil =>
  intro vs w
  rw [List.map_nil] at w
  cases w
  exact .nil
 | cons n ns ih =>
  intro vs w
  rw [List.map_cons] at w
  cases w with
  | cons a b =>
   cases a
   exact .cons _ _ (ih _ b)
theorem Zi7 {l : OpenLaw} {n : Nat} (hn : l.most = some n) {P : Params} {h : Heap} {args : List WData} {vals : List Value}
 (hpre : l.row.toRowW.claim.pre args = true) (hwl : WellAll P h vals args) :
 ∃ a vs ns, vals = [Value.ref a] /\ args = [WData.list (ns.map WData.int)] /\ h.get? a = some { cls := .type "list", data := .seq vs.toArray } /\ IntsAre vs ns /\ ns.length <= n := by
 have hsh : WShape.hasAll [] args [.list .int] = true := (pre_splitW hpre).1
 have hc : l.pre.holds [] { args := args } = true := (pre_splitW hpre).2
 obtain ⟨d, r, rfl, h1, h2⟩ := hasAllW_cons hsh
 obtain rfl := hasAllW_nil h2
 obtain ⟨xs, rfl, h3⟩ := hasW_list h1
 obtain ⟨ns, rfl⟩ := items_int h3
 have hlen : ns.length <= n := by
  unfold OpenLaw.pre at hc
  have h4 : (WTm.not (.lt (.lit (.int (n : Int))) (.len (.arg 0)))).holds [] { args := [.list (ns.map .int)] } = true := by
   have h4 := (holds_andW hc).1
   rw [hn] at h4
   exact h4
  have h5 := condW_of h4 (w_not (w_lt w_lit (w_len_list (w_arg rfl))))
  rw [List.length_map] at h5
  refine Nat.le_of_not_lt fun q => ?_
  have q' : (n : Int) < ((ns.length : Nat) : Int) := by omega
  first
   | (rw [decide_eq_true q'] at h5; exact absurd h5 (by decide))
   | (simp at h5; omega)
 cases hwl with
 | cons w1 w2 =>
  cases w2
  cases w1 with
  | list ho hall => exact ⟨_, _, ns, rfl, rfl, ho, Zeg ns _ hall, hlen⟩
def Zi8 (l : OpenLaw) (args : List WData) : l.row.toRowW.claim.post args (.bool true) args = true :=
 postW_of (r := l.row.toRowW) (X := (true == true))
  (show WShape.has [] (.bool true) .bool = true by first | rfl | decide | simp [WShape.has, WShape.arms, WShape.armsAll])
  (show (WTm.eq .res (.lit (.bool true))).value [] { args := args, res := some (.bool true), after := args } = some (.bool (true == true)) from w_eq_bool (w_res rfl) w_lit) rfl
def ZgI {l : OpenLaw} {n : Nat} {q : Program} {loose : List Str} {XP : (Str -> Option Value) -> Heap -> Prop} {YP : World -> Heap -> Prop} {d : DefRec}
 (hn : l.most = some n) (hdf : d.params.defaults = [])
 (call : ∀ (w : World) (s₀ s₁ : Shared) (mg mb : SO) (fa : Addr) (o : Obj) (pm cd doc : Value) (a : Addr) (vs : List Value) (ns : List Int),
  Ground q loose [] XP w s₀ mg mb s₁.heap -> YP w s₁.heap ->
  s₁.heap.get? fa = some o -> o.data = .func (docDef d.name d.params d.body d.scope pm cd doc) -> s₁.heap.CodeRec cd d.name -> mg d.name = some (.ref fa) ->
  s₁.heap.get? a = some { cls := .type "list", data := .seq vs.toArray } -> IntsAre vs ns -> ns.length <= n -> s₁.gens = #[] ->
  codeAny (model l.prog w) callerA (.call (.ref fa) ⟨[.ref a], []⟩) (fun r s' => r = .ok (.ret (.bool true)) /\ OldK s₁.heap s'.heap /\ s'.os = s₁.os /\ AllBare s'.gens) s₁) :
 WalkO q loose XP YP l.row.toRowW d [] (fun f vs => PySem.call f vs) := by
 intro w s₀ s₁ mg mb G Y fa o pm cd doc dV kV ho hd hcd hD hmg hg args vals as hpre hlay hrd hwl hlo
 obtain rfl : dV = .none := Dflts.none hD hdf
 obtain rfl : kV = .none := Dflts.noKw hD
 obtain ⟨a, vs, ns, rfl, rfl, hobj, hints, hlen⟩ := Zi7 hn hpre hwl
 refine enter_call (codeAny_mono (call w s₀ s₁ mg mb fa o pm cd doc a vs ns G Y ho (fd_plain hd) hcd hmg hobj hints hlen hg) fun r s' hq => ?_)
 obtain ⟨rfl, h2, h3, h4⟩ := hq
 exact ⟨.inl ⟨.bool true, .bool true, [], rfl, fun _ => rfl, .bool true, Zi8 l _, fun _ => ⟨List.Pairwise.nil, fun _ hm => (nomatch hm)⟩⟩, h2, h3, h4⟩
end Att
namespace L2
open PySem PySem.Spec PyProof.Rows
variable {H H' : Hp} {pos np : Pos} {X : Cx} {ea D' : Addr} {s : Shared} {qual name : Str} {h base : Heap} {oe : Obj} {body : List Stmt} {mg : SO} {fd : FuncData} {pins : Pn} {tg : Expr} {loose ps : List Str} {YP : World -> Heap -> Prop} {dV oc doc pm cdv ct : Value} {an : Option Addr} {scope : Scope} {prog : Program} {os : OsState} {expr : Bool} {b₀ : Stmt} {hs : List ExceptHandler} {gs : List HS}
theorem Zcg : ∀ {vs : List Value} {ns : List Int}, IntsAre vs ns -> Vals (ns.map V.int) vs
 | _, _, .nil => .nil
 | _, _, .cons n t h => .cons ⟨t, rfl⟩ (Zcg h)
def Only (H : Hp) : Prop := ∀ b, H b = none \/ ∃ o xs, H b = some (.frz o (.lst xs))
theorem Zjv {P : Program} {w : World} {K : Fg} {mb : SO} {CX : CXT} {k : Nat} {fa a : Addr} {x : Str} {sp : Sp} {s₁ : Shared} {vs : List Value} {ns : List Int}
 (KX : K.In s₁.heap) (hns : s₁.heap.Ns mainGlobals mg) (hb : s₁.heap.Ns builtinsNs mb) (hbb : ∀ x : Str, x ≠ "__name__" -> mb x = bootBuiltins x) (hlim : s₁.heap.NoLimit) (hg : s₁.gens = #[])
 (ha : s₁.heap.get? a = some { cls := .type "list", data := .seq vs.toArray }) (hi : IntsAre vs ns) (hl : ns.length <= sizeLine) (hr : Room k callerA)
 (F : ∀ base : Heap, K.In base -> base.Ns mainGlobals mg -> FnOk P w K mg base CX k fa fd [x] sp) (hbind : ∀ (s : Shared) (u : Value), BindsTo s fd ⟨[u], []⟩ [(x, u)])
 (hsp : ∀ H : Hp, Only H -> SqL K H a (ns.map V.int) -> sp [.ref a] H (fun v _ => v = .bl true) fun _ _ _ => False)
 (hCX : ∀ H e s', CX [] H s₁ (fun _ _ _ => False) e s' -> False) :
 codeAny (model P w) callerA (.call (.ref fa) ⟨[.ref a], []⟩) (fun r s' => r = .ok (.ret (.bool true)) /\ OldK s₁.heap s'.heap /\ s'.os = s₁.os /\ AllBare s'.gens) s₁ := by
 have rv := Zcg hi
 have lenV := hi.length
 have core : ∀ H : Hp, Only H -> SqL K H a (ns.map V.int) -> HOk P w H s₁.heap -> (∀ b, H b ≠ none -> b = a) -> (H a ≠ none -> K.lookup a = none) ->
  codeAny (model P w) callerA (.call (.ref fa) ⟨[.ref a], []⟩) (fun r s' => r = .ok (.ret (.bool true)) /\ OldK s₁.heap s'.heap /\ s'.os = s₁.os /\ AllBare s'.gens) s₁ := by
  intro H hO hS hok hA hK
  have base_of : ∀ {b : Addr} {o : Obj}, s₁.heap.get? b = some o -> H b = none -> (hidT s₁.heap H).get? b = some o := fun e n => Zjg e n
  have noA : ∀ {b : Addr} {o : Obj} {es : Array DictEntry} {ep : Nat}, s₁.heap.get? b = some o -> o.data = .dict es ep -> H b = none := fun {b o es ep} e d => by
   cases q : H b with
   | none => rfl
   | some u =>
    have e' : b = a := hA b (by rw [q]; simp)
    subst e'
    rw [ha] at e; cases e
    have d' : Data.seq vs.toArray _ = Data.dict es ep := d
    cases d'
  have nsK : ∀ {b : Addr} {m : SO}, s₁.heap.Ns b m -> (hidT s₁.heap H).Ns b m := fun {b m} ⟨o, es, ep, e, d, r⟩ => ⟨o, es, ep, base_of e (noA e d), d, r⟩
  have hKb : K.In (hidT s₁.heap H) := fun b o e => base_of (KX b o e) (by
   cases q : H b with
   | none => rfl
   | some u =>
    have e' : b = a := hA b (by rw [q]; simp)
    subst e'
    rw [hK (by rw [q]; simp)] at e; cases e)
  have hM : Mod K mg (hidT s₁.heap H) := ⟨hKb, nsK hns, ⟨mb, nsK hb, hbb⟩, let ⟨mc, h1, h2⟩ := hlim; ⟨mc, nsK h1, h2⟩⟩
  have e0 : Env0 P w K mg (hidT s₁.heap H) callerA [] s₁ H := ⟨rfl, hM, fun b o e => ZkW e, Nat.le_of_eq (Zio _ _), trivial, fun b hb => absurd (show b ∈ ([] : List Addr) from hb) (by simp), hok, .of_eq hg⟩
  refine codeAny_mono ((F _ hKb (nsK hns)).run callerA [] s₁ H ⟨[.ref a], []⟩ [.ref a] [.ref a] _ _ hr e0 (hbind s₁ (.ref a)) (.cons rfl .nil) (hsp H hO hS)) fun r s' h => ?_
  cases r with
  | error e => exact (hCX H e s' h).elim
  | ok fl =>
   cases fl with
   | next => exact False.elim h
   | brk => exact False.elim h
   | cont => exact False.elim h
   | ret u =>
    obtain ⟨v, H', os, bare, un, hok', r', q⟩ := h
    have q' : v = .bl true := q
    subst q'
    obtain rfl : u = Value.bool true := r'
    refine ⟨rfl, OldK.of_keep fun b o e => ?_, os, bare⟩
    cases q : H b with
    | none => exact un.keep b o e q (by intro z; exact absurd (show b ∈ ([] : List Addr) from z) (by simp)) (by simp)
    | some u =>
     rcases hO b with z | ⟨ob, xs, z⟩
     . rw [q] at z; cases z
     . have z2 := un.frzs b ob _ z
       obtain ⟨e1, _⟩ := hok b _ z
       obtain ⟨e2, _⟩ := hok' b _ z2
       rw [e] at e1; cases e1
       exact e2
 cases hk : K.lookup a with
 | some o =>
  have e := KX a o hk
  rw [ha] at e
  cases e
  refine core (fun _ => none) (fun _ => .inl rfl) (.inr ⟨_, vs.toArray, _, hk, rfl, rfl, rfl, by rw [List.size_toArray, lenV]; exact hl, by simpa using rv⟩) (fun b u z => by have z' : (none : Option HO) = some u := z; cases z') (fun b z => absurd rfl z) fun z => absurd rfl z
 | none =>
  refine core (fun b => if b = a then some (.frz { cls := .type "list", data := .seq vs.toArray } (.lst (ns.map V.int))) else none) (fun b => ?_) (.inl (.inr ⟨{ cls := .type "list", data := .seq vs.toArray }, if_pos rfl⟩)) (fun b u z => ?_) (fun b z => ?_) fun _ => hk
  . by_cases hb : b = a
    . exact .inr ⟨_, _, if_pos hb⟩
    . exact .inl (if_neg hb)
  . by_cases hb : b = a
    . have z' := (if_pos hb).symm.trans z
      cases z'
      subst hb
      exact ⟨ha, by rw [List.length_map]; exact hl, vs, _, rv, ha⟩
    . have z' := (if_neg hb).symm.trans z
      cases z'
  . by_cases hb : b = a
    . exact hb
    . exact absurd (if_neg hb) z
def Zlu {l : PySem.W.OpenLaw} {n k : Nat} {q : Program} {XP : (Str -> Option Value) -> Heap -> Prop} {d : DefRec} {K : Params -> Fg} {CX : World -> CXT} {sp : World -> Sp} {x : Str}
 (hn : l.most = some n) (hn2 : n <= sizeLine) (hdf : d.params.defaults = []) (hr : Room k callerA)
 (hY : ∀ (w : World) (h : Heap), YP w h -> (K w.params).In h)
 (F : ∀ (w : World) (mg : SO) (fa : Addr) (h : Heap), (K w.params).In h -> h.Ns mainGlobals mg -> mg d.name = some (.ref fa) ->
  ∃ fd : FuncData, (∀ (s : Shared) (u : Value), BindsTo s fd ⟨[u], []⟩ [(x, u)]) /\
   ∀ base : Heap, (K w.params).In base -> base.Ns mainGlobals mg -> FnOk l.prog w (K w.params) mg base (CX w) k fa fd [x] (sp w))
 (hsp : ∀ (w : World) (H : Hp) (a : Addr) (ns : List Int), ns.length <= n -> Only H -> SqL (K w.params) H a (ns.map V.int) -> sp w [.ref a] H (fun v _ => v = .bl true) fun _ _ _ => False)
 (hCX : ∀ (w : World) (H : Hp) (s : Shared) (e : Value) (s' : Shared), CX w [] H s (fun _ _ _ => False) e s' -> False) :
 PySem.W.WalkO q loose XP YP l.row.toRowW d [] (fun f vs => PySem.call f vs) := by
 refine Att.ZgI hn hdf fun w s₀ s₁ mg mb fa o pm cd doc a vs ns G Y ho hd hcd hmg hobj hints hlen hg => ?_
 have KX := hY w _ Y
 obtain ⟨fd, hb, hF⟩ := F w mg fa _ KX G.T.g hmg
 exact Zjv KX G.T.g G.T.b G.T.builtins G.T.nolimit hg hobj hints (Nat.le_trans hlen hn2) hr hF hb (fun H hO hS => hsp w H a ns hlen hO hS) fun H e s' => hCX w H s₁ e s'
def Zjw {l : PySem.W.OpenLaw} {n k : Nat} {q : Program} {XP : (Str -> Option Value) -> Heap -> Prop} {d : DefRec} {K : Params -> Fg} {CX : CXT} {sp : Fg -> Sp} {x : Str}
 (hn : l.most = some n) (hn2 : n <= sizeLine) (hdf : d.params.defaults = []) (hr : Room k callerA)
 (hY : ∀ (w : World) (h : Heap), YP w h -> (K w.params).In h)
 (F : ∀ (w : World) (mg : SO) (fa : Addr) (h : Heap), (K w.params).In h -> h.Ns mainGlobals mg -> mg d.name = some (.ref fa) ->
  ∃ fd : FuncData, (∀ (s : Shared) (u : Value), BindsTo s fd ⟨[u], []⟩ [(x, u)]) /\
   ∀ base : Heap, (K w.params).In base -> base.Ns mainGlobals mg -> FnOk l.prog w (K w.params) mg base CX k fa fd [x] (sp (K w.params)))
 (hsp : ∀ (K : Fg) (H : Hp) (a : Addr) (ns : List Int), ns.length <= n -> Only H -> SqL K H a (ns.map V.int) -> sp K [.ref a] H (fun v _ => v = .bl true) fun _ _ _ => False)
 (hCX : ∀ (H : Hp) (s : Shared) (e : Value) (s' : Shared), CX [] H s (fun _ _ _ => False) e s' -> False) :
 PySem.W.WalkO q loose XP YP l.row.toRowW d [] (fun f vs => PySem.call f vs) :=
 Zlu (K := K) (CX := fun _ => CX) (sp := fun w => sp (K w.params)) hn hn2 hdf hr hY F (fun w H a ns h1 h2 h3 => hsp (K w.params) H a ns h1 h2 h3) fun _ H s e s' => hCX H s e s'
noncomputable def Zax (s : Stmt) (j : Nat) : Stmt := match s with
 | .ClassDef _ _ _ body _ _ _ _ _ _ _ => body.getD j (.Pass ⟨0, 0, 0, 0⟩)
 | _ => .Pass ⟨0, 0, 0, 0⟩
noncomputable def ZaB (s : Stmt) : Arguments := match s with
 | .FunctionDef _ a _ _ _ _ _ _ _ _ => a
 | _ => { posonlyargs := [], args := [], vararg := none, kwonlyargs := [], kw_defaults := [], kwarg := none, defaults := [] }
noncomputable def ZT (s : Stmt) : List Stmt := match s with
 | .FunctionDef _ _ b _ _ _ _ _ _ _ => b
 | _ => []
noncomputable def Zp (s : Stmt) : Scope := match s with
 | .FunctionDef _ _ _ _ _ _ sc _ _ _ => sc
 | _ => { kind := .function, names := [], isGenerator := false, isCoroutine := false }
noncomputable abbrev CX0 : CXT := fun _ _ _ _ _ _ => False
noncomputable abbrev E0 : XK := fun _ _ _ => False
def ZhJ : Passes CX0 X E0 := fun _ _ _ _ _ _ _ h => h.elim
structure FunV (dV : Value) (K : Fg) (x qual : Str) (st : Stmt) (f : Addr) (fd : FuncData) : Prop where
 ex : ∃ (oc : Value) (od : Option Addr) (kV doc pm : Value) (an : Option Addr) (cdv ct : Value) (osl : Array (Option Value)),
  fd = PySem.W.fnOf x qual (ZaB st) (ZT st) (Zp st) dV kV doc pm an cdv ct /\ K.lookup f = some ⟨oc, od, .func fd, osl⟩ /\ PySem.W.codeIn K cdv qual = true
 kp : PySem.W.keepIn K (.ref f) = true
noncomputable abbrev Fun := FunV .none
section
variable {P : Program} {w : World} {K : Fg}
def FunV.ok {x : Str} {st : Stmt} {f : Addr} {N : List Str} {k : Nat} {sp : Sp} (F : FunV dV K x qual st f fd) (S : FnScope N ps (Zp st)) (len : ∀ vs H Q E, sp vs H Q E -> vs.length = ps.length)
 (hbody : ∀ (cdv : Value) (A : Around) (outer : List Env) (s : Shared) (H : Hp) (vs : List V) (Q : VK) (E : XK), Room k (A.deeper (envOfC qual (Zp st) s.heap.objs.size f cdv)) -> sp vs H Q E ->
  ∃ t, PSs (cxOf CX0 P w K mg base N qual (Zp st) f cdv A outer s H E).nox (ZT st) t /\ t { nx := fun _ H' => Q .non H', rt := Q } (start N vs) H) : FnOk P w K mg base CX0 (k + 1) f fd ps sp := by
 obtain ⟨oc, od, kV, doc, pm, an, cdv, ct, osl, rfl, lk, hcd⟩ := F.ex
 refine Zpo lk hcd S len fun A outer s H vs Q E hr hsp => ?_
 obtain ⟨t, h, q⟩ := hbody cdv A outer s H vs Q E hr hsp
 exact ⟨t, h.nox, q⟩
def FunV.binds {x : Str} {st : Stmt} {f : Addr} (F : Fun K x qual st f fd)
 (h : ∀ (kV doc pm : Value) (an : Option Addr) (cdv ct : Value) (us : List Value), us.length = ps.length -> bindArgs (PySem.W.fnOf x qual (ZaB st) (ZT st) (Zp st) .none kV doc pm an cdv ct) ⟨us, []⟩ = pure (ps.zip us)) : Binds K fd ps [] := by
 obtain ⟨oc, od, kV, doc, pm, an, cdv, ct, osl, rfl, lk, hcd⟩ := F.ex
 exact .all (h kV doc pm an cdv ct)
def ZfF {x : Str} {st : Stmt} {f : Addr} {od : Option Addr} {osl : Array (Option Value)} {kV : Value} (l : K.lookup f = some ⟨oc, od, .func (PySem.W.fnOf x qual (ZaB st) (ZT st) (Zp st) .none kV doc pm an cdv ct), osl⟩)
 (c : PySem.W.codeIn K cdv qual = true) (k : PySem.W.keepIn K (.ref f) = true) : Fun K x qual st f (PySem.W.fnOf x qual (ZaB st) (ZT st) (Zp st) .none kV doc pm an cdv ct) := ⟨⟨oc, od, kV, doc, pm, an, cdv, ct, osl, rfl, l, c⟩, k⟩
end
def Same (H H' : Hp) : Prop := ∀ b o, H b = some o -> H' b = some o
def Same.refl (H : Hp) : Same H H := fun _ _ h => h
def Same.trans (a : Same H H1) (b : Same H1 H2) : Same H H2 := fun c o h => b c o (a c o h)
def Same.seq {K : Fg} {a : Addr} {xs : List V} (e : Same H H') (h : SqL K H a xs) : SqL K H' a xs := by
 rcases h with (h | ⟨o, h⟩) | h
 . exact .inl (.inl (e _ _ h))
 . exact .inl (.inr ⟨o, e _ _ h⟩)
 . exact .inr h
section
def Zi9 : ZI X (.builtin "len") (fun xs H Q => ∃ a kvs, xs = [V.ref a] /\ H a = some (.dK kvs) /\ Q (.int kvs.length) H) := by
 intro pins s σ H xs us Q I r h
 obtain ⟨a, kvs, rfl, ha, q⟩ := h
 obtain ⟨u, rfl, ru⟩ := ZcH r
 cases ru
 exact Zps I (.inl ha) fun t s' I' => ⟨.int kvs.length, H, I', ⟨t, rfl⟩, q⟩
end
noncomputable def TB (T : Addr) : HO := .ext fun h => ∃ o ts, h.get? T = some o /\ o.data = .fields ts /\ 3 < ts.size
def Zk6 (e : h.get? T = some o) (d : o.data = .fields ts) (z : 3 < ts.size) : Z7 P w H h T (TB T) :=
 ⟨⟨o, ts, e, d, z⟩, ⟨o, e⟩, fun h1 h2 ⟨o, ts, e, d, z⟩ k => ⟨o, ts, k o e, d, z⟩⟩
structure FlyT (φ : Value -> Prop) (H : Hp) (h : Heap) (ea : Addr) : Prop where
 ex : ∃ (C : Addr) (dx : Option Addr) (fs : List (Str × V)) (oe : Obj) (vs : Array Value) (T : Addr) (oT : Obj) (ts : Array Value) (fl : Value), H ea = some (.exc C dx false fs) /\ h.get? ea = some oe /\ oe.data = .fields vs /\ vs.size = 6 /\ vs[1]? = some (.ref T) /\
  H T = some (TB T) /\ h.get? T = some oT /\ oT.data = .fields ts /\ ts[3]? = some fl /\ φ fl
structure FlyN (H : Hp) (h : Heap) (ea : Addr) : Prop where
 ex : ∃ (C : Addr) (dx : Option Addr) (fs : List (Str × V)) (oe : Obj) (vs : Array Value), H ea = some (.exc C dx false fs) /\ h.get? ea = some oe /\ oe.data = .fields vs /\ vs.size = 6 /\ vs[1]? = some .none
def FlyT.mono (f : FlyT φ H h ea) (k : ∀ v, φ v -> ψ v) : FlyT ψ H h ea := by
 obtain ⟨C, dx, fs, oe, vs, T, oT, ts, fl, a1, a2, a3, a4, a5, a6, a7, a8, a9, a10⟩ := f.ex
 exact ⟨C, dx, fs, oe, vs, T, oT, ts, fl, a1, a2, a3, a4, a5, a6, a7, a8, a9, k _ a10⟩
def Fly (X : Cx) (H : Hp) (h : Heap) (ea : Addr) : Prop := FlyN H h ea \/ FlyT (fun fl => fl = .none \/ fl = rawInt X.env.locals) H h ea
structure Fr0 (X : Cx) (A : Around) : Prop where
 stk : X.stack = X.env :: X.outer
 frm : X.env.frame = some X.env.locals
 fms : A.frames = some X.stack
section
variable {A : Around} {M : Model} {E : VS} {σ : St}
def ZbF {a : Addr} {o : Obj} {vs : Array Value} (f : Array Value -> Array Value) (e : h.get? a = some o) (d : o.data = .fields vs) : (h.update a (Obj.mapFields f)).get? a = some { o with data := .fields (f vs) } := by
 have q : Obj.mapFields f o = { o with data := .fields (f vs) } := by
  obtain ⟨c, di, da, sl⟩ := o
  cases d
  rfl
 rw [<- q]
 exact Heap.get?_update_self (Obj.mapFields f) e (Obj.isFreed_of_fields (vs := f vs) (by rw [q]))
theorem Inv.excSet {C : Addr} {dx : Option Addr} {fr fr' : Bool} {fs : List (Str × V)} {vs : Array Value} {f : Array Value -> Array Value} (I : Inv X pins σ H s) (e1 : H ea = some (.exc C dx fr fs)) (e2 : s.heap.get? ea = some oe) (e3 : oe.data = .fields vs) (z : (f vs).size = 6)
 (hf : fr' = true -> (f vs)[1]? = some .none) : Inv X pins σ (upd H ea (.exc C dx fr' fs)) { s with heap := s.heap.update ea (Obj.mapFields f) } := by
 have g := ZbF f e2 e3
 refine I.write (t' := s.toks) (x := ea) (e := ea) (by rw [e1]; trivial) (.inl rfl) (fun b u hb q => by rw [Heap.get?_update_other _ _ (Ne.symm hb)]; exact q) ⟨_, g⟩ ?_
 obtain ⟨l, ⟨o, vs', q1, q2, q3, q4, q5, q6⟩, r⟩ := (show Z7 X.prog X.w H s.heap ea (.exc C dx fr fs) from I.hok ea _ e1)
 rw [e2] at q1
 cases q1
 refine ⟨l, ⟨_, f vs, g, q2, q3, rfl, z, hf⟩, ?_⟩
 cases dx with
 | none => exact r
 | some d =>
  obtain ⟨r1, r2, mA, ⟨od, es, ep, e4, c⟩, r3⟩ := r
  refine ⟨by rw [Zk r2]; exact r1, r2, mA, ⟨od, es, ep, by rw [Heap.get?_update_other _ _ (Ne.symm r2)]; exact e4, c⟩, r3⟩
def ZfG (e : H a = some o) : upd H a o = H := by
 funext b
 unfold upd
 split
 . rename_i q; subst q; exact e.symm
 . rfl
def Inv.tbSet {T : Addr} {oT : Obj} {ts : Array Value} {f : Array Value -> Array Value} (I : Inv X pins σ H s) (e1 : H T = some (TB T)) (e2 : s.heap.get? T = some oT) (e3 : oT.data = .fields ts) (z : 3 < (f ts).size) :
 Inv X pins σ H { s with heap := s.heap.update T (Obj.mapFields f) } := by
 have g := ZbF f e2 e3
 have J : Inv X pins σ (upd H T (TB T)) { s with heap := s.heap.update T (Obj.mapFields f) } :=
  I.write (t' := s.toks) (x := T) (e := T) (by rw [e1]; exact trivial) (.inl rfl) (fun b u hb q => by rw [Heap.get?_update_other _ _ (Ne.symm hb)]; exact q) ⟨_, g⟩ (Zk6 g rfl z)
 rw [ZfG e1] at J
 exact J
def Zk7 (e1 : H ea = some (.exc C dx fr fs)) (e2 : H T = some (TB T)) : T ≠ ea := fun q => by
 subst q
 rw [e1] at e2
 cases e2
def set6 {vs : Array Value} {v : Value} {i : Nat} : (vs.setIfInBounds i v).size = vs.size := Array.size_setIfInBounds
def ZfH {C : Addr} {dx : Option Addr} {fs : List (Str × V)} {vs : Array Value} {head : Value} {hadNext : Bool} (F : Fr0 X A) (I : Inv X pins σ H s) (e1 : H ea = some (.exc C dx false fs)) (e2 : s.heap.get? ea = some oe) (e3 : oe.data = .fields vs) (e4 : vs.size = 6) :
 wpAny M A (do
  let a <- frameOf X.env
  let pl <- entryPlaceOf X.env.locals hadNext
  let b <- EntryCells.newEntry head a Value.none (rawInt ↑X.env.locals) Value.none pl
  setField (Value.ref ea) 1 b) (fun _ s' => ∃ H', Inv X pins σ H' s' /\ Same H H' /\ FlyT (fun fl => fl = rawInt X.env.locals) H' s'.heap ea) E s := by
 have hfr : A.frames = some (X.env :: X.outer) := by rw [F.fms, F.stk]
 have hl : s.heap.FunFrames X.base (X.env :: X.outer) := by rw [<- F.stk]; exact I.stack
 refine wpAny_bind (wpAny_frameOf_fun hfr hl F.frm fun h₁ hs₁ => ?_)
 have hfs : List.filterMap (fun x => x.frame) (X.env :: X.outer) = frs X.stack := by rw [F.stk]; rfl
 rw [hfs] at hs₁
 obtain ⟨_, k1, k2⟩ := hs₁
 have nfr : ∀ b o, H b = some o -> b ∉ frs X.stack := fun b o e z => by rw [I.stkFree b z] at e; cases e
 have un : Un (frs X.stack) [] H H s.heap h₁ :=
  ⟨fun b o e n hb _ => by rw [k1 b hb]; exact e, fun b o e n hb _ => k2 b o e, fun b o e n _ => n, fun b o e _ => let ⟨sl, q⟩ := k2 b o e; ⟨_, q⟩, fun _ _ e => e, fun _ _ _ e => e, fun b ps e => ⟨#[], by rw [e]; simp⟩⟩
 have hok1 : HOk X.prog X.w H h₁ := fun a o e => (I.hok a o e).stay (fun b u hb q => by
  rw [k1 b]
  . exact q
  . rcases hb with z | z
    . rw [z]; exact nfr a o e
    . exact nfr b _ z) (fun _ q => q) fun _ _ q => q
 have I1 : Inv X pins σ H { s with heap := h₁ } := I.call (g' := s.gens) (d' := s.drawn) (t' := s.toks) un hok1 I.bare fun b z => absurd z (by simp)
 have e2' : h₁.get? ea = some oe := by rw [k1 ea (nfr ea _ e1)]; exact e2
 (refine wpAny_bind (wpAny_entryPlaceOf fun pl hpl => ?_))
 refine wpAny_bind ?_
 (unfold EntryCells.newEntry newFields)
 refine wpAny_newObj_type ?_ (IsPlace.sizeOk5 hpl _ _ _ _ _)
 have z4 : 3 < (([head, Value.ref X.env.locals, Value.none, rawInt ↑X.env.locals, Value.none] ++ if pl.isEmpty = true then List.replicate 6 Value.none else pl).toArray).size := by simp
 have hg := Heap.get?_push_size h₁ (o := { cls := Value.type "traceback", data := .fields ([head, Value.ref X.env.locals, Value.none, rawInt ↑X.env.locals, Value.none] ++ if pl.isEmpty = true then List.replicate 6 Value.none else pl).toArray }) rfl
 have I2 := I1.laid (a := h₁.objs.size) (o := TB h₁.objs.size) (t' := s.toks) (h' := h₁.push { cls := Value.type "traceback", data := .fields ([head, Value.ref X.env.locals, Value.none, rawInt ↑X.env.locals, Value.none] ++ if pl.isEmpty = true then List.replicate 6 Value.none else pl).toArray })
  (fun b u q => Heap.get?_push_of_some _ q) (Nat.le_refl _) (Zk6 hg rfl z4)
 have hn : H h₁.objs.size = none := I1.hok.fresh (Nat.le_refl _)
 have ne : ea ≠ h₁.objs.size := ZX e1 hn
 have e1' : upd H h₁.objs.size (TB h₁.objs.size) ea = some (.exc C dx false fs) := by rw [Zk ne]; exact e1
 have e2'' := Heap.get?_push_of_some { cls := Value.type "traceback", data := .fields ([head, Value.ref X.env.locals, Value.none, rawInt ↑X.env.locals, Value.none] ++ if pl.isEmpty = true then List.replicate 6 Value.none else pl).toArray } e2'
 refine wpAny_setField e2'' e3 (by omega) ?_
 have I3 := Inv.excSet (fr' := false) (f := fun x => x.setIfInBounds 1 (Value.ref h₁.objs.size)) I2 e1' e2'' e3 (by rw [set6]; exact e4) (by simp)
 rw [ZfG e1'] at I3
 refine ⟨_, I3, fun b o q => by rw [Zk (ZX q hn)]; exact q, ⟨C, dx, fs, _, _, h₁.objs.size, _, _, rawInt X.env.locals, e1', ZbF _ e2'' e3, rfl, by rw [set6]; exact e4, ?_, Zl, (Heap.get?_update_other _ _ ne).trans hg, rfl, ?_, rfl⟩⟩
 . rw [Array.getElem?_setIfInBounds]
   simp [e4]
 . simp
def ZeG (F : Fr0 X A) (I : Inv X pins σ H s) (f : Fly X H s.heap ea) :
 wpAny M A (noteFrame (.ref ea) X.env) (fun _ s' => ∃ H', Inv X pins σ H' s' /\ Same H H' /\ FlyT (fun fl => fl = rawInt X.env.locals) H' s'.heap ea) E s := by
 unfold noteFrame
 rw [F.frm]
 dsimp only
 rcases f with ⟨C, dx, fs, oe, vs, e1, e2, e3, e4, e5⟩ | ⟨C, dx, fs, oe, vs, T, oT, ts, fl, e1, e2, e3, e4, e5, e6, e7, e8, e9, e10⟩
 . refine wpAny_bind (wpAny_field e2 e3 e5 ?_)
   rw [if_neg (by decide)]
   exact ZfH F I e1 e2 e3 e4
 . refine wpAny_bind (wpAny_field e2 e3 e5 ?_)
   rw [if_pos (show (Value.ref T != Value.none) = true from rfl)]
   refine wpAny_bind (wpAny_field e7 e8 e9 ?_)
   have hz : 3 < ts.size := (Array.getElem?_eq_some_iff.mp e9).1
   rcases e10 with rfl | rfl
   . rw [if_neg (by simp [rawInt])]
     refine wpAny_bind (wpAny_setField e7 e8 hz ?_)
     have I1 := I.tbSet (f := fun x => x.setIfInBounds 3 Value.none) e6 e7 e8 (by rw [set6]; exact hz)
     refine ZfH F I1 e1 ?_ e3 e4
     show (Heap.update _ _ _).get? _ = _
     rw [Heap.get?_update_other _ _ (Zk7 e1 e6)]
     exact e2
   . rw [if_pos (by simp)]
     exact wpAny_pure ⟨H, I, Same.refl _, C, dx, fs, oe, vs, T, oT, ts, _, e1, e2, e3, e4, e5, e6, e7, e8, e9, rfl⟩
def Zb5 {φ : Value -> Prop} {o : Option Addr} (I : Inv X pins σ H s) (f : FlyT φ H s.heap ea) :
 wpAny M A (setFlight (.ref ea) o) (fun _ s' => Inv X pins σ H s' /\ FlyT (fun fl => fl = o.elim Value.none fun f => rawInt f) H s'.heap ea) E s := by
 obtain ⟨C, dx, fs, oe, vs, T, oT, ts, fl, e1, e2, e3, e4, e5, e6, e7, e8, e9, e10⟩ := f.ex
 unfold setFlight
 have hz : 3 < ts.size := (Array.getElem?_eq_some_iff.mp e9).1
 refine wpAny_bind (wpAny_field e2 e3 e5 ?_)
 rw [if_pos (show (Value.ref T != Value.none) = true from rfl)]
 refine wpAny_setField e7 e8 hz ?_
 have I1 := I.tbSet (f := fun x => x.setIfInBounds 3 (o.elim Value.none fun f => rawInt f)) e6 e7 e8 (by rw [set6]; exact hz)
 refine ⟨I1, C, dx, fs, oe, vs, T, _, _, _, e1, ?_, e3, e4, e5, e6, ZbF _ e7 e8, rfl, ?_, rfl⟩
 . show (Heap.update _ _ _).get? _ = _
   rw [Heap.get?_update_other _ _ (Zk7 e1 e6)]
   exact e2
 . rw [Array.getElem?_setIfInBounds]
   simp [hz]
def Zjx (F : Fr0 X A) (I : Inv X pins σ H s) (f : Fly X H s.heap ea) :
 wpAny M A (leaving X.env (.ref ea)) (fun _ s' => ∃ H', Inv X pins σ H' s' /\ Same H H' /\ FlyT (fun fl => fl = Value.none) H' s'.heap ea) E s := by
 unfold leaving
 refine wpAny_bind (thn (ZeG F I f) fun _ s1 z0 => ?_)
 obtain ⟨H1, I1, k1, f1⟩ := z0
 exact thn (Zb5 (o := none) I1 f1) fun _ s2 ⟨I2, f2⟩ => ⟨H1, I2, k1, f2⟩
structure EndX extends Ends where
 xc : Addr -> St -> Hp -> Prop
abbrev TX := EndX -> St -> Hp -> Prop
def XP (X : Cx) (pins : Pn) (xc : Addr -> St -> Hp -> Prop) (e : Value) (s' : Shared) : Prop :=
 X.xe e s' \/ ∃ ea σ' H', e = .ref ea /\ Inv X pins σ' H' s' /\ Fly X H' s'.heap ea /\ ∀ H'', Same H' H'' -> xc ea σ' H''
def PX (X : Cx) (st : Stmt) (t : TX) : Prop :=
 ∀ (pins : Pn) (s : Shared) (σ : St) (H : Hp) (D : EndX), Inv X pins σ H s -> t D σ H -> wpAny (model X.prog X.w) X.A (exec st X.env) (SP X pins D.toEnds) (XP X pins D.xc) s
def PXs (X : Cx) (st : List Stmt) (t : TX) : Prop :=
 ∀ (pins : Pn) (s : Shared) (σ : St) (H : Hp) (D : EndX), Inv X pins σ H s -> t D σ H -> wpAny (model X.prog X.w) X.A (execs st X.env) (SP X pins D.toEnds) (XP X pins D.xc) s
def PX.imp {st : Stmt} {t u : TX} (h : PX X st t) (k : ∀ D σ H, u D σ H -> t D σ H) : PX X st u := fun pins s σ H D I w => h pins s σ H D I (k D σ H w)
def PXs.imp {st : List Stmt} {t u : TX} (h : PXs X st t) (k : ∀ D σ H, u D σ H -> t D σ H) : PXs X st u := fun pins s σ H D I w => h pins s σ H D I (k D σ H w)
def PS.x {st : Stmt} {t : TS} (h : PS X st t) : PX X st fun D => t D.toEnds := fun pins s σ H D I w => wpAny_mono (h pins s σ H D.toEnds I w) (fun _ _ q => q) fun _ _ q => .inl q
def Znj (F : Fr0 X A) (hx : ∀ e s, ¬ X.xe e s) : PassesOwn (model P w) A X.env (XP X pins xc) := fun e s' h => by
 rcases h with h | ⟨ea, σ', H', rfl, I, f, q⟩
 . exact absurd h (hx _ _)
 . refine wpAny_mono (ZeG F I f) (fun _ s1 ⟨H1, I1, k1, f1⟩ => ?_) fun _ _ z => z
   obtain ⟨C, dx, fs, oe, vs, T, oT, ts, fl, e1, e2, e3, e4, e5, e6, e7, e8, e9, e10⟩ := f1.ex
   show wpAny _ _ _ _ _ _
   refine wpAny_bind (wpAny_field e2 e3 e5 ?_)
   rw [if_neg (show ¬ (Value.ref T == Value.none) = true from Bool.false_ne_true)]
   refine thn (Zb5 (o := X.env.frame) I1 f1) fun _ s2 ⟨I2, f2⟩ => .inr ⟨ea, σ', H1, rfl, I2, .inr (f2.mono fun v hv => .inr ?_), fun H2 k2 => q H2 (k1.trans k2)⟩
   rw [hv, F.frm]
   rfl
end
section
variable {A : Around} {σ : St}
def thnx (h : wpAny M A t Q X.xe s) (hQ : ∀ a s, Q a s -> Q' a s) : wpAny M A t Q' (XP X pins xc) s := wpAny_mono h hQ fun _ _ x => .inl x
def Zpv (t u : TX) : TX := fun D σ H => t { D with nx := u D } σ H
def Zlv : PXs X [] fun D σ H => D.nx σ H := fun _ _ σ H _ I h => wpAny_execs_nil ⟨σ, H, I, h⟩
theorem Zjy {st : Stmt} {rest : List Stmt} {t u : TX} (h1 : PX X st t) (h2 : PXs X rest u) : PXs X (st :: rest) (Zpv t u) := by
 intro pins s σ H D I h
 refine wpAny_execs_cons (thn (h1 pins s σ H { D with nx := u D } I h) fun f s1 q => ?_)
 cases f with
 | next =>
  obtain ⟨σ', H', I', q⟩ := q
  exact h2 pins s1 σ' H' D I' q
 | ret v => exact q
 | brk => exact q
 | cont => exact q
def tIfX (c : TT) (t u : TX) : TX := fun D σ H => c σ H fun b H1 => if b = true then t D σ H1 else u D σ H1
theorem Zpw (hc : PT X c tc) (ha : PXs X a t) (hb : PXs X b u) : PX X (.If c a b pos) (tIfX tc t u) := by
 intro pins s σ H D I h
 refine wpAny_If (thnx (hc pins s σ H _ I h) fun d s1 z0 => ?_)
 obtain ⟨H1, I1, q1⟩ := z0
 cases d with
 | true => exact ha pins s1 σ H1 D I1 q1
 | false => exact hb pins s1 σ H1 D I1 q1
def XP.unpinned (h : XP X (pins ++ pl) xc e s) : XP X pins xc e s := by
 rcases h with h | ⟨ea, σ', H', e, I, f, q⟩
 . exact .inl h
 . exact .inr ⟨ea, σ', H', e, I.unpinned, f, q⟩
def Zpx (wi : TI) (g : TG) (tb : TX) : TX := fun D σ H => wi σ H fun J H1 => ∃ W : Nat -> Nat -> St -> Hp -> Prop, (∃ m, W 0 m σ H1) /\ ∀ i m σ H, W i m σ H ->
 (J.stop i H /\ D.nx σ H) \/ (J.go i H /\ ∃ N : St -> Hp -> Prop, (∀ σ' H', N σ' H' -> ∃ m', m' < m /\ W (i + 1) m' σ' H') /\ ∀ x H', J.yld i H x H' -> g x σ H' fun σ2 H2 => tb { D with nx := N, ct := N, bk := D.nx } σ2 H2)
def Znk (F : Fr0 X X.A) (hx : ∀ e s, ¬ X.xe e s) (hc : X.calm = true) (hi : PI X tg iter wi) (hg : PG X tg g) (hb : PXs X body tb)
 (hs : ∀ x, foldedSetIterable iter X.env x = pure x := by intro _; rfl) : PX X (.For tg iter body [] pos) (Zpx wi g tb) := by
 intro pins s σ H D I h
 have hp : PassesOwn (model X.prog X.w) X.A X.env (XP X pins D.xc) := Znj F hx
 refine wpAny_For (thnx (hi pins s σ H _ I h) fun v s1 h1 => thnx h1 fun itv s2 h2 => ?_) hs
 obtain ⟨it, fp, tn, J, H2, e, I2, T, st2, f2, W, ⟨m0, w0⟩, turn⟩ := h2
 subst e
 have stat : ∀ {H' : Hp}, (∀ b ∈ fp, H' b = none) -> ∀ b ∈ fp, FpOk X pins H' b := fun hn b hb => ⟨hn b hb, (f2 b hb).2⟩
 refine codeAny_forLoop_any (fun n s' => ∃ i σ' H', Inv X pins σ' H' s' /\ tn i s'.heap /\ (∀ b ∈ fp, H' b = none) /\ W i n σ' H') ?_ m0 ⟨0, σ, H2, I2, st2, fun b hb => (f2 b hb).1, w0⟩
 rintro n s3 ⟨i, σ3, H3, I3, st3, fr3, w3⟩
 rcases turn i n σ3 H3 w3 with ⟨stop, qn⟩ | ⟨go, N, hN, step⟩
 . refine wpAny_passesOwn hp (thnx (T.done X rfl rfl rfl hc i pins s3 σ3 H3 X.xe I3 (stat fr3) st3 stop) fun r s4 z0 => ?_)
   obtain ⟨hr, I4⟩ := z0
   subst hr
   exact wpAny_execs_nil ⟨σ3, H3, I4, qn⟩
 . refine wpAny_passesOwn hp (thnx (T.item X rfl rfl rfl hc i pins s3 σ3 H3 X.xe I3 (stat fr3) st3 go) fun r s4 z0 => ?_)
   obtain ⟨u, hr, h4⟩ := z0
   subst hr
   refine wpAny_passesOwn hp (thnx h4 fun _ s5 z0 => ?_)
   obtain ⟨x, H5, I5, r5, y5, st5, fr5⟩ := z0
   have I5' := I5.pinned (stat fr5) (T.obj _ _ st5)
   refine wpAny_passesOwn hp (thnx (hg _ s5 σ3 H5 x u _ I5' r5 (step x H5 y5)) fun _ s6 z0 => ?_)
   obtain ⟨σ6, H6, I6, q6⟩ := z0
   refine wpAny_passesOwn hp (wpAny_mono (hb _ s6 σ6 H6 { D with nx := N, ct := N, bk := D.nx } I6 q6) (fun f s7 q7 => ?_) fun _ _ z => z.unpinned)
   have again : ∀ {σ7 : St} {H7 : Hp}, Inv X (pins ++ Zcy fp s5.heap) σ7 H7 s7 -> N σ7 H7 -> ∃ m, m < n /\ ∃ i σ' H', Inv X pins σ' H' s7 /\ tn i s7.heap /\ (∀ b ∈ fp, H' b = none) /\ W i m σ' H' := fun {σ7 H7} I7 n7 => by
    obtain ⟨m', hm, w7⟩ := hN σ7 H7 n7
    refine ⟨m', hm, i + 1, σ7, H7, I7.unpinned, T.keep _ _ _ st5 fun b hb o e => (I7.pin (b, o) (List.mem_append_right _ (List.mem_append_right _ (ZaA hb e)))).1, fun b hb => ?_, w7⟩
    obtain ⟨o, e, d⟩ := T.obj _ _ st5 b hb
    exact (I7.pin (b, o) (List.mem_append_right _ (List.mem_append_right _ (ZaA hb e)))).2.1
   cases f with
   | next => obtain ⟨σ7, H7, I7, n7⟩ := q7; exact again I7 n7
   | cont => obtain ⟨σ7, H7, I7, n7⟩ := q7; exact again I7 n7
   | brk => obtain ⟨σ7, H7, I7, q7⟩ := q7; exact ⟨σ7, H7, I7.unpinned, q7⟩
   | ret v => obtain ⟨x7, σ7, H7, I7, r7, q7⟩ := q7; exact ⟨x7, σ7, H7, I7.unpinned, r7, q7⟩
noncomputable def CXx (P : Program) (w : World) : CXT := fun outer H s E e s' => ∃ ea H', e = .ref ea /\ s'.os = s.os /\ AllBare s'.gens /\ Un (frs outer) [] H H' s.heap s'.heap /\ HOk P w H' s'.heap /\ FlyT (fun fl => fl = Value.none) H' s'.heap ea /\
 ∀ H'', Same H' H'' -> E (.ref ea) none H''
def Znl {P : Program} {w : World} {K : Fg} {k : Nat} {f : Addr} {params : Arguments} {kV : Value} {od : Option Addr}
 {osl : Array (Option Value)} {N ps : List Str} {sp : Sp} (lk : K.lookup f = some ⟨oc, od, .func (PySem.W.fnOf name qual params body scope dV kV doc pm an cdv ct), osl⟩) (hcd : PySem.W.codeIn K cdv qual = true) (S : FnScope N ps scope)
 (len : ∀ vs H Q E, sp vs H Q E -> vs.length = ps.length)
 (hbody : ∀ (A : Around) (outer : List Env) (s : Shared) (H : Hp) (vs : List V) (Q : VK) (E : XK), Room k (A.deeper (envOfC qual scope s.heap.objs.size f cdv)) -> sp vs H Q E ->
  ∃ t, (A.frames = some outer -> PXs (cxOf CX0 P w K mg base N qual scope f cdv A outer s H E).nox body t) /\ t { nx := fun _ H' => Q .non H', rt := Q, xc := fun ea _ H' => E (.ref ea) none H' } (start N vs) H) :
 FnOk P w K mg base (CXx P w) (k + 1) f (PySem.W.fnOf name qual params body scope dV kV doc pm an cdv ct) ps sp := by
 refine ⟨len, fun A outer s H args us vs Q E hr e0 hb r hsp => ?_⟩
 have hl := len _ _ _ _ hsp
 have KX : K.In s.heap := e0.mod.kin.keeps fun b o e => (e0.bs b o e).1
 have lim : s.heap.NoLimit := e0.mod.nolimit.keeps fun b o e => (e0.bs b o e).1
 have hkind : ∀ y ∈ ps.zip us, scope.names.lookup y.1 = some .local \/ (scope.names.lookup y.1 = some .cell /\ ((cellsFrom (s.heap.objs.size + 1) scope.names []).lookup y.1).isSome = true) := fun ⟨n, v⟩ hy => by
  rcases S.par n (List.of_mem_zip hy).1 with q | q
  . exact .inl q
  . exact .inr ⟨q, PySem.W.cellsFrom_some _ _ _ (.inl q)⟩
 refine codeAny_call_function hr.depth (KX _ _ lk) rfl S.co S.gen rfl (PySem.W.codeRec_of KX hcd) (hb _ _ _ _ ?_)
 refine wpAny_newFunctionEnv_cells S.kind hkind fun env he s1 x => ?_
 subst he
 refine ⟨lim.keeps x.toInCall.keep, codeAny_func ?_⟩
 obtain ⟨t, ht, hq⟩ := hbody A outer s H vs Q E (hr.deeper _) hsp
 have I : Inv (cxOf CX0 P w K mg base N qual scope f cdv A outer s H E) [] (start N vs) H s1 := Zfd S hr.hd e0 hl r x
 refine wpAny_mono (ht e0.frames [] s1 (start N vs) H _ (I.wish _) hq) (fun fl s' hs => ?_) fun e s' hs => ?_
 . have fin : ∀ {σ' : St} {H' : Hp} {v : V} {u : Value}, Inv (cxOf CX0 P w K mg base N qual scope f cdv A outer s H E).nox [] σ' H' s' -> RelV v u -> Q v H' -> CE outer P w H s Q u s' :=
    fun {σ' H' v u} J rv q => ⟨v, H', J.os, J.bare, J.base, J.hok, rv, q⟩
   cases fl with
   | ret u =>
    obtain ⟨v, σ', H', J, rv, q⟩ := hs
    exact fin J rv q
   | next =>
    obtain ⟨σ', H', J, q⟩ := hs
    exact fin (v := V.non) (u := Value.none) J rfl q
   | brk =>
    obtain ⟨_, _, _, q⟩ := hs
    exact False.elim q
   | cont =>
    obtain ⟨_, _, _, q⟩ := hs
    exact False.elim q
 . rcases hs with hs | ⟨ea, σ', H', rfl, J, fl, q⟩
   . exact False.elim hs
   . have F : Fr0 (cxOf CX0 P w K mg base N qual scope f cdv A outer s H E).nox (A.deeper (envOfC qual scope s.heap.objs.size f cdv)) := ⟨rfl, rfl, Around.frames_deeper e0.frames⟩
     refine wpAny_mono (Zjx (M := model P w) (E := fun _ _ => False) F J fl) (fun _ s2 ⟨H2, J2, k2, f2⟩ => ?_) fun _ _ z => z.elim
     exact ⟨ea, H2, rfl, J2.os, J2.bare, J2.base, J2.hok, f2, fun H'' k3 => q H'' (k2.trans k3)⟩
def EXP (X : Cx) (pins : Pn) (σ : St) (Ex : Addr -> Hp -> Prop) (e : Value) (s' : Shared) : Prop :=
 X.xe e s' \/ ∃ ea H', e = .ref ea /\ Inv X pins σ H' s' /\ Fly X H' s'.heap ea /\ ∀ H'', Same H' H'' -> Ex ea H''
abbrev TEX := St -> Hp -> VK -> (Addr -> Hp -> Prop) -> Prop
def PEx (X : Cx) (e : Expr) (t : TEX) : Prop :=
 ∀ (pins : Pn) (s : Shared) (σ : St) (H : Hp) (Q : VK) (Ex : Addr -> Hp -> Prop), Inv X pins σ H s -> t σ H Q Ex -> wpAny (model X.prog X.w) X.A (eval e X.env) (EP X pins σ Q) (EXP X pins σ Ex) s
def PEx.imp (h : PEx X e t) (k : ∀ σ H Q Ex, u σ H Q Ex -> t σ H Q Ex) : PEx X e u := fun pins s σ H Q Ex I w => h pins s σ H Q Ex I (k σ H Q Ex w)
def thne (h : wpAny M A t Q X.xe s) (hQ : ∀ a s, Q a s -> Q' a s) : wpAny M A t Q' (EXP X pins σ Ex) s := wpAny_mono h hQ fun _ _ x => .inl x
def EXP.xp (h : EXP X pins σ Ex e s) (k : ∀ ea H', Ex ea H' -> xc ea σ H') : XP X pins xc e s := by
 rcases h with h | ⟨ea, H', e, I, f, q⟩
 . exact .inl h
 . exact .inr ⟨ea, σ, H', e, I, f, fun H'' z => k ea H'' (q H'' z)⟩
theorem Zhg (F : FnOk X.prog X.w X.K X.mg X.base (CXx X.prog X.w) k f fd ps sp) (hr : Room k X.A) (hb : Binds X.K fd ps ds) (hd : Vals dvs ds)
 (I : Inv X pins σ H s) (r : Vals vs us) (h : sp (vs ++ dvs) H Q (fun v _ H' => ∃ ea, v = .ref ea /\ Ex ea H')) : wpAny (model X.prog X.w) X.A (call (.ref f) us) (EP X pins σ Q) (EXP X pins σ Ex) s := by
 have r2 : Vals (vs ++ dvs) (us ++ ds) := r.append hd
 have hl : (us ++ ds).length = ps.length := by rw [<- r2.length]; exact F.len _ _ _ _ h
 refine wpAny_call (codeAny_mono (F.run X.A X.stack s H ⟨us, []⟩ (us ++ ds) (vs ++ dvs) Q _ hr I.env0 (hb s us I.kIn hl) r2 h) fun r s' hq => ?_)
 cases r with
 | error e =>
  obtain ⟨ea, H', rfl, os, bare, un, hok, fl, q⟩ := hq
  refine .inr ⟨ea, H', rfl, I.call' (ch := []) os un hok bare fun b z => absurd z (by simp), .inr (fl.mono fun v z => .inl z), fun H'' z => ?_⟩
  obtain ⟨ea', e, q⟩ := q H'' z
  cases e
  exact q
 | ok fl =>
  cases fl with
  | ret u => exact I.after hq
  | next => exact False.elim hq
  | brk => exact False.elim hq
  | cont => exact False.elim hq
noncomputable def Znm (sp : Sp) (dvs : List V) (t : TA) : TEX := fun σ H Q Ex => t σ H fun vs H1 => sp (vs ++ dvs) H1 Q (fun v _ H' => ∃ ea, v = .ref ea /\ Ex ea H')
def Zjz (F : FnOk X.prog X.w X.K X.mg X.base (CXx X.prog X.w) k f fd ps sp) (hr : Room k X.A) (hg : Gl X x) (hm : X.mg x = some (.ref f)) (hk : PySem.W.keepIn X.K (.ref f) = true) (hb : Binds X.K fd ps ds) (hd : Vals dvs ds)
 (ha : PA X (e :: es) t) (hdb : (x == ("__debug__" : Str)) = false := by decide) (he : SE X e es := by rfl) (hpl : SFx X pos es := by rfl) :
 PEx X (.Call (.Name x p) (e :: es) [] pos) (Znm sp dvs t) := by
 intro pins s σ H Q Ex I h
 refine wpAny_Call_Name_kw (ZbK I hg hm ?_ hdb)
 refine PySem.W.callWith_K (h₀ := X.base) I.ok.mod.kin hk (thne (ha pos pins s σ H _ I h) fun us s1 ⟨vs, H1, I1, r, q⟩ => ⟨I1.kIn, ?_⟩) he hpl
 exact Zhg F hr hb hd I1 r q
def Zlw (he : PEx X e te) (hs : swapsWith e none pos.line X.env = pure false := by rfl) : PX X (.Expr e pos) fun D σ H => te σ H (fun _ H1 => D.nx σ H1) (fun ea H1 => D.xc ea σ H1) := by
 intro pins s σ H D I h
 exact wpAny_Expr_any (wpAny_mono (he pins s σ H _ _ I h) (fun v s1 ⟨x, H1, I1, r1, q1⟩ => ⟨σ, H1, I1, q1⟩) fun _ _ z => z.xp fun _ _ q => q) I.quiet hs
def Znn (hN : X.N.Nodup) (hi : X.N[i]? = some x) (hx : Loc X.env.scope x) (he : PEx X e te) (hs : swapsWith e (some (.Name x pos')) pos.line X.env = pure false := by rfl) (hf : X.fn x = true \/ X.env.scope.names.lookup x = some .local := by first | exact .inl rfl | exact .inr rfl | assumption) :
 PX X (.Assign [.Name x pos'] e pos) fun D σ H => te σ H (fun v H1 => D.nx (σ.set i (some v)) H1) (fun ea H1 => D.xc ea σ H1) := by
 intro pins s σ H D I h
 refine wpAny_Assign_Name (wpAny_mono (he pins s σ H _ _ I h) (fun v s1 ⟨y, H1, I1, r1, q1⟩ => ?_) fun _ _ z => z.xp fun _ _ q => q) hs
 exact Zbp I1 hN hi hx r1 (fun s2 I2 => ⟨_, H1, I2, q1⟩) hf
end
noncomputable def bmV : List Value := [.type "ValueError", .type "Exception", .type "BaseException", .type "object"]
noncomputable def Zbw : List Value -> Bool
 | .ref _ :: l => Zbw l
 | l => l == bmV
theorem Zdb (hv : bmV.contains v = true) : ∀ {l : List Value}, Zbw l = true -> l.contains v = true
 | [], h => by unfold Zbw at h; exact absurd h (by decide)
 | x :: l, h => by
  cases x with
  | ref a =>
   rw [List.contains_cons, Zdb (l := l) hv h, Bool.or_true]
  | _ => rw [beq_iff_eq.mp (show (_ :: l == bmV) = true from h)]; exact hv
theorem Zdc (self : Value) : ∀ {l : List Value}, Zbw l = true -> refuseLoop self (Str.ofString "__setattr__") l = pure ()
 | [], h => by unfold Zbw at h; exact absurd h (by decide)
 | x :: l, h => by
  cases x with
  | ref a => rw [refuseLoop_ref]; exact Zdc self (l := l) h
  | _ => rw [beq_iff_eq.mp (show (_ :: l == bmV) = true from h)]; exact F.store_ValueError.passes self
structure XC (K : Fg) (C : Addr) : Prop where
 obj : ∃ (nm q : Str) (N : Addr) (bs bm : List Value) (sn : List Str) (sub : List Value) (ab : Bool) (col : Option Bool) (dd : Option Addr) (k0 k1 k2 k3 k5 : Option Value),
  K.lookup C = some (excClassObj nm q C N bs bm true sn sub ab col dd k0 k1 k2 k3 k5 "ValueError.__new__") /\ PySem.W.tailIn K bmV bm = true /\ Zbw bm = true
 sa : PySem.W.findIn K (.ref C) (Str.ofString "__setattr__") = some (some (.builtin "object.__setattr__"))
 ga : PySem.W.findIn K (.ref C) (Str.ofString "__getattribute__") = some (some (.builtin "BaseException.__getattribute__"))
 kp : PySem.W.keepIn K (.ref C) = true
section
variable {w : World} {A : Around} {E : VS} {K : Fg} {C f x : Addr} {g : Array GenState} {d : Drawn} {t : Nat} {rest : List Value}
noncomputable abbrev ZaK (C t : Addr) : Obj := { cls := .ref C, data := .fields #[.ref t, .none, .none, .none, .bool false, .none] }
noncomputable abbrev Za5 (vs : List Value) : Obj := { cls := .type "tuple", data := .seq vs.toArray }
def ZiA (X : XC K C) (hK : K.In h) (hi : PySem.W.findIn K (.ref C) (Str.ofString "__init__") = some (some (.ref f))) (hf : PySem.W.typeIn K (.ref f) = some (.type "function")) (hr : rest.length <= sizeLine)
 (hq : wpAny (model prog w) (A.under (.builtin "type.__call__" ⟨.ref C :: rest, []⟩)) (call (.ref f) (.ref (h.objs.size + 1) :: rest)) (fun r s' => r = .none /\ Q (.ref (h.objs.size + 1)) s') E ⟨(h.push (Za5 rest)).push (ZaK C h.objs.size), g, d, t, os⟩) : wpAny (model prog w) A (call (.ref C) rest) Q E ⟨h, g, d, t, os⟩ := by
 obtain ⟨nm, q, N, bs, bm, sn, sub, ab, col, dd, k0, k1, k2, k3, k5, lk, tl, tv⟩ := X.obj
 have hC : h.get? C = some (excClassObj nm q C N bs bm true sn sub ab col dd k0 k1 k2 k3 k5 "ValueError.__new__") := hK _ _ lk
 have T : OwnTail h bmV bm := PySem.W.tail_of_in hK tl
 have f1 := tc_lookup
 have f2 := tc_bind (.ref C)
 have hT : Shared.TypeIs ⟨h, g, d, t, os⟩ (.ref C) "type" := ⟨_, hC, rfl⟩
 (refine wpAny_call (codeAny_of_tree ?_))
 refine wpAny_bind (wpAny_load' hC ?_)
 refine wpAny_bind (wpAny_specialOf hT f1 (wpAny_bind (wpAny_of_eq f2 (wpAny_bind (wpAny_pure (wpAny_ite_true rfl (wpAny_pure ⟨rfl, ?_⟩)))))))
 refine codeAny_call_builtin_at (Code.quiet_builtin _ (by decide +kernel)) entry_typeCall (wpAny_check_type_call_sub hC ?_)
 show wpAny _ _ (Builtin.«type.__call__» ⟨Value.ref C :: rest, []⟩) _ _ _
 (unfold Builtin.«type.__call__»)
 refine wpAny_ite_false rfl ?_
 refine wpAny_bind (wpAny_bind (wpAny_bind (wpAny_load' hC (wpAny_pure (wpAny_pure (wpAny_ite_false rfl (wpAny_bind (wpAny_madeBy_exc hC (wpAny_bind (wpAny_pure (wpAny_bind (wpAny_holding (wpAny_call ?_)))))))))))))
 have F := F.excBase_ValueError
 have hB : bmV.contains (Value.type "ValueError") = true := by decide +kernel
 refine codeAny_call_builtin_code (Code.quiet_builtin _ F.quiet) (wpAny_check_new_subU F hB T hC (codeAny_exc_new_subU F hB F T hC ?_ hr))
 have kk : ∀ b o, h.get? b = some o -> ((h.push (Za5 rest)).push (ZaK C h.objs.size)).get? b = some o := fun b o e => Heap.get?_push_of_some _ (Heap.get?_push_of_some _ e)
 have hC₁ := kk _ _ hC
 have hget : ((h.push (Za5 rest)).push (ZaK C h.objs.size)).get? (h.objs.size + 1) = some (ZaK C h.objs.size) := Heap.get?_push_at (by simp) rfl
 have J : PySem.W.InstAt ((h.push (Za5 rest)).push (ZaK C h.objs.size)) (h.objs.size + 1) (ZaK C h.objs.size) C none := ⟨hget, rfl, rfl, trivial⟩
 show wpAny _ _ _ _ _ _
 refine wpAny_bind (wpAny_bind (wpAny_bind (wpAny_loadPart_at hget (wpAny_pure (wpAny_isSubtype_exc hC₁ ?_)))))
 rw [show (Value.ref C :: bm).contains (Value.ref C) = true by simp]
 refine wpAny_ite_false rfl (wpAny_bind (wpAny_holding (PySem.W.special_fn (hK.keeps kk) J hi hf (wpAny_mono hq (fun r s' ⟨e, q⟩ => ?_) fun _ _ z => z))))
 subst e
 exact wpAny_ite_false rfl (wpAny_pure q)
def ZhK (X : XC K C) (hK : K.In h) (he : h.get? e = some oe) (hc : oe.cls = .ref C) (hd : oe.data = .fields vs) (hz : vs.size = 6) (hr : rest.length <= sizeLine)
 (hq : Q .none ⟨(h.push (Za5 rest)).update e (Obj.mapFields fun x => x.setIfInBounds 0 (.ref h.objs.size)), g, d, t, os⟩) :
 wpAny (model prog w) A (call (.builtin "ValueError.__init__") (.ref e :: rest)) Q E ⟨h, g, d, t, os⟩ := by
 obtain ⟨nm, q, N, bs, bm, sn, sub, ab, col, dd, k0, k1, k2, k3, k5, lk, tl, tv⟩ := X.obj
 have hC : h.get? C = some (excClassObj nm q C N bs bm true sn sub ab col dd k0 k1 k2 k3 k5 "ValueError.__new__") := hK _ _ lk
 have T : OwnTail h bmV bm := PySem.W.tail_of_in hK tl
 have F := F.excBase_ValueError
 have he' := Heap.get?_push_of_some (Za5 rest) he
 refine wpAny_call (codeAny_call_builtin F.init.plain F.initEntry (wpAny_check_init_subU F T hC he hc ?_))
 (unfold Builtin.«BaseException.__init__»)
 refine wpAny_ite_false rfl (wpAny_bind (wpAny_newTuple ?_ hr))
 refine wpAny_bind ?_
 unfold Builtin.BaseException.bexcPut
 obtain ⟨v0, h0⟩ : ∃ v0, vs[0]? = some v0 := ⟨_, Array.getElem?_eq_getElem (by omega)⟩
 refine wpAny_bind (wpAny_field he' hd h0 (wpAny_bind (wpAny_setField he' hd (by omega) ?_)))
 cases v0 <;> first
  | exact wpAny_letGo (wpAny_pure hq)
  | exact wpAny_pure (wpAny_pure hq)
def ZiB (hh : A.handled = none)
 (hx : wpAny M A y (fun v s₁ => ∃ (K : Fg) (C e : Addr) (oe : Obj) (vs : Array Value), XC K C /\ K.In s₁.heap /\ v = .ref e /\ s₁.heap.get? e = some oe /\ oe.cls = .ref C /\ oe.data = .fields vs /\ vs[1]? = some .none /\ E (.ref e) s₁) E s) :
 wpAny M A (raiseStmt env (some y) none) Q E s := by
 unfold raiseStmt
 refine wpAny_bind (thn hx fun v s₁ z0 => ?_)
 obtain ⟨K, C, e, oe, vs, X, hK, hv, he, hc, hd, h1, q⟩ := z0
 subst hv
 obtain ⟨nm, q', N, bs, bm, sn, sub, ab, col, dd, k0, k1, k2, k3, k5, lk, tl, tv⟩ := X.obj
 have hC := hK _ _ lk
 have hbe : (Value.ref C :: bm).contains (.type "BaseException") = true := by rw [List.contains_cons, Zdb (by decide +kernel) tv, Bool.or_true]
 (obtain ⟨hp, g, d, tk, os⟩ := s₁)
 obtain ⟨oc, odx, oda, osl⟩ := oe
 have hc : oc = .ref C := hc
 have hd : oda = .fields vs := hd
 subst hc hd
 refine wpAny_bind (wpAny_pure (wpAny_bind (wpAny_holding ?_)))
 unfold excFromValue
 refine wpAny_bind ?_
 unfold isExcClass
 refine wpAny_bind ?_
 refine wpAny_bind (wpAny_loadPart_at he (wpAny_pure (wpAny_ite_false rfl (wpAny_pure (wpAny_ite_false rfl (wpAny_bind ?_))))))
 refine wpAny_bind (wpAny_bind (wpAny_loadPart_at he (wpAny_pure (wpAny_isSubtype_exc hC ?_))))
 rw [hbe]
 refine wpAny_ite_true rfl (wpAny_pure (wpAny_bind (wpAny_bind (wpAny_loadPart_at he (wpAny_pure (wpAny_ite_false rfl (wpAny_bind ?_)))))))
 unfold raisedInstance
 refine wpAny_bind (wpAny_bind (wpAny_loadPart_at he (wpAny_pure (wpAny_bind (wpAny_bind (wpAny_loadPart_at hC (wpAny_pure ?_)))))))
 refine wpAny_ite_true rfl (wpAny_pure (wpAny_bind ?_))
 unfold setFlight
 refine wpAny_bind (wpAny_field he rfl h1 (wpAny_ite_false rfl (wpAny_pure ?_)))
 exact wpAny_raiseNew_none hh q
end
section
variable {w : World} {A : Around} {E : VS} {K : Fg} {C f a : Addr} {g : Array GenState} {d : Drawn} {t : Nat} {rest : List Value} {od : Option Obj} {v : Value}
def ZeH : bmV.contains (.type "BaseException") = true := by decide +kernel
def ZiC : bmV.contains (.type "object") = true := by decide +kernel
def Zj0 : builtinKind "BaseException.__getattribute__" = some Manifest.AttrKind.slot := by decide +kernel
def ZiD : splitId "BaseException.__getattribute__" = some ("BaseException", "__getattribute__") := by decide +kernel
def Zfh (sub : PySem.W.Looks M s.heap (isInstance (.ref a) (.type "BaseException")) true) (hq : Q () s) : wpAny M A (checkBuiltinCall "BaseException.__getattribute__" ⟨[.ref a, nv], []⟩) Q E s :=
 (@PySem.W.check_slot M A E s "BaseException.__getattribute__" "BaseException" "__getattribute__" (.ref a) [nv] [] Q Zj0 ZiD sub) (F.args_bexc_ga (.ref a) nv) hq
def XC.cls (X : XC K C) : ∃ cd bm, PySem.W.clsIn K C = some cd /\ cd.mro = .ref C :: bm /\ Zbw bm = true /\ cd.hasDict = true := by
 obtain ⟨nm, q, N, bs, bm, sn, sub, ab, col, dd, k0, k1, k2, k3, k5, lk, tl, tv⟩ := X.obj
 exact ⟨_, bm, by unfold PySem.W.clsIn; rw [lk], rfl, tv, rfl⟩
def XC.sub (X : XC K C) (hn : bmV.contains (.type n) = true) : PySem.W.mroIn K C (.type n) = some true := by
 obtain ⟨cd, bm, h1, h2, h3, _⟩ := X.cls
 unfold PySem.W.mroIn
 rw [h1]
 show (if cd.mro.isEmpty = true then none else some (cd.mro.contains (.type n))) = _
 rw [h2, if_neg (by simp), List.contains_cons, Zdb hn h3, Bool.or_true]
def Zno (X : XC K C) (hK : K.In h) (J : PySem.W.InstAt h a oe C od) (hf : PySem.W.findObj K C od name = some (.value v)) (hr : R (.ok (.ret v)) ⟨h, g, d, t, os⟩) :
 codeAny (model prog w) A (.call (.builtin "BaseException.__getattribute__") ⟨[.ref a, .str name tk], []⟩) R ⟨h, g, d, t, os⟩ := by
 have FA := F.attrBase_ValueError
 have sub : PySem.W.Looks (model prog w) h (isInstance (.ref a) (.type "BaseException")) true := PySem.W.Looks.andThen J.type (PySem.W.looks_mroIn hK (X.sub ZeH))
 refine codeAny_call_builtin FA.ga.plain F.entry_bexc_ga ?_
 refine Zfh sub ?_
 (unfold Builtin.«object.__getattribute__»)
 refine wpAny_bind (wpAny_of_eq (a := (Value.ref a, [Value.str name tk])) rfl ?_)
 refine wpAny_bind (wpAny_pure (wpAny_bind (PySem.W.Looks.at J.type (wpAny_bind (PySem.W.Looks.at (PySem.W.looks_find hK J hf) (wpAny_pure hr))))))
def Znp (X : XC K C) (hK : K.In h) (J : PySem.W.InstAt h a oe C od) (ha : PySem.W.findIn K (.ref C) "__class__" = some (some (.builtin "object.__class__")))
 (hn : PySem.W.specialIn K (.builtin "object.__class__") "__get__" = some (some (.builtin "getset_descriptor.__get__"))) (htk : PySem.W.takesIn K (.builtin "object.__class__") = some true) (hr : R (.ok (.ret (.ref C))) ⟨h, g, d, t, os⟩) :
 codeAny (model prog w) A (.call (.builtin "BaseException.__getattribute__") ⟨[.ref a, .str (Str.ofString "__class__") tk], []⟩) R ⟨h, g, d, t, os⟩ := by
 have FA := F.attrBase_ValueError
 obtain ⟨cd, bm, h1, h2, h3, _⟩ := X.cls
 have hf : PySem.W.findObj K C od "__class__" = some (.bind (.builtin "getset_descriptor.__get__") (.builtin "object.__class__")) := by
  unfold PySem.W.findObj
  rw [h1, ha]
  simp only [Option.bind_some]
  rw [hn]
  simp only [Option.bind_some]
  rw [htk]
  rfl
 have sub : PySem.W.Looks (model prog w) h (isInstance (.ref a) (.type "BaseException")) true := PySem.W.Looks.andThen J.type (PySem.W.looks_mroIn hK (X.sub ZeH))
 refine codeAny_call_builtin FA.ga.plain F.entry_bexc_ga ?_
 refine Zfh sub ?_
 (unfold Builtin.«object.__getattribute__»)
 refine wpAny_bind (wpAny_of_eq (a := (Value.ref a, [Value.str (Str.ofString "__class__") tk])) rfl ?_)
 refine wpAny_bind (wpAny_pure (wpAny_bind (PySem.W.Looks.at J.type (wpAny_bind (PySem.W.Looks.at (PySem.W.looks_find hK J hf) ?_)))))
 exact wpAny_bind (wpAny_holding (wpAny_call (PySem.W.class_get hK J (X.sub ZiC) (wpAny_pure hr))))
def Zk8 {tk : Tok} {fill : Bool} {Q : VS} (X : XC K C) (hK : K.In h) (J : PySem.W.InstAt h a oe C od) (hg : PySem.W.findIn K (.ref C) (Str.ofString "__getattr__") = some none) (hv : PySem.W.handedIn v = true)
 (hr : ∀ R : Result -> Shared -> Prop, R (.ok (.ret v)) ⟨h, g, d, t, os⟩ -> codeAny (model prog w) A (.call (.builtin "BaseException.__getattribute__") ⟨[.ref a, .str name tk], []⟩) R ⟨h, g, d, t, os⟩) (hq : Q v ⟨h, g, d, t, os⟩) :
 wpAny (model prog w) A (getAttrBy (.ref a) (.str name tk) fill expr) Q E ⟨h, g, d, t, os⟩ := by
 have FA := F.attrBase_ValueError
 (have hx0 : (expr && onTheHeap (Value.builtin "BaseException.__getattribute__")) = false := by cases expr <;> rfl)
 unfold getAttrBy
 refine wpAny_holding (wpAny_bind (PySem.W.Looks.at J.type (wpAny_bind (PySem.W.Looks.at (PySem.W.looks_findIn hK X.ga) (wpAny_ite_false (by show decide ((true && (Value.builtin "BaseException.__getattribute__" == Value.builtin "object.__getattribute__")) = true) = false; decide +kernel) ?_)))))
 unfold getAttrByItsOwn
 refine wpAny_bind (?_ : wpAny _ _ (hookBefore _) _ _ _)
 unfold hookBefore
 refine wpAny_ite_true rfl (PySem.W.Looks.at (PySem.W.looks_findIn hK hg) (wpAny_bind (wpAny_attempt (wpAny_holding ?_))))
 unfold callGetattribute
 rw [hx0]
 refine wpAny_ite_false rfl ?_
 unfold boundAndCalled
 refine wpAny_bind (wpAny_of_eq (FA.ga.bind _) (wpAny_call (hr _ ?_)))
 exact PySem.W.handed_on hv hq
def Zlx {Q : VS} (X : XC K C) (hK : K.In s.heap) (J : PySem.W.InstAt s.heap a oe C od) (hg : PySem.W.findIn K (.ref C) (Str.ofString "__getattr__") = some none) (hv : PySem.W.handedIn v = true)
 (hf : PySem.W.findObj K C od name = some (.value v)) (hq : Q v { s with toks := s.toks + 1 }) : wpAny (model prog w) A (getAttr (.ref a) name expr) Q E s := by
 obtain ⟨h, g, d, t, os⟩ := s
 unfold getAttr
 exact wpAny_bind (wpAny_mkText (Zk8 X hK J hg hv (fun R hr => Zno X hK J hf hr) hq))
def Zj1 {Q : Option Value -> Shared -> Prop} (X : XC K C) (hK : K.In s.heap) (J : PySem.W.InstAt s.heap a oe C od) (hg : PySem.W.findIn K (.ref C) (Str.ofString "__getattr__") = some none) (ha : PySem.W.findIn K (.ref C) "__class__" = some (some (.builtin "object.__class__")))
 (hn : PySem.W.specialIn K (.builtin "object.__class__") "__get__" = some (some (.builtin "getset_descriptor.__get__"))) (htk : PySem.W.takesIn K (.builtin "object.__class__") = some true) (hq : Q (some (.ref C)) { s with toks := s.toks + 1 }) :
 wpAny (model prog w) A (getAttr? (.ref a) (Str.ofString "__class__")) Q E s := by
 obtain ⟨h, g, d, t, os⟩ := s
 unfold getAttr?
 (refine wpAny_bind (wpAny_mkText ?_))
 unfold getAttrBy?
 exact wpAny_bind (wpAny_attempt (Zk8 (v := .ref C) X hK J hg rfl (fun R hr => Znp X hK J ha hn htk hr) (wpAny_pure hq)))
structure XD (K : Fg) (C : Addr) : Prop extends XC K C where
 hk : PySem.W.findIn K (.ref C) (Str.ofString "__getattr__") = some none
 hc : PySem.W.findIn K (.ref C) "__class__" = some (some (.builtin "object.__class__"))
 hn : PySem.W.specialIn K (.builtin "object.__class__") "__get__" = some (some (.builtin "getset_descriptor.__get__"))
 ht : PySem.W.takesIn K (.builtin "object.__class__") = some true
def Zj2 (X : XD K C) : PySem.W.KitX K (.ref a) (.ref C) fun h => PySem.W.InstAt h a oe C od where
 ty := fun M h hK J => J.type
 it := fun M h hK J => by
  obtain ⟨nm, q, N, bs, bm, sn, sub, ab, col, dd, k0, k1, k2, k3, k5, lk, tl, tv⟩ := X.obj
  exact fun A Q E s k hq => wpAny_bind (wpAny_loadPart (k _ _ (hK _ _ lk)) (wpAny_pure hq))
 ne := fun h tp dd its n sl hK e => by
  obtain ⟨nm, q, N, bs, bm, sn, sub, ab, col, dd, k0, k1, k2, k3, k5, lk, tl, tv⟩ := X.obj
  refine Bool.eq_false_iff.mpr fun z => ?_
  have := Value.ref.inj (beq_iff_eq.mp z)
  subst this
  have := congrArg (fun o => match o with | some (Obj.mk _ _ (.cls _) _) => true | _ => false) ((hK _ _ lk).symm.trans e)
  exact absurd this (by simp)
 ca := fun hK J hq => Zj1 X.toXC hK J X.hk X.hc X.hn X.ht hq
def osaX (X : XC K C) (hK : K.In s.heap) (J : PySem.W.InstAt s.heap a oe C od) (ht : PySem.W.takerIn K C name = some none)
 (hs : ∀ b : Bool, wpAny (model prog w) A.in1 (Builtin.ObjectAttr.storeInOwnDict (.ref a) (.ref C) (.str name tk) name v b) (fun fin s' => match fin with
  | .done f => R (.ok f) s'
  | .again c' => c'.quiet = true /\ codeAny (model prog w) A c' R s') (fun e s' => R (.error e) s') s) :
 codeAny (model prog w) A (.call (.builtin "object.__setattr__") ⟨[.ref a, .str name tk, v], []⟩) R s := by
 have SF := F.store_object
 obtain ⟨cd, bm, h1, h2, h3, _⟩ := X.cls
 have sub : PySem.W.Looks (model prog w) s.heap (isInstance (.ref a) (.type "object")) true := PySem.W.Looks.andThen J.type (PySem.W.looks_mroIn hK (X.sub ZiC))
 have hm : PySem.W.Looks (model prog w) s.heap (mroOf (.ref C)) cd.mro := PySem.W.Looks.andThen (PySem.W.looks_clsIn hK h1) PySem.W.Looks.now
 refine codeAny_call_builtin SF.slot.plain SF.entry ?_
 refine (@PySem.W.check_slot (model prog w) A.in1 _ s "object.__setattr__" "object" "__setattr__" (.ref a) [.str name tk, v] [] _ SF.kind SF.split sub) (SF.args (.ref a) (.str name tk) v) ?_
 rw [PySem.W.osa_eq, refuse_eq]
 refine wpAny_bind (wpAny_bind (PySem.W.Looks.here J.type (wpAny_bind (PySem.W.Looks.here hm ?_))))
 rw [h2, refuseLoop_ref, Zdc _ h3]
 refine wpAny_pure (wpAny_bind (PySem.W.Looks.here J.type ?_))
 unfold PySem.W.takerIn at ht
 obtain ⟨attr, e1, e2⟩ := Option.bind_eq_some_iff.mp ht
 refine wpAny_bind (PySem.W.Looks.here (PySem.W.looks_findIn hK e1) ?_)
 have L3 : PySem.W.Looks (model prog w) s.heap (Builtin.ObjectAttr.storeTaker? attr) none := by
  cases attr with
  | none => exact PySem.W.Looks.now
  | some x =>
   obtain ⟨b, hb, hz⟩ := Option.map_eq_some_iff.mp e2
   cases b with
   | true => cases hz
   | false => exact PySem.W.Looks.andThen (PySem.W.looks_takesIn hK hb) PySem.W.Looks.now
 exact wpAny_bind (PySem.W.Looks.here L3 (hs attr.isSome))
end
def GX (K : Fg) (n : Str) (C : Addr) : Prop := PySem.W.nsIn K mainGlobals n = some (some (.ref C)) /\ (PySem.W.clsIn K C).map (·.name) = some n
def bmOf (K : Fg) : List Str -> List Value -> Prop
 | [], bm => bm = bmV
 | n :: ns, bm => ∃ L bm', bm = .ref L :: bm' /\ GX K n L /\ bmOf K ns bm'
noncomputable def ZdA : List Str := ["row", "number", "length", "numbers"]
structure XN (K : Fg) (ns : List Str) (C : Addr) : Prop extends XD K C where
 nms : ∃ cd, PySem.W.clsIn K C = some cd /\ bmOf K ns cd.mro
 nof : ∀ f ∈ ZdA, ZJ K C f
def GX.ne {K : Fg} {n c : Str} {C D : Addr} (h : GX K n C) (h' : GX K c D) : (Value.ref D == Value.ref C) = decide (c = n) := by
 by_cases e : c = n
 . subst e
   have := h.1.symm.trans h'.1
   cases this
   simp
 . rw [decide_eq_false e]
   refine Bool.eq_false_iff.mpr fun z => e ?_
   have z := Value.ref.inj (beq_iff_eq.mp z)
   subst z
   have := h'.2.symm.trans h.2
   exact Option.some.inj this
theorem bmOf.has {K : Fg} {c : Str} {D : Addr} (h' : GX K c D) : ∀ {ns : List Str} {bm : List Value}, bmOf K ns bm -> bm.contains (.ref D) = decide (c ∈ ns)
 | [], bm, h => by
  rw [show bm = bmV from h]
  rfl
 | n :: ns, bm, h => by
  obtain ⟨L, bm', rfl, g, r⟩ := h
  rw [List.contains_cons, bmOf.has h' r, GX.ne g h']
  by_cases e : c = n
  . simp [e]
  . simp [e]
def XN.isa {K : Fg} {ns : List Str} {c : Str} {C D : Addr} (h : XN K ns C) (h' : GX K c D) (ht : PySem.W.typeIn K (.ref D) = some (.type "type")) : PySem.W.kitOne K (.ref C) (.ref D) = some (decide (c ∈ ns)) := by
 obtain ⟨cd, h1, h2⟩ := h.nms
 obtain ⟨cd', bm, q1, q2, q3, _⟩ := h.toXC.cls
 rw [h1] at q1
 cases q1
 have hm : PySem.W.mroIn K C (.ref D) = some (decide (c ∈ ns)) := by
  unfold PySem.W.mroIn
  rw [h1]
  show (if cd.mro.isEmpty = true then none else some (cd.mro.contains (.ref D))) = _
  rw [if_neg (by rw [q2]; simp), bmOf.has h' h2]
 unfold PySem.W.kitOne
 have hs : (PySem.W.clsIn K D).isSome = true := by
  cases e : PySem.W.clsIn K D with
  | none => have := h'.2; rw [e] at this; cases this
  | some x => rfl
 split
 . rename_i e
   have := Value.ref.inj (beq_iff_eq.mp e)
   subst this
   have : cd.mro.contains (.ref C) = true := by rw [q2]; simp
   rw [bmOf.has h' h2] at this
   rw [this]
 . unfold PySem.W.kitCls
   dsimp only
   rw [if_pos (by rw [hs, ht]; simp)]
   exact hm
def XN.isaB {K : Fg} {ns : List Str} {n : String} {C : Addr} (h : XN K ns C) (hb : bmV.contains (.type n) = true) (hm : PySem.W.kitMeta n = true) : PySem.W.kitOne K (.ref C) (.type n) = some true := by
 unfold PySem.W.kitOne
 rw [if_neg (by simp)]
 unfold PySem.W.kitCls
 dsimp only
 rw [if_pos hm]
 exact h.toXC.sub hb
section
theorem ZbL (I : Inv X pins σ H s) (e : H a = some (.exc C dx fr fs)) : ∃ (oe : Obj) (vs : Array Value) (od : Option Obj), s.heap.get? a = some oe /\ oe.cls = .ref C /\ oe.dict = dx /\ oe.data = .fields vs /\ vs.size = 6 /\ (fr = true -> vs[1]? = some .none) /\ PySem.W.InstAt s.heap a oe C od /\
 ∃ mA : Str -> Option Value, (∀ f, RelO (fs.lookup f) (mA f)) /\ PySem.Within mA (fs.map (·.1)) /\ (∀ name, (match od with | some o => PySem.W.lookIn name o | none => some none) = some (mA name)) /\
  ∀ d, dx = some d -> H d = some (.own a) /\ d ≠ a /\ s.heap.Ns1 d mA := by
 obtain ⟨l, ⟨oe, vs, e1, e2, e3, e4, e5, e6⟩, r⟩ := (show Z7 X.prog X.w H s.heap a (.exc C dx fr fs) from I.hok a _ e)
 have nc : PySem.W.notCls oe = true := by unfold PySem.W.notCls; rw [e4]
 cases dx with
 | none =>
  have r : fs = [] := r
  subst r
  exact ⟨oe, vs, none, e1, e2, e3, e4, e5, e6, ⟨e1, e2, nc, by rw [e3]; trivial⟩, fun _ => none, fun _ => trivial, fun y h => absurd rfl h, fun _ => rfl, fun d h => nomatch h⟩
 | some d =>
  obtain ⟨r1, r2, mA, r3, r4, r5⟩ := r
  obtain ⟨od, ho, hl⟩ := ZeX r3
  exact ⟨oe, vs, some od, e1, e2, e3, e4, e5, e6, ⟨e1, e2, nc, by rw [e3]; exact ho⟩, mA, r4, r5, hl, fun d' h => by cases h; exact ⟨r1, r2, r3⟩⟩
def ZgJ (I : Inv X pins σ H s) (e : H a = some (.exc C dx fr fs)) (c : XD X.K C) (n : ZJ X.K C f) (l : fs.lookup f = some v)
 (h : ∀ u s', Inv X pins σ H s' -> RelV v u -> Q u s') : wpAny (model X.prog X.w) A (getAttr (.ref a) f b) Q E s := by
 obtain ⟨oe, vs, od, e1, e2, e3, e4, e5, e6, J, mA, r1, r2, r3, r4⟩ := ZbL I e
 obtain ⟨u, hu, ru⟩ := RelO.some_of (v := v) (o := mA f) (by rw [<- l]; exact r1 f)
 refine Zlx c.toXC I.kIn J c.hk (ZeY ru) ?_ (h u _ (I.tok _) ru)
 obtain ⟨cd, bm, h1, h2, h3, h4⟩ := c.toXC.cls
 unfold PySem.W.findObj
 rw [h1, show PySem.W.findIn X.K (.ref C) f = some none from n]
 simp only [Option.bind_some]
 have : PySem.W.ownOf cd od f = some (mA f) := by
  unfold PySem.W.ownOf
  rw [if_pos h4]
  have := r3 f
  cases od with
  | none => exact this
  | some o => exact this
 rw [this, hu]
 rfl
def ZhL (I : Inv X pins σ H s) (e : H a = some (.exc C dx fr fs)) (x : XD X.K C) (k : PySem.W.kitOne X.K (.ref C) c = some b) (h : ∀ tk, Q (.bool b) { s with toks := tk }) :
 wpAny (model X.prog X.w) A (call (.builtin "isinstance") [.ref a, c]) Q E s := by
 obtain ⟨oe, vs, od, e1, e2, e3, e4, e5, e6, J, _⟩ := ZbL I e
 exact PySem.W.kia_one (Zj2 x) I.kIn J k (fun z => nomatch z) h
theorem ZgK (I : Inv X pins σ H s) (e : H a = some (.exc C dx fr fs)) (c : XC X.K C) (n : ZJ X.K C f) (hl : fs.length < 1000) (ry : RelV y u)
 (h : ∀ s' H' d', H' a = some (.exc C (some d') fr (putF f y fs)) -> (∀ b o, b ≠ a -> H b = some o -> H' b = some o) -> Inv X pins σ H' s' -> Q () s') : wpAny (model X.prog X.w) A (setAttr (.ref a) f u) Q E s := by
 obtain ⟨oe, vs, od, e1, e2, e3, e4, e5, e6, J, mA, r1, r2, r3, r4⟩ := ZbL I e
 have hz : (fs.map (·.1)).length <= sizeLine := by rw [List.length_map, sizeLine_eq]; omega
 obtain ⟨cd, bm, h1, h2, h3, h4⟩ := c.cls
 refine PySem.W.set_plain I.kIn J c.sa (osaX (s := { s with toks := s.toks + 1 }) c I.kIn J n.taker fun b => ?_)
 have rel : ∀ g, RelO ((putF f y fs).lookup g) (if g = f then some u else mA g) := fun g => by
  rw [Zct]
  by_cases q : g = f
  . rw [if_pos q, if_pos q]; exact ry
  . rw [if_neg q, if_neg q]; exact r1 g
 have wi : PySem.Within (fun g => if g = f then some u else mA g) ((putF f y fs).map (·.1)) := fun g hg => by
  by_cases q : g = f
  . rw [q]; exact (Zb4 f y fs).1
  . refine (Zb4 f y fs).2 g (r2 g fun z => hg ?_)
    show (if g = f then some u else mA g) = none
    rw [if_neg q]; exact z
 have le : (putF f y fs).length <= 1000 := by have := Zcu f y fs; omega
 refine wpAny_bind (wpAny_pure (wpAny_bind (wpAny_bind (wpAny_loadPart e1 ?_))))
 rw [e2]
 refine wpAny_bind (PySem.W.Looks.here (s := { s with toks := s.toks + 1 }) (PySem.W.looks_clsIn I.kIn h1) ?_)
 rw [h4]
 cases dx with
 | some d =>
  obtain ⟨q1, q2, q3⟩ := r4 d rfl
  rw [e3]
  refine wpAny_pure (a := some d) (wpAny_bind (wpAny_pure (wpAny_bind ?_)))
  refine wpAny_nsSet1 (s := { s with toks := s.toks + 1 }) q3 fun h' hn2 hs2 => ?_
  obtain ⟨oD, esD, epD, hoD, hdD, hcD⟩ := hn2.count (PySem.Within.cons f u r2)
  refine wpAny_bind (wpAny_lookBehind hoD (by rw [hdD]; exact pastItsLine_dict (Nat.le_trans hcD (by rw [List.length_cons]; omega))) ?_)
  refine wpAny_pure (h _ _ d Zl (fun b o hb q => by rw [Zk hb]; exact q) (I.write (t' := s.toks + 2) (x := a) (e := d) (o := .exc C (some d) fr (putF f y fs)) (h' := h') (by rw [e]; exact True.intro) (.inr q1) (fun b q hb z => (hs2.2 b hb).trans z) ⟨oD, hoD⟩ ?_))
  exact ⟨le, ⟨oe, vs, (hs2.2 _ (Ne.symm q2)).trans e1, e2, e3, e4, e5, e6⟩, by rw [Zk q2]; exact q1, q2, _, hn2, rel, wi⟩
 | none =>
  have hfs : fs = [] := by
   have : Z7 X.prog X.w H s.heap a (.exc C none fr fs) := I.hok a _ e
   exact this.2.2
  subst hfs
  rw [e3]
  refine wpAny_ite_false rfl ?_
  rw [e4]
  refine wpAny_bind (wpAny_alloc (wpAny_bind (wpAny_update (s := { s with heap := s.heap.push PySem.W.emptyDict, toks := s.toks + 1 }) (Heap.get?_push_of_some _ e1) ?_)))
  have nd : s.heap.objs.size ≠ a := Nat.ne_of_gt (Heap.lt_size e1)
  have g1 : ((s.heap.push PySem.W.emptyDict).update a fun o => { o with dict := some s.heap.objs.size }).get? a = some { oe with dict := some s.heap.objs.size } := Heap.get?_update_self _ (Heap.get?_push_of_some _ e1) (Obj.isFreed_of_fields (vs := vs) e4)
  have g2 : ((s.heap.push PySem.W.emptyDict).update a fun o => { o with dict := some s.heap.objs.size }).get? s.heap.objs.size = some PySem.W.emptyDict := (Heap.get?_update_other _ _ (Ne.symm nd)).trans (Heap.get?_push_size _ rfl)
  have q3 : Heap.Ns1 ((s.heap.push PySem.W.emptyDict).update a fun o => { o with dict := some s.heap.objs.size }) s.heap.objs.size (fun _ => none) := ⟨_, #[], _, g2, rfl, fun e he => absurd he (by simp), by unfold UniqKeys; simp, fun _ => rfl⟩
  refine wpAny_pure (a := some s.heap.objs.size) (wpAny_bind (wpAny_pure (wpAny_bind ?_)))
  refine wpAny_nsSet1 (s := ⟨_, s.gens, s.drawn, s.toks + 1, s.os⟩) q3 fun h' hn2 hs2 => ?_
  obtain ⟨oD, esD, epD, hoD, hdD, hcD⟩ := hn2.count (PySem.Within.cons (m := fun _ => none) (ns := []) f u fun y h => absurd rfl h)
  refine wpAny_bind (wpAny_lookBehind hoD (by rw [hdD]; exact pastItsLine_dict (Nat.le_trans hcD (by rw [List.length_cons]; decide))) ?_)
  have hn : H s.heap.objs.size = none := I.hok.fresh (Nat.le_refl _)
  have g3 : h'.get? a = some { oe with dict := some s.heap.objs.size } := (hs2.2 _ (Ne.symm nd)).trans g1
  have kk : ∀ b o, b ≠ a -> s.heap.get? b = some o -> h'.get? b = some o := fun b o hb q => by
   have : b ≠ s.heap.objs.size := Nat.ne_of_lt (Heap.lt_size q)
   exact (hs2.2 b this).trans ((Heap.get?_update_other _ _ (Ne.symm hb)).trans (Heap.get?_push_of_some _ q))
  have I1 := I.laid (a := s.heap.objs.size) (o := .own a) (t' := s.toks + 1) (h' := s.heap.push PySem.W.emptyDict) (fun b u q => Heap.get?_push_of_some _ q) (Nat.le_refl _) ⟨_, Heap.get?_push_size _ rfl⟩
  have e1' : upd H s.heap.objs.size (.own a) a = some (.exc C none fr []) := by rw [Zk (Ne.symm nd)]; exact e
  have I2 := I1.write (t' := s.toks + 1) (x := a) (e := a) (o := .exc C (some s.heap.objs.size) fr []) (h' := (s.heap.push PySem.W.emptyDict).update a fun o => { o with dict := some s.heap.objs.size }) (by rw [e1']; exact True.intro) (.inl rfl)
   (fun b q hb z => (Heap.get?_update_other _ _ (Ne.symm hb)).trans z) ⟨_, g1⟩ ⟨by simp, ⟨_, vs, g1, e2, rfl, e4, e5, e6⟩, by rw [Zk nd]; exact Zl, nd, _, q3, fun _ => trivial, fun y h => absurd rfl h⟩
  have e2' : upd (upd H s.heap.objs.size (.own a)) a (.exc C (some s.heap.objs.size) fr []) s.heap.objs.size = some (.own a) := by rw [Zk nd]; exact Zl
  have I3 := I2.write (t' := s.toks + 2) (x := a) (e := s.heap.objs.size) (o := .exc C (some s.heap.objs.size) fr (putF f y [])) (h' := h') (by rw [Zl]; exact True.intro) (.inr e2')
   (fun b q hb z => (hs2.2 b hb).trans z) ⟨oD, hoD⟩ ⟨le, ⟨_, vs, g3, e2, rfl, e4, e5, e6⟩, by rw [Zk nd]; exact e2', nd, _, hn2, fun g => ?_, fun g hg => ?_⟩
  . exact wpAny_pure (h _ _ s.heap.objs.size Zl (fun b o hb q => by rw [Zk hb, Zk hb, Zk (ZX q hn)]; exact q) I3)
  . have := rel g
    have hz : mA g = none := by
     have := r1 g
     cases q : mA g with
     | none => rfl
     | some z => rw [q] at this; exact this.elim
    rw [hz] at this
    exact this
  . refine wi g fun z => hg ?_
    have z : (if g = f then some u else mA g) = none := z
    show (if g = f then some u else none) = none
    by_cases q : g = f
    . rw [if_pos q] at z; cases z
    . rw [if_neg q]
end
section
def Inv.madeX (I : Inv X pins σ H s) : Inv X pins σ (upd H (s.heap.objs.size + 1) (.exc C none true [])) { s with heap := (s.heap.push (Za5 us)).push (ZaK C s.heap.objs.size) } := by
 have I1 : Inv X pins σ H { s with heap := s.heap.push (Za5 us) } := I.kept (t' := s.toks) fun b u e => Heap.get?_push_of_some _ e
 have hget : ((s.heap.push (Za5 us)).push (ZaK C s.heap.objs.size)).get? (s.heap.objs.size + 1) = some (ZaK C s.heap.objs.size) := Heap.get?_push_at (by simp) rfl
 exact I1.laid (a := s.heap.objs.size + 1) (o := .exc C none true []) (t' := s.toks) (h' := (s.heap.push (Za5 us)).push (ZaK C s.heap.objs.size)) (fun b u e => Heap.get?_push_of_some _ e) (by simp) ⟨by simp, ⟨_, _, hget, rfl, rfl, rfl, rfl, fun _ => rfl⟩, rfl⟩
def Zpy (C : Addr) (sp : Sp) (dvs : List V) (t : TA) : TE := fun σ H Q => t σ H fun vs H1 => vs.length <= sizeLine /\ ∀ x, H1 x = none -> sp (.ref x :: (vs ++ dvs)) (upd H1 x (.exc C none true [])) (fun v H2 => v = .non /\ Q (.ref x) H2) E0
theorem Zj3 (M : XC X.K C) (hi : PySem.W.findIn X.K (.ref C) (Str.ofString "__init__") = some (some (.ref f))) (hf : PySem.W.typeIn X.K (.ref f) = some (.type "function")) (F : FnOk X.prog X.w X.K X.mg X.base CX0 k f fd ps sp) (hr : Room (k + 1) X.A)
 (hb : Binds X.K fd ps ds) (hd : Vals dvs ds) (I : Inv X pins σ H s) (r : Vals vs us) (hl : vs.length <= sizeLine) (h : ∀ x, H x = none -> sp (.ref x :: (vs ++ dvs)) (upd H x (.exc C none true [])) (fun v H2 => v = .non /\ Q (.ref x) H2) E0) :
 wpAny (model X.prog X.w) X.A (call (.ref C) us) (EP X pins σ Q) X.xe s := by
 have hq := h (s.heap.objs.size + 1) (I.hok.fresh (Nat.le_succ _))
 have I2 := Inv.madeX (C := C) (us := us) I
 have r2 : Vals (V.ref (s.heap.objs.size + 1) :: (vs ++ dvs)) (Value.ref (s.heap.objs.size + 1) :: (us ++ ds)) := .cons rfl (r.append hd)
 have hl2 : (Value.ref (s.heap.objs.size + 1) :: us ++ ds).length = ps.length := by
  have e := r2.length
  rw [F.len _ _ _ _ hq] at e
  exact e.symm
 refine ZiA (h := s.heap) (g := s.gens) (d := s.drawn) (t := s.toks) (os := s.os) M I.kIn hi hf (by rw [<- r.length]; exact hl) (wpAny_call (codeAny_mono (F.run _ X.stack _ _ ⟨Value.ref (s.heap.objs.size + 1) :: us, []⟩ (Value.ref (s.heap.objs.size + 1) :: (us ++ ds)) _ _ E0 (hr.make C us [])
  (I2.env0.make C us []) (hb _ (Value.ref (s.heap.objs.size + 1) :: us) I2.kIn hl2) r2 hq) fun r s' hq' => ?_))
 cases r with
 | error e => exact False.elim hq'
 | ok fl =>
  cases fl with
  | ret u =>
   obtain ⟨v, H', I3, rv, ev, q3⟩ := I2.after hq'
   subst ev
   exact ⟨rv, ⟨V.ref (s.heap.objs.size + 1), H', I3, rfl, q3⟩⟩
  | next => exact False.elim hq'
  | brk => exact False.elim hq'
  | cont => exact False.elim hq'
def Zly (M : XC X.K C) (hi : PySem.W.findIn X.K (.ref C) (Str.ofString "__init__") = some (some (.ref f))) (hf : PySem.W.typeIn X.K (.ref f) = some (.type "function")) (F : FnOk X.prog X.w X.K X.mg X.base CX0 k f fd ps sp) (hr : Room (k + 1) X.A) (hg : Gl X x) (hm : X.mg x = some (.ref C))
 (hb : Binds X.K fd ps ds) (hd : Vals dvs ds) (ha : PA X (e :: es) t) (hdb : (x == ("__debug__" : Str)) = false := by decide) (he : SE X e es := by rfl) (hpl : SFx X pos es := by rfl) :
 PE X (.Call (.Name x p) (e :: es) [] pos) (Zpy C sp dvs t) := by
 intro pins s σ H Q I h
 refine wpAny_Call_Name_kw (ZbK I hg hm ?_ hdb)
 refine PySem.W.callWith_K (h₀ := X.base) I.ok.mod.kin M.kp (thn (ha pos pins s σ H _ I h) fun us s1 ⟨vs, H1, I1, r, l, q⟩ => ⟨I1.kIn, ?_⟩) he hpl
 exact Zj3 M hi hf F hr hb hd I1 r l q
structure XI (K : Fg) (L : Addr) : Prop where
 sp : PySem.W.specialIn K (.ref L) (Str.ofString "__getattribute__") = some (some (.builtin "type.__getattribute__"))
 rd : PySem.W.readsIn K L (.type "type") = true
 fd : PySem.W.findCls K (.ref L) (.type "type") (Str.ofString "__init__") = some (.val (.builtin "ValueError.__init__"))
def Znq (K : Fg) (t : TA) : TE := fun σ H Q => t σ H fun vs H1 => ∃ a v C dx fr fs, vs = [.ref a, v] /\ XC K C /\ H1 a = some (.exc C dx fr fs) /\ Q .non H1
def Zj4 (M : XI X.K L) (hg : Gl X x) (hm : X.mg x = some (.ref L)) (ha : PA X (e :: es) t) (hdb : (x == ("__debug__" : Str)) = false := by decide)
 (hst : SE X e es := by rfl) (hpl : SFx X pos es := by rfl)
 (ht : eval (.Call (.Attribute (.Name x p) "__init__" apos) (e :: es) [] pos) X.env = (do
  let ov <- eval (.Name x p) X.env
  standAt apos.atName
  let (f, first) <- holding [ov] (getMethod ov "__init__" pl)
  callWith pos f first (backTo pos (starEach (e :: es) X.env)) (backToKw pos (keywordEach [] X.env))) := by rfl) :
 PE X (.Call (.Attribute (.Name x p) "__init__" apos) (e :: es) [] pos) (Znq X.K t) := by
 intro pins s σ H Q I h
 refine PySem.W.methodCall_KW (pl := pl) (ZbK I hg hm ?_ hdb) ht
 refine PySem.W.method_cls I.kIn M.sp (PySem.W.cls_value I.kIn M.rd M.fd (by decide +kernel) ?_)
 refine PyProof.Rows.callWith_builtin1 (thn (ha pos pins _ σ H _ (I.tok _) h) fun us s1 z0 => ?_) hst hpl
 obtain ⟨vs, H1, I1, r1, a, v, C, dx, fr, fs, ev, M1, ea, q⟩ := z0
 subst ev
 obtain ⟨u, rfl⟩ : ∃ u, us = [.ref a, u] := by
  cases r1 with
  | cons r r1 =>
   cases r1 with
   | cons r' r1 =>
    cases r1
    exact ⟨_, by rw [show _ = Value.ref a from r]⟩
 obtain ⟨oe, ws, od, e1, e2, e3, e4, e5, e6, J, _⟩ := ZbL I1 ea
 refine ZhK (h := s1.heap) (g := s1.gens) (d := s1.drawn) (t := s1.toks) (os := s1.os) M1 I1.kIn e1 e2 e4 e5 (show 1 <= sizeLine by decide) ?_
 have I2 : Inv X pins σ H1 { s1 with heap := s1.heap.push (Za5 [u]) } := I1.kept (t' := s1.toks) fun b u e => Heap.get?_push_of_some _ e
 have I3 := I2.excSet (fr' := fr) (f := fun x => x.setIfInBounds 0 (.ref s1.heap.objs.size)) ea (Heap.get?_push_of_some _ e1) e4 (by rw [set6]; exact e5) (fun hf => by rw [Array.getElem?_setIfInBounds]; simpa using e6 hf)
 rw [ZfG ea] at I3
 exact ⟨.non, H1, I3, rfl, q⟩
def Zj5 (hc : X.calm = true) (he : PE X e te) : PX X (.Raise (some e) none pos) fun D σ H => te σ H fun v H1 => ∃ a C dx fs, v = .ref a /\ XC X.K C /\ H1 a = some (.exc C dx true fs) /\ ∀ H'', Same (upd H1 a (.exc C dx false fs)) H'' -> D.xc a σ H'' := by
 intro pins s σ H D I h
 rw [arm_exec_Raise]
 refine wpAny_bind (wpAny_standAt (ZiB (I.ok.hd hc) (wpAny_bind (thnx (he pins s σ H _ I h) fun u s1 ⟨v, H1, I1, r1, a, C, dx, fs, ev, M, ea, q⟩ => wpAny_bind (wpAny_standAt (wpAny_pure ?_))))))
 subst ev
 obtain rfl : u = Value.ref a := r1
 obtain ⟨oe, ws, od, e1, e2, e3, e4, e5, e6, J, mA, r2, r3, r4, r5⟩ := ZbL I1 ea
 have I2 : Inv X pins σ (upd H1 a (.exc C dx false fs)) s1 := by
  have := I1.write (t' := s1.toks) (x := a) (e := a) (o := .exc C dx false fs) (h' := s1.heap) (by rw [ea]; exact True.intro) (.inl rfl) (fun _ _ _ z => z) ⟨_, e1⟩ (by
   obtain ⟨l, ⟨o, vs', q1, q2, q3, q4, q5, q6⟩, r⟩ := (show Z7 X.prog X.w H1 s1.heap a (.exc C dx true fs) from I1.hok a _ ea)
   refine ⟨l, ⟨o, vs', q1, q2, q3, q4, q5, fun z => nomatch z⟩, ?_⟩
   cases dx with
   | none => exact r
   | some d => obtain ⟨t1, t2, t3⟩ := r; exact ⟨by rw [Zk t2]; exact t1, t2, t3⟩)
  exact this
 exact ⟨X.K, C, a, oe, ws, M, I1.kIn, rfl, e1, e2, e4, e6 rfl, .inr ⟨a, σ, _, rfl, I2, .inl ⟨C, dx, fs, oe, ws, Zl, e1, e4, e5, e6 rfl⟩, q⟩⟩
end
section
variable {σ : St} {A : Around} {M : Model} {E : VS} {i : Nat} {x : Str}
def Zch {v : V} {Q : Unit -> Shared -> Prop} (I : Inv X pins σ H s) (hN : X.N.Nodup) (hi : X.N[i]? = some x) (hx : X.env.scope.names.lookup x = some .local)
 (h : ∀ s', Inv X pins (σ.set i none) H s' -> Q () s') : wpAny M A (do bindName X.env x Value.none; unbindBehindTheSuite X.env x pos) Q E s := by
 have hcls : (X.env.scope.kind == .class || (X.env.scope.kind == .module && X.env.locals != X.env.globals)) = false := by rw [I.ok.kind]; rfl
 refine wpAny_bind (wpAny_bindName (Zbp (v := V.non) I hN hi (.inl hx) rfl (fun s1 I1 => ?_) (.inr hx)))
 have hiσ : i < σ.length := by rw [I.len]; exact (List.getElem?_eq_some_iff.mp hi).1
 obtain ⟨m, hn, hl⟩ := id I1.loc
 obtain ⟨u, hu, lk⟩ := hl i x V.non hi (by rw [List.getElem?_set_self hiσ]) (.inl hx)
 have hm : m x = some u := by
  rcases lk with ⟨_, e⟩ | ⟨k, _⟩
  . exact e
  . rcases k with k | k
    . have : some NameKind.local = some NameKind.cell := hx.symm.trans k
      cases this
    . have : some NameKind.local = some NameKind.free := hx.symm.trans k
      cases this
 unfold unbindBehindTheSuite
 refine wpAny_onRaise (wpAny_unbindName_local hx hn hm hcls fun h' u' hn' hs => h _ ?_)
 have tracked : HOk X.prog X.w H h' := fun b ob e => by
  obtain ⟨oL, _, _, hoL, _⟩ := id hn
  refine (I1.hok b ob e).stay (fun c w' hc q => (hs.2 c ?_).trans q) (fun _ q => q) fun _ _ q => q
  rintro rfl
  rcases hc with rfl | hc
  . rw [I1.free] at e; cases e
  . rw [I1.free] at hc; cases hc
 refine ⟨I1.ok, I1.os, I1.bare, ⟨fun b o e n hb hx => ?_, fun b o e n hb hx => ?_, I1.base.free, fun b o e hx => ?_, I1.base.tups, I1.base.frzs, I1.base.tbls⟩, ⟨_, hn', fun j y v' e1 e2 e3 => ?_⟩, fun y c e => ?_, I1.free, I1.freeC, fun p hp => ?_, tracked, by simpa using I.len⟩
 . exact (hs.2 b (Nat.ne_of_lt (Nat.lt_of_lt_of_le (Heap.lt_size e) I1.ok.above))).trans (I1.base.keep b o e n hb hx)
 . obtain ⟨sl, e1⟩ := I1.base.slot b o e n hb hx
   exact ⟨sl, (hs.2 b (Nat.ne_of_lt (Nat.lt_of_lt_of_le (Heap.lt_size e) I1.ok.above))).trans e1⟩
 . obtain ⟨o', e1⟩ := I1.base.there b o e hx
   exact ⟨o', (hs.2 b (Nat.ne_of_lt (Nat.lt_of_lt_of_le (Heap.lt_size e) I1.ok.above))).trans e1⟩
 . by_cases hj : j = i
   . subst hj
     rw [List.getElem?_set_self hiσ] at e2
     cases e2
   . rw [List.getElem?_set_ne (Ne.symm hj)] at e2
     obtain ⟨u', r', q⟩ := hl j y v' e1 (by rw [List.getElem?_set_ne (Ne.symm hj)]; exact e2) e3
     refine ⟨u', r', ?_⟩
     rcases q with ⟨k, e⟩ | ⟨k, c, e, z⟩
     . refine .inl ⟨k, ?_⟩
       have : y ≠ x := fun e => hj (ZdX hN e1 (e ▸ hi))
       simp [this, e]
     . exact .inr ⟨k, c, e, z.sameBut hs (I1.cne y c e)⟩
 . obtain ⟨w', z⟩ := I1.cell y c e
   exact ⟨w', z.sameBut hs (I1.cne y c e)⟩
 . obtain ⟨e, n, ne, nf, d⟩ := I1.pin p hp
   exact ⟨(hs.2 p.1 ne).trans e, n, ne, nf, d⟩
theorem ZhM {K : Fg} {ns : List Str} {c : Str} {C D : Addr} {od : Option Obj} {Q : Bool -> Shared -> Prop} (h : XN K ns C) (h' : XC K D) (g : GX K c D) (hK : K.In s.heap) (J : PySem.W.InstAt s.heap ea oe C od) (hq : Q (decide (c ∈ ns)) s) : wpAny M A (excMatches (.ref ea) (.ref D)) Q E s := by
 obtain ⟨nm, q, N, bs, bm, sn, sub, ab, col, dd, k0, k1, k2, k3, k5, lk, tl, tv⟩ := h'.obj
 have hD := hK _ _ lk
 obtain ⟨cd, h1, h2⟩ := h.nms
 obtain ⟨cd', bm', q1, q2, q3, _⟩ := h.toXC.cls
 rw [h1] at q1
 cases q1
 have hm : PySem.W.mroIn K C (.ref D) = some (decide (c ∈ ns)) := by
  unfold PySem.W.mroIn
  rw [h1]
  show (if cd.mro.isEmpty = true then none else some (cd.mro.contains (.ref D))) = _
  rw [if_neg (by rw [q2]; simp), bmOf.has g h2]
 (obtain ⟨hp, gg, d, tk, os⟩ := s)
 unfold excMatches
 refine wpAny_bind (wpAny_bind (wpAny_bind (wpAny_loadPart_at hD (wpAny_pure (wpAny_of_eq tc_notTuple ?_)))))
 refine wpAny_ite_false rfl (wpAny_bind (wpAny_pure (wpAny_bind ?_)))
 (simp only [List.forIn_cons, List.forIn_nil])
 (refine wpAny_bind (wpAny_bind ?_))
 unfold isExcClass
 refine wpAny_bind (wpAny_bind (wpAny_loadPart_at hD (wpAny_pure (wpAny_ite_true rfl (PySem.W.Looks.at (PySem.W.looks_mroIn hK (h'.sub ZeH)) ?_)))))
 refine wpAny_ite_false rfl (wpAny_pure (wpAny_pure (wpAny_bind (PySem.W.Looks.at J.type (wpAny_bind (wpAny_bind (wpAny_bind (PySem.W.Looks.at (PySem.W.looks_mroIn hK hm) ?_))))))))
 cases e : decide (c ∈ ns) with
 | true => rw [e] at hq; exact wpAny_ite_true rfl (wpAny_pure (wpAny_pure (wpAny_pure hq)))
 | false => rw [e] at hq; exact wpAny_ite_false rfl (wpAny_pure (wpAny_pure (wpAny_pure hq)))
noncomputable abbrev Cx.inH (X : Cx) (v : Value) : Cx := { X with A := X.A.mark (some v), calm := false, xe := fun _ _ => False }
def Inv.inH (I : Inv X pins σ H s) (v : Value) : Inv (X.inH v) pins σ H s := ⟨⟨I.ok.mod, I.ok.kind, I.ok.glob, I.ok.blt, I.ok.above, I.ok.inj, I.ok.has, I.ok.cab, (fun z => Bool.noConfusion z), I.ok.frames, I.ok.stk, I.ok.exf, I.ok.bs, I.ok.bsz, I.ok.noex, I.ok.exfs, I.ok.funs, I.ok.frf⟩, I.os, I.bare, I.base, I.loc, I.cell, I.free, I.freeC, I.pin, I.hok, I.len⟩
def Inv.outH {v : Value} (I : Inv (X.inH v) pins σ H s) (hh : X.calm = true -> X.A.handled = none) : Inv X pins σ H s := ⟨⟨I.ok.mod, I.ok.kind, I.ok.glob, I.ok.blt, I.ok.above, I.ok.inj, I.ok.has, I.ok.cab, hh, I.ok.frames, I.ok.stk, I.ok.exf, I.ok.bs, I.ok.bsz, I.ok.noex, I.ok.exfs, I.ok.funs, I.ok.frf⟩, I.os, I.bare, I.base, I.loc, I.cell, I.free, I.freeC, I.pin, I.hok, I.len⟩
structure HS where
 c : Str
 nm : Option Nat
 ts : TS
noncomputable def HS.ends (h : HS) (D : Ends) : Ends := match h.nm with
 | none => D
 | some i => { nx := fun σ H => D.nx (σ.set i none) H, rt := D.rt, bk := fun σ H => D.bk (σ.set i none) H, ct := fun σ H => D.ct (σ.set i none) H }
noncomputable def HS.put (h : HS) (ea : Addr) (σ : St) : St := match h.nm with
 | none => σ
 | some i => σ.set i (some (.ref ea))
inductive PH (X : Cx) : ExceptHandler -> HS -> Prop
 | plain {c : Str} {D : Addr} {b₀ : Stmt} {body : List Stmt} {pos np : Pos} {ts : TS} (hg : Gl X c) (hm : X.mg c = some (.ref D)) (xc : XC X.K D) (gx : GX X.K c D) (hdb : (c == ("__debug__" : Str)) = false) (hs : ∀ v, PSs (X.inH v) (b₀ :: body) ts) :
  PH X (.ExceptHandler (some (.Name c np)) none (b₀ :: body) pos) ⟨c, none, ts⟩
 | as_ {c n : Str} {D : Addr} {i : Nat} {b₀ : Stmt} {body : List Stmt} {pos np : Pos} {ts : TS} (hg : Gl X c) (hm : X.mg c = some (.ref D)) (xc : XC X.K D) (gx : GX X.K c D) (hdb : (c == ("__debug__" : Str)) = false) (hN : X.N.Nodup) (hi : X.N[i]? = some n) (hl : X.env.scope.names.lookup n = some .local) (hs : ∀ v, PSs (X.inH v) (b₀ :: body) ts) :
  PH X (.ExceptHandler (some (.Name c np)) (some n) (b₀ :: body) pos) ⟨c, some i, ts⟩
inductive PHs (X : Cx) : List ExceptHandler -> List HS -> Prop
 | nil : PHs X [] []
 | cons {h : ExceptHandler} {hs : List ExceptHandler} {g : HS} {gs : List HS} : PH X h g -> PHs X hs gs -> PHs X (h :: hs) (g :: gs)
def Zci (ns : List Str) (D : Ends) (ea : Addr) (σ : St) (H : Hp) : List HS -> Prop
 | [] => False
 | h :: hs => if h.c ∈ ns then h.ts (h.ends D) (h.put ea σ) H else Zci ns D ea σ H hs
theorem SP.inH {v : Value} {D : Ends} {f : Flow} {s' : Shared} (hh : X.calm = true -> X.A.handled = none) (h : SP (X.inH v) pins D f s') : SP X pins D f s' := by
 cases f with
 | next => obtain ⟨σ', H', I, q⟩ := h; exact ⟨σ', H', I.outH hh, q⟩
 | brk => obtain ⟨σ', H', I, q⟩ := h; exact ⟨σ', H', I.outH hh, q⟩
 | cont => obtain ⟨σ', H', I, q⟩ := h; exact ⟨σ', H', I.outH hh, q⟩
 | ret u => obtain ⟨v, σ', H', I, r, q⟩ := h; exact ⟨v, σ', H', I.outH hh, r, q⟩
def Zfi {ns : List Str} {C : Addr} {dx : Option Addr} {fs : List (Str × V)} {c : Str} {R : Result -> Shared -> Prop} (XNh : XN X.K ns C) (I : Inv X pins σ H s) (e : H ea = some (.exc C dx false fs)) (hg : Gl X c) (hm : X.mg c = some (.ref D')) (xc : XC X.K D') (gx : GX X.K c D') (hdb : (c == ("__debug__" : Str)) = false)
 (hR : R (.ok (if decide (c ∈ ns) = true then Flow.brk else Flow.next)) s) : codeAny (model X.prog X.w) (X.A.mark (some (.ref ea))) (.handlers (.ref ea) [.ExceptHandler (some (.Name c np)) none [] pos] X.env) R s := by
 obtain ⟨oe, vs, od, e1, e2, e3, e4, e5, e6, J, _⟩ := ZbL I e
 exact codeAny_handlers_test (Calls.Name_function_global I.ok.kind hg (Calls.loadGlobal_global (by rw [I.ok.glob]; exact I.mod.glob.keeps I.bk) hm (ZhM XNh xc gx I.kIn J hR)) hdb)
def ZcV {a : Addr} : Value.ref a ≠ byPass := fun z => by cases z
def ZhN {ns : List Str} {C : Addr} {dx : Option Addr} {fs : List (Str × V)} {D : Ends} {c : Str} {ts : TS} {rest : List ExceptHandler} (XNh : XN X.K ns C) (I : Inv X pins σ H s) (e : H ea = some (.exc C dx false fs)) (f : FlyT (fun fl => fl = Value.none) H s.heap ea)
 (hg : Gl X c) (hm : X.mg c = some (.ref D')) (xc : XC X.K D') (gx : GX X.K c D') (hdb : (c == ("__debug__" : Str)) = false) (hs : ∀ v, PSs (X.inH v) (b₀ :: body) ts) (h1 : c ∈ ns -> ts D σ H) (h2 : c ∉ ns -> wpAny (model X.prog X.w) X.A (handleBy (.ref ea) X.env rest) (SP X pins D) E s) :
 wpAny (model X.prog X.w) X.A (handleBy (.ref ea) X.env (.ExceptHandler (some (.Name c np)) none (b₀ :: body) pos :: rest)) (SP X pins D) E s := by
 refine wpAny_handleBy_cons (Zfi XNh I e hg hm xc gx hdb ?_) ZcV
 by_cases z : c ∈ ns
 . rw [decide_eq_true z, if_pos rfl]
   refine codeAny_handlers_suite (thn (Zb5 (o := none) I f) fun _ s1 z0 => ?_)
   obtain ⟨I1, f1⟩ := z0
   exact wpAny_mono (hs (.ref ea) pins s1 σ H D (I1.inH _) (h1 z)) (fun fl s2 q => q.inH I.ok.hd) fun _ _ z => z.elim
 . rw [decide_eq_false z, if_neg Bool.false_ne_true]
   exact h2 z
def Zlz {ns : List Str} {C : Addr} {dx : Option Addr} {fs : List (Str × V)} {D : Ends} {c n : Str} {ts : TS} {rest : List ExceptHandler} (XNh : XN X.K ns C) (I : Inv X pins σ H s) (e : H ea = some (.exc C dx false fs)) (f : FlyT (fun fl => fl = Value.none) H s.heap ea)
 (hg : Gl X c) (hm : X.mg c = some (.ref D')) (xc : XC X.K D') (gx : GX X.K c D') (hdb : (c == ("__debug__" : Str)) = false) (hN : X.N.Nodup) (hi : X.N[i]? = some n) (hl : X.env.scope.names.lookup n = some .local) (hs : ∀ v, PSs (X.inH v) (b₀ :: body) ts)
 (h1 : c ∈ ns -> ts { nx := fun σ H => D.nx (σ.set i none) H, rt := D.rt, bk := fun σ H => D.bk (σ.set i none) H, ct := fun σ H => D.ct (σ.set i none) H } (σ.set i (some (.ref ea))) H) (h2 : c ∉ ns -> wpAny (model X.prog X.w) X.A (handleBy (.ref ea) X.env rest) (SP X pins D) E s) :
 wpAny (model X.prog X.w) X.A (handleBy (.ref ea) X.env (.ExceptHandler (some (.Name c np)) (some n) (b₀ :: body) pos :: rest)) (SP X pins D) E s := by
 refine wpAny_handleBy_cons (Zfi XNh I e hg hm xc gx hdb ?_) ZcV
 by_cases z : c ∈ ns
 . rw [decide_eq_true z, if_pos rfl]
   refine codeAny_handlers_suite_as (thn (Zb5 (o := none) I f) fun _ s1 z0 => ?_)
   obtain ⟨I1, f1⟩ := z0
   refine Zbp (v := .ref ea) I1 hN hi (.inl hl) rfl (fun s2 I2 => ?_) (.inr hl)
   refine wpAny_mono (hs (.ref ea) pins s2 _ H _ (I2.inH _) (h1 z)) (fun fl s3 q => ?_) fun _ _ z => z.elim
   cases fl with
   | next => obtain ⟨σ', H', I3, q⟩ := q; exact Zch (v := .non) (I3.outH I.ok.hd) hN hi hl fun s4 I4 => ⟨_, _, I4, q⟩
   | brk => obtain ⟨σ', H', I3, q⟩ := q; exact Zch (v := .non) (I3.outH I.ok.hd) hN hi hl fun s4 I4 => ⟨_, _, I4, q⟩
   | cont => obtain ⟨σ', H', I3, q⟩ := q; exact Zch (v := .non) (I3.outH I.ok.hd) hN hi hl fun s4 I4 => ⟨_, _, I4, q⟩
   | ret u => obtain ⟨v, σ', H', I3, r, q⟩ := q; exact Zch (v := .non) (I3.outH I.ok.hd) hN hi hl fun s4 I4 => ⟨v, _, _, I4, r, q⟩
 . rw [decide_eq_false z, if_neg Bool.false_ne_true]
   exact h2 z
theorem Zl0 {ns : List Str} {C : Addr} {dx : Option Addr} {fs : List (Str × V)} {D : Ends} (XNh : XN X.K ns C) (hh : PHs X hs gs) (I : Inv X pins σ H s) (e : H ea = some (.exc C dx false fs)) (f : FlyT (fun fl => fl = Value.none) H s.heap ea) (h : Zci ns D ea σ H gs) :
 wpAny (model X.prog X.w) X.A (handleBy (.ref ea) X.env hs) (SP X pins D) E s := by
 induction hh with
 | nil => exact h.elim
 | cons p ps ih =>
  cases p with
  | plain hg hm xc gx hdb hs' =>
   refine ZhN XNh I e f hg hm xc gx hdb hs' (fun z => ?_) fun z => ih ?_
   . unfold Zci at h; rw [if_pos z] at h; exact h
   . unfold Zci at h; rw [if_neg z] at h; exact h
  | as_ hg hm xc gx hdb hN hi hl hs' =>
   refine Zlz XNh I e f hg hm xc gx hdb hN hi hl hs' (fun z => ?_) fun z => ih ?_
   . unfold Zci at h; rw [if_pos z] at h; exact h
   . unfold Zci at h; rw [if_neg z] at h; exact h
def tTry (K : Fg) (tb : TX) (gs : List HS) : TX := fun D σ H => tb { D with xc := fun ea σ' H' => ∃ C dx fs ns, XN K ns C /\ H' ea = some (.exc C dx false fs) /\ Zci ns D.toEnds ea σ' H' gs } σ H
def Znr {h₀ : ExceptHandler} {tb : TX} (F : Fr0 X X.A) (hx : ∀ e s, ¬ X.xe e s) (hb : PXs X body tb) (hh : PHs X (h₀ :: hs) gs) : PX X (.Try body (h₀ :: hs) [] [] pos) (tTry X.K tb gs) := by
 intro pins s σ H D I h
 refine wpAny_Try_except (wpAny_mono (hb pins s σ H _ I h) (fun fl s1 q => ?_) fun e s1 q => ?_)
 . cases fl with
   | next => exact wpAny_execs_nil q
   | ret v => exact q
   | brk => exact q
   | cont => exact q
 . rcases q with q | ⟨ea, σ', H', rfl, I1, f1, q⟩
   . exact absurd q (hx _ _)
   . refine thn (ZeG F I1 f1) fun _ s2 ⟨H2, I2, k2, f2⟩ => thn (Zb5 (o := none) I2 f2) fun _ s3 ⟨I3, f3⟩ => ?_
     obtain ⟨C, dx, fs, ns, xn, e, th⟩ := q H2 k2
     exact Zl0 xn hh I3 e f3 th
end
section
noncomputable def Zns (C : Addr) (m : Str) (sp : Sp) (dvs : List V) (ta : TE) (t : TA) : TEX := fun σ H Q Ex => ta σ H fun x H1 => ∃ a dx fs, x = .ref a /\ H1 a = some (.ins C dx fs) /\ fs.lookup m = none /\
 t σ H1 fun vs H2 => sp (x :: (vs ++ dvs)) H2 Q (fun v _ H' => ∃ ea, v = .ref ea /\ Ex ea H')
def Zj6 (he : PE X o ta) (c : Cls X.K C) (hm : Meth X.K C m f) (F : FnOk X.prog X.w X.K X.mg X.base (CXx X.prog X.w) k f fd ps sp) (hr : Room k X.A) (hb : Binds X.K fd ps ds) (hd : Vals dvs ds) (ha : PA X (e :: es) t)
 (hst : SE X e es := by rfl) (hpl : SFx X pos es := by rfl)
 (ht : eval (.Call (.Attribute o m apos) (e :: es) [] pos) X.env = (do
  let ov <- eval o X.env
  standAt apos.atName
  let (f, first) <- holding [ov] (getMethod ov m pl)
  callWith pos f first (backTo pos (starEach (e :: es) X.env)) (backToKw pos (keywordEach [] X.env))) := by rfl) :
 PEx X (.Call (.Attribute o m apos) (e :: es) [] pos) (Zns C m sp dvs ta t) := by
 intro pins s σ H Q Ex I h
 refine PySem.W.methodCall_KW (pl := pl) (thne (he pins s σ H _ I h) fun u s1 z0 => ?_) ht
 obtain ⟨x, H1, I1, rx, a, dx, fs, ex, ea, l, q⟩ := z0
 subst ex
 obtain rfl : u = Value.ref a := rx
 refine Zed I1 ea c hm l ?_
 refine PySem.W.callWith_K (first := [.ref a]) (h₀ := X.base) I.ok.mod.kin hm.kp (thne (ha pos pins s1 σ H1 _ I1 q) fun us s2 ⟨vs, H2, I2, r, q2⟩ => ⟨I2.kIn, ?_⟩) hst hpl
 exact Zhg (us := .ref a :: us) (vs := .ref a :: vs) F hr hb hd I2 (.cons rfl r) q2
end
noncomputable def cxC (X : Cx) (N' : List Str) (scope : Scope) (cl : List (Str × Addr)) (C : Addr) (s₀ : Shared) (H₀ : Hp) (ex : List Addr) : Cx where
 prog := X.prog
 w := X.w
 K := X.K
 mg := X.mg
 base := X.base
 A := X.A
 N := N'
 s₀ := s₀
 H₀ := H₀
 env := compEnvC scope cl C X.env
 outer := X.stack
 stack := X.stack
 ex := ex
 fn := fun _ => false
 calm := X.calm
 pn := []
 xe := fun _ _ => False
def Zeh (h : ∀ y ∈ scope.names, y.2 = .free -> ∃ c, env.cells.lookup y.1 = some c) :
 ∃ cl, closureFor scope env = pure cl /\ (∀ y c, cl.lookup y = some c -> env.cells.lookup y = some c) /\ ∀ y ∈ scope.names, y.2 = .free -> ∃ c, cl.lookup y.1 = some c := by
 have go : ∀ (names : List (Str × NameKind)) (acc : List (Str × Addr)), (∀ y ∈ names, y.2 = .free -> ∃ c, env.cells.lookup y.1 = some c) -> (∀ y c, acc.lookup y = some c -> env.cells.lookup y = some c) ->
  ∃ cl, (forIn names acc fun x r => if (x.2 == NameKind.free) = true then do let c <- cellOf env x.1; pure (ForInStep.yield ((x.1, c) :: r)) else pure (ForInStep.yield r) : Sem _) = pure cl /\
   (∀ y c, cl.lookup y = some c -> env.cells.lookup y = some c) /\ (∀ y c, acc.lookup y = some c -> ∃ c, cl.lookup y = some c) /\ ∀ y ∈ names, y.2 = .free -> ∃ c, cl.lookup y.1 = some c := by
  intro names
  induction names with
  | nil => intro acc _ h2; exact ⟨acc, rfl, h2, fun y c e => ⟨c, e⟩, fun y hy => nomatch hy⟩
  | cons z r ih =>
   intro acc h1 h2
   obtain ⟨n, k⟩ := z
   rw [List.forIn_cons]
   by_cases hk : k = .free
   . subst hk
     obtain ⟨c, hc⟩ := h1 (n, .free) List.mem_cons_self rfl
     obtain ⟨cl, e, a1, a2, a3⟩ := ih ((n, c) :: acc) (fun y hy => h1 y (List.mem_cons_of_mem _ hy)) (fun y d hd => by
      rw [List.lookup_cons] at hd
      cases hb : y == n with
      | true => rw [hb] at hd; simp only at hd; cases hd; rw [eq_of_beq hb]; exact hc
      | false => rw [hb] at hd; exact h2 y d hd)
     refine ⟨cl, ?_, a1, fun y d hd => ?_, fun y hy hf => ?_⟩
     . rw [<- e]
       have e1 : cellOf env n = pure c := by
        unfold cellOf
        rw [hc]
       simp only [beq_self_eq_true, if_true, e1, pure_bind]
     . by_cases hyn : y = n
       . exact a2 y c (by rw [hyn, List.lookup_cons, beq_self_eq_true])
       . exact a2 y d (by rw [List.lookup_cons, show (y == n) = false by simpa using hyn]; exact hd)
     . (rcases List.mem_cons.mp hy with rfl | hy)
       . exact a2 n c (by rw [List.lookup_cons, beq_self_eq_true])
       . exact a3 y hy hf
   . have hb : (k == NameKind.free) = false := by simpa using hk
     obtain ⟨cl, e, a1, a2, a3⟩ := ih acc (fun y hy => h1 y (List.mem_cons_of_mem _ hy)) h2
     refine ⟨cl, ?_, a1, a2, fun y hy hf => ?_⟩
     . rw [<- e]
       simp only [hb, Bool.false_eq_true, if_false, pure_bind]
     . (rcases List.mem_cons.mp hy with rfl | hy)
       . exact absurd hf hk
       . exact a3 y hy hf
 obtain ⟨cl, e, a1, _, a3⟩ := go scope.names [] h (fun y c e => nomatch e)
 refine ⟨cl, ?_, a1, a3⟩
 unfold closureFor
 simp only [] at e ⊢
 rw [e]
 rfl
theorem Zdd {env : Env} : ∀ {names : List (Str × NameKind)} {x : Str}, names.lookup x = some .free ->
 (names.map fun (n, k) => if (k == NameKind.free && env.scope.kind == .function && env.kindOf n == some .cell) then (n, NameKind.cell) else (n, k)).lookup x = some .cell \/
 (names.map fun (n, k) => if (k == NameKind.free && env.scope.kind == .function && env.kindOf n == some .cell) then (n, NameKind.cell) else (n, k)).lookup x = some .free
 | [], _, h => by simp at h
 | (n, k) :: r, x, h => by
  have ih := @Zdd env r x
  show List.lookup x ((if (k == NameKind.free && env.scope.kind == .function && env.kindOf n == some .cell) = true then (n, NameKind.cell) else (n, k)) :: _) = _ \/ List.lookup x ((if (k == NameKind.free && env.scope.kind == .function && env.kindOf n == some .cell) = true then (n, NameKind.cell) else (n, k)) :: _) = _
  cases hx : x == n with
  | true =>
   (simp only [List.lookup_cons, hx] at h)
   cases h
   by_cases hc : (NameKind.free == NameKind.free && env.scope.kind == .function && env.kindOf n == some .cell) = true
   . rw [if_pos hc]; left; simp only [List.lookup_cons, hx]
   . rw [if_neg hc]; right; simp only [List.lookup_cons, hx]
  | false =>
   (simp only [List.lookup_cons, hx] at h)
   (by_cases hc : (k == NameKind.free && env.scope.kind == .function && env.kindOf n == some .cell) = true)
   . (rw [if_pos hc]; simp only [List.lookup_cons, hx]; exact ih h)
   . (rw [if_neg hc]; simp only [List.lookup_cons, hx]; exact ih h)
noncomputable def ZfI (osc : Scope) (oN : List Str) (k : Nat) (js : List Nat) (N' : List Str) (scope : Scope) : Bool :=
 scope.kind == .function && scope.names.all (fun y => y.2 != .cell) && scope.names.all (fun y => y.2 != .local || scope.names.lookup y.1 == some .local) &&
 scope.names.all (fun y => y.2 != .free || osc.names.lookup y.1 == some .cell || osc.names.lookup y.1 == some .free) &&
 N'.length == k + js.length && decide N'.Nodup &&
 (List.range js.length).all fun i => match js[i]? with
  | none => false
  | some j => match oN[j]? with
   | none => false
   | some y => N'[k + i]? == some y && scope.names.lookup y == some .free
structure CompScope (X : Cx) (k : Nat) (js : List Nat) (N' : List Str) (scope : Scope) : Prop where
 kind : scope.kind = .function
 nocell : ∀ y ∈ scope.names, y.2 ≠ .cell
 names : ∀ y ∈ scope.names, y.2 = .local -> scope.names.lookup y.1 = some .local
 free : ∀ y ∈ scope.names, y.2 = .free -> X.env.kindOf y.1 = some .cell \/ X.env.kindOf y.1 = some .free
 len : N'.length = k + js.length
 nd : N'.Nodup
 idx : ∀ i j : Nat, js[i]? = some j -> ∃ y, X.N[j]? = some y /\ N'[k + i]? = some y /\ scope.names.lookup y = some .free
def CompScope.of (h : ZfI osc oN k js N' scope = true) (e : X.env.scope = osc) (eN : X.N = oN) : CompScope X k js N' scope := by
 subst e eN
 unfold ZfI at h
 (simp only [Bool.and_eq_true] at h)
 obtain ⟨⟨⟨⟨⟨⟨h1, h2⟩, h3⟩, h4⟩, h5⟩, h6⟩, h7⟩ := h
 refine ⟨eq_of_beq h1, fun y hy => by simpa using List.all_eq_true.mp h2 y hy, fun y hy hl => ?_, fun y hy hf => ?_, eq_of_beq h5, of_decide_eq_true h6, fun i j hj => ?_⟩
 . have q := List.all_eq_true.mp h3 y hy
   rw [hl] at q
   simpa using q
 . have q := List.all_eq_true.mp h4 y hy
   rw [hf] at q
   simp at q
   exact q
 . have hi : i < js.length := (List.getElem?_eq_some_iff.mp hj).1
   have q := List.all_eq_true.mp h7 i (List.mem_range.mpr hi)
   rw [hj] at q
   simp only at q
   cases hN : X.N[j]? with
   | none => rw [hN] at q; cases q
   | some y =>
    rw [hN] at q
    simp only [Bool.and_eq_true] at q
    exact ⟨y, rfl, eq_of_beq q.1, eq_of_beq q.2⟩
noncomputable def Zba (js : List Nat) (σ : St) : St := js.map fun j => (σ[j]?).join
noncomputable def ZaL (k : Nat) (js : List Nat) (σ : St) : St := List.replicate k none ++ Zba js σ
section
def Zj7
 (I : Inv X pins σ H s) (S : CompScope X k js N' scope) (hf : ∀ b ∈ fp, FpOk X pins H b) (hfo : ∀ b ∈ fp, b < s.heap.objs.size)
 (c1 : ∀ y c, cl.lookup y = some c -> X.env.cells.lookup y = some c) (c2 : ∀ y ∈ scope.names, y.2 = .free -> ∃ c, cl.lookup y.1 = some c)
 (ns : ∃ m, h1.Ns (s.heap.objs.size + 1) m) (kp : ∀ b o, s.heap.get? b = some o -> h1.get? b = some o) (hD : h1.get? s.heap.objs.size = some { cls := .type "list", data := .seq #[] }) :
 Inv (cxC X N' scope cl (s.heap.objs.size + 1) s H fp) [] (ZaL k js σ) (upd H s.heap.objs.size (.lst [])) { s with heap := h1, toks := tk } := by
 have hfr : H s.heap.objs.size = none := I.hok.fresh (Nat.le_refl _)
 have hfr1 : H (s.heap.objs.size + 1) = none := I.hok.fresh (Nat.le_succ _)
 have cells : ∀ y c, cl.lookup y = some c -> c < s.heap.objs.size := fun y c e => by
  obtain ⟨v, q⟩ := I.cell y c (c1 y c e)
  exact q.lt
 have exb : ∀ b ∈ fp, ∀ o, X.base.get? b = some o -> False := fun b hb o e => by
  rcases (hf b hb).2.2.2.1 with z | z
  . exact I.ok.noex b o e z
  . exact absurd (Nat.lt_of_lt_of_le (Heap.lt_size (I.ok.bs b o e).1) z) (Nat.lt_irrefl _)
 have exs : ∀ b ∈ fp, b ∉ frs X.stack := fun b hb z => by
  rcases List.mem_cons.mp (I.stkSub b z) with q | q
  . exact (hf b hb).2.1 q
  . exact (hf b hb).2.2.1 q
 obtain ⟨m1, hn1⟩ := ns
 have upk : ∀ y, scope.names.lookup y = some .free -> ((cxC X N' scope cl (s.heap.objs.size + 1) s H fp).env.kindOf y = some .cell \/ (cxC X N' scope cl (s.heap.objs.size + 1) s H fp).env.kindOf y = some .free) := fun y hy => Zdd hy
 have memf : ∀ y, scope.names.lookup y = some .free -> ∃ c, cl.lookup y = some c := fun y hy => c2 (y, .free) (PySem.mem_of_lookup hy) rfl
 have back : ∀ y, ((cxC X N' scope cl (s.heap.objs.size + 1) s H fp).env.kindOf y = some .cell \/ (cxC X N' scope cl (s.heap.objs.size + 1) s H fp).env.kindOf y = some .free) -> scope.names.lookup y = some .free := by
  intro y hy
  have key : ∀ names : List (Str × NameKind), (∀ z ∈ names, z.2 ≠ .cell) ->
   ((names.map fun (n, k) => if (k == NameKind.free && X.env.scope.kind == .function && X.env.kindOf n == some .cell) then (n, NameKind.cell) else (n, k)).lookup y = some .cell \/
   (names.map fun (n, k) => if (k == NameKind.free && X.env.scope.kind == .function && X.env.kindOf n == some .cell) then (n, NameKind.cell) else (n, k)).lookup y = some .free) -> names.lookup y = some .free := by
   intro names
   induction names with
   | nil => intro _ h; simp at h
   | cons z r ih =>
    intro hz h
    obtain ⟨n, kd⟩ := z
    have ih' := ih fun z hz' => hz z (List.mem_cons_of_mem _ hz')
    have hkd : kd ≠ .cell := hz (n, kd) List.mem_cons_self
    have h' : List.lookup y ((if (kd == NameKind.free && X.env.scope.kind == .function && X.env.kindOf n == some .cell) = true then (n, NameKind.cell) else (n, kd)) :: r.map _) = _ \/
     List.lookup y ((if (kd == NameKind.free && X.env.scope.kind == .function && X.env.kindOf n == some .cell) = true then (n, NameKind.cell) else (n, kd)) :: r.map _) = _ := h
    rw [List.lookup_cons]
    cases hx : y == n with
    | true =>
     by_cases hc : (kd == NameKind.free && X.env.scope.kind == .function && X.env.kindOf n == some .cell) = true
     . have : (kd == NameKind.free) = true := by
        (simp only [Bool.and_eq_true] at hc)
        exact hc.1.1
       rw [eq_of_beq this]
     . rw [if_neg hc] at h'
       simp only [List.lookup_cons, hx] at h'
       rcases h' with q | q
       . exact absurd (Option.some.inj q) hkd
       . exact q
    | false =>
     simp only
     by_cases hc : (kd == NameKind.free && X.env.scope.kind == .function && X.env.kindOf n == some .cell) = true
     . rw [if_pos hc] at h'
       simp only [List.lookup_cons, hx] at h'
       exact ih' h'
     . rw [if_neg hc] at h'
       simp only [List.lookup_cons, hx] at h'
       exact ih' h'
  exact key scope.names S.nocell hy
 refine ⟨⟨I.mod, S.kind, I.ok.glob, I.ok.blt, Nat.le_succ _, fun x y c e1 e2 => I.ok.inj x y c (c1 x c e1) (c1 y c e2), fun y hy => memf y (back y hy), fun x c hx => (nomatch hx), I.ok.hd, I.ok.frames, .inl rfl,
  fun b hb => ⟨Nat.ne_of_lt (Nat.lt_succ_of_lt (hfo b hb)), fun x c e => (hf b hb).2.2.2.2.1 x c (c1 x c e)⟩, I.bs, Nat.le_trans I.ok.bsz I.sz, fun b o e hb => exb b hb o e, exs, I.stack, I.stkFree⟩,
  rfl, I.bare, Un.laid kp (Nat.le_refl _) hfr, ⟨m1, hn1, fun i x v e1 e2 e3 => ?_⟩, fun x c e => ?_, ?_, fun x c e => ?_, fun p hp => (nomatch hp), I.hok.laid kp (Nat.le_refl _) ⟨by simp, [], 0, .nil, hD⟩, ?_⟩
 . -- a name's value within the block
   have hi : ¬ i < k := fun hi => by
    unfold ZaL at e2
    rw [List.getElem?_append_left (by simpa using hi), List.getElem?_replicate, if_pos hi] at e2
    cases e2
   have hik : k <= i := Nat.le_of_not_lt hi
   have e2' : (Zba js σ)[i - k]? = some (some v) := by
    unfold ZaL at e2
    rw [List.getElem?_append_right (by simpa using hik), List.length_replicate] at e2
    exact e2
   unfold Zba at e2'
   rw [List.getElem?_map] at e2'
   cases hj : js[i - k]? with
   | none => rw [hj] at e2'; cases e2'
   | some j =>
    rw [hj] at e2'
    have e4 : (σ[j]?).join = some v := Option.some.inj e2'
    obtain ⟨y, n1, n2, n3⟩ := S.idx (i - k) j hj
    rw [Nat.add_sub_cancel' hik] at n2
    have e1' : N'[i]? = some x := e1
    rw [e1'] at n2
    obtain rfl : x = y := Option.some.inj n2
    have e5 : σ[j]? = some (some v) := by
     cases q : σ[j]? with
     | none => rw [q] at e4; cases e4
     | some o => rw [q] at e4; exact congrArg some e4
    obtain ⟨m, hn, hl⟩ := I.loc
    have hk := S.free (x, .free) (PySem.mem_of_lookup n3) rfl
    have hv : Vis X.env.scope x := .inr hk
    obtain ⟨u, r, l⟩ := hl j x v n1 e5 hv
    refine ⟨u, r, .inr ⟨upk x n3, ?_⟩⟩
    rcases l with ⟨q, _⟩ | ⟨_, c, hc, hcell⟩
    . rcases hk with z | z <;> (rw [show X.env.kindOf x = some NameKind.local from q] at z; cases z)
    . obtain ⟨c', hc'⟩ := memf x n3
      have : c' = c := Option.some.inj ((c1 x c' hc').symm.trans hc)
      subst this
      obtain ⟨o, ho, hd⟩ := hcell
      exact ⟨c', hc', o, kp _ _ ho, hd⟩
 . obtain ⟨v, o, ho, hd⟩ := I.cell x c (c1 x c e)
   exact ⟨v, o, kp _ _ ho, hd⟩
 . show upd H s.heap.objs.size (.lst []) (s.heap.objs.size + 1) = none
   rw [Zk (Nat.succ_ne_self _)]
   exact hfr1
 . show upd H s.heap.objs.size (.lst []) c = none
   rw [Zk (Nat.ne_of_lt (cells x c e))]
   exact I.freeC x c (c1 x c e)
 . show (ZaL k js σ).length = N'.length
   unfold ZaL Zba
   rw [List.length_append, List.length_replicate, List.length_map, S.len]
def PIf (X : Cx) (ifs : List Expr) (t : TT) : Prop :=
 ∀ (pins : Pn) (s : Shared) (σ : St) (H : Hp) (Q : Bool -> Hp -> Prop), Inv X pins σ H s -> t σ H Q ->
  wpAny (model X.prog X.w) X.A (forIn ifs true fun c r => if r = true then do let ok <- isTrue c X.env (eval c X.env); pure (ForInStep.yield ok) else pure (ForInStep.yield r)) (TP X pins σ Q) X.xe s
def tIf0 : TT := fun _ H Q => Q true H
def Zl1 : PIf X [] tIf0 := fun _ _ _ H _ I h => wpAny_tests_nil ⟨H, I, h⟩
def ZhO (J : It) (g : TG) (tif : TT) (te : TE) (D : Addr) (Q : VK) (W : Nat -> Nat -> St -> List V -> Hp -> Prop) : Prop :=
 ∀ i m σ ys H, W i m σ ys H -> H D = some (.lst ys) -> (J.stop i H /\ Q (.ref D) H) \/ (J.go i H /\ ∀ x H', J.yld i H x H' -> g x σ H' fun σ2 H2 => tif σ2 H2 fun b H3 =>
  if b = true then te σ2 H3 fun y H4 => H4 D = some (.lst ys) /\ ys.length < sizeLine /\ ∃ m', m' < m /\ W (i + 1) m' σ2 (ys ++ [y]) (upd H4 D (.lst (ys ++ [y])))
  else H3 D = some (.lst ys) /\ ∃ m', m' < m /\ W (i + 1) m' σ2 ys H3)
def ZiE
 (hx : ∀ e s', X.xe e s' -> False) (hc : X.calm = true) (T : Turn X.prog X.w X.K tg J fp it tn) (hg : PG X tg g) (hif : PIf X ifs tif) (he : PE X elt te)
 (stat : ∀ {H' : Hp}, (∀ b ∈ fp, H' b = none) -> ∀ b ∈ fp, FpOk X [] H' b)
 (turn : ZhO J g tif te D Q W)
 (hR : ∀ σ' H' s', Inv X [] σ' H' s' -> Q (.ref D) H' -> R (.ok .next) s')
 (I : Inv X [] σ H s) (st : tn 0 s.heap) (fr : ∀ b ∈ fp, H b = none) (hD : H D = some (.lst [])) (w0 : W 0 m σ [] H) :
 codeAny (model X.prog X.w) X.A (.compLoop (.ListComp elt [⟨tg, iter, ifs, 0⟩] scope pos) 0 (.ref it) (.ref D) X.env) R s := by
 refine codeAny_loop rfl (fun n s' => ∃ i ys σ' H', Inv X [] σ' H' s' /\ tn i s'.heap /\ (∀ b ∈ fp, H' b = none) /\ H' D = some (.lst ys) /\ W i n σ' ys H') (fun n s3 hI => ?_) m ⟨0, [], σ, H, I, st, fr, hD, w0⟩
 obtain ⟨i, ys, σ3, H3, I3, st3, fr3, d3, w3⟩ := hI
 show wpAny _ X.A ((compTurn (.ListComp elt [⟨tg, iter, ifs, 0⟩] scope pos) 0 (.ref it) (.ref D) X.env).onRaise (fun x => do noteFrame x X.env; theTreesLotGoes x)) _ _ s3
 refine wpAny_noted ?_
 rw [compTurn_list]
 (refine wpAny_bind (wpAny_standAt (wpAny_bind ?_)))
 have sub : ∀ {α : Type} {t : Sem α} {P : α -> Shared -> Prop} {E' : VS} {s : Shared}, wpAny (model X.prog X.w) X.A t P X.xe s -> wpAny (model X.prog X.w) X.A t P E' s := fun h => wpAny_mono h (fun _ _ q => q) fun e s' q => (hx e s' q).elim
 rcases turn i n σ3 ys H3 w3 d3 with ⟨stop, q⟩ | ⟨go, step⟩
 . refine sub (thn (T.done X rfl rfl rfl hc i [] s3 σ3 H3 X.xe I3 (stat fr3) st3 stop) fun r s4 z0 => ?_)
   obtain ⟨hr, I4⟩ := z0
   subst hr
   exact wpAny_pure (hR σ3 H3 s4 I4 q)
 . refine sub (thn (T.item X rfl rfl rfl hc i [] s3 σ3 H3 X.xe I3 (stat fr3) st3 go) fun r s4 z0 => ?_)
   obtain ⟨u, hr, h4⟩ := z0
   subst hr
   refine wpAny_bind (sub (thn h4 fun _ s5 z0 => ?_))
   obtain ⟨x, H5, I5, r5, y5, st5, fr5⟩ := z0
   have I5' := I5.pinned (stat fr5) (T.obj _ _ st5)
   refine wpAny_bind (sub (thn (hg _ s5 σ3 H5 x u _ I5' r5 (step x H5 y5)) fun _ s6 z0 => ?_))
   obtain ⟨σ6, H6, I6, q6⟩ := z0
   have again : ∀ {s7 : Shared} {H7 : Hp} {ys7 : List V}, Inv X ([] ++ Zcy fp s5.heap) σ6 H7 s7 -> H7 D = some (.lst ys7) -> (∃ m', m' < n /\ W (i + 1) m' σ6 ys7 H7) ->
    ∃ m, m < n /\ ∃ i ys σ' H', Inv X [] σ' H' s7 /\ tn i s7.heap /\ (∀ b ∈ fp, H' b = none) /\ H' D = some (.lst ys) /\ W i m σ' ys H' := fun {s7 H7 ys7} I7 d7 w7 => by
    obtain ⟨m', hm, w7⟩ := w7
    refine ⟨m', hm, i + 1, ys7, σ6, H7, I7.unpinned, T.keep _ _ _ st5 fun b hb o e => (I7.pin (b, o) (List.mem_append_right _ (List.mem_append_right _ (ZaA hb e)))).1, fun b hb => ?_, d7, w7⟩
    obtain ⟨o, e, d⟩ := T.obj _ _ st5 b hb
    exact (I7.pin (b, o) (List.mem_append_right _ (List.mem_append_right _ (ZaA hb e)))).2.1
   refine wpAny_bind (sub (thn (hif _ s6 σ6 H6 _ I6 q6) fun ok s7 z0 => ?_))
   obtain ⟨H7, I7, q7⟩ := z0
   cases ok with
   | false =>
    rw [if_neg Bool.false_ne_true] at q7
    exact wpAny_pure ⟨rfl, again I7 q7.1 q7.2⟩
   | true =>
    rw [if_pos rfl] at q7
    refine wpAny_bind (wpAny_bind (sub (thn (he _ s7 σ6 H7 _ I7 q7) fun y s8 z0 => ?_)))
    obtain ⟨v, H8, I8, r8, d8, z8, w8⟩ := z0
    have ap := Zff (X := X) _ s8 σ6 H8 (.ref D) [v] (.ref D) [y] (fun _ H9 => H9 = upd H8 D (.lst (ys ++ [v]))) I8 rfl (.cons r8 .nil) ⟨D, ys, v, rfl, rfl, d8, z8, rfl⟩
    refine wpAny_bind (sub (thn ap fun _ s9 z0 => ?_))
    obtain ⟨_, H9, I9, _, e9⟩ := z0
    subst e9
    exact wpAny_pure (wpAny_pure ⟨rfl, again I9 Zl w8⟩)
def Zf0 (k : Nat) (js : List Nat) (wi : TI) (g : TG) (tif : TT) (te : TE) : TE := fun σ H Q => wi σ H fun J H1 => ∀ D, H1 D = none -> ∃ W : Nat -> Nat -> St -> List V -> Hp -> Prop,
 (∃ m, W 0 m (ZaL k js σ) [] (upd H1 D (.lst []))) /\ ZhO J g tif te D Q W
def Zei {elt iter : Expr} {ifs : List Expr} {k : Nat} {js : List Nat} {N' : List Str} {J : It} {fp : List Addr} {tn : Nat -> Heap -> Prop} {it : Addr} {g : TG} {tif : TT} {te : TE} {Q : VK} {E : VS}
 {pins : Pn} {s : Shared} {σ : St} {H : Hp} {cl : List (Str × Addr)} {RR : Value -> Addr -> Result -> Shared -> Prop}
 (hc : X.calm = true) (S : CompScope X k js N' scope) (T : Turn X.prog X.w X.K tg J fp it tn) (st : tn 0 s.heap) (hf : ∀ b ∈ fp, FpOk X pins H b)
 (c1 : ∀ y c, cl.lookup y = some c -> X.env.cells.lookup y = some c) (c2 : ∀ y ∈ scope.names, y.2 = .free -> ∃ c, cl.lookup y.1 = some c)
 (hin : ∀ (cl : List (Str × Addr)) (C : Addr) (s₀ : Shared) (H₀ : Hp) (ex : List Addr), PG (cxC X N' scope cl C s₀ H₀ ex) tg g /\ PIf (cxC X N' scope cl C s₀ H₀ ex) ifs tif /\ PE (cxC X N' scope cl C s₀ H₀ ex) elt te)
 (I : Inv X pins σ H s) (q : ∀ D, H D = none -> ∃ W : Nat -> Nat -> St -> List V -> Hp -> Prop, (∃ m, W 0 m (ZaL k js σ) [] (upd H D (.lst []))) /\ ZhO J g tif te D Q W)
 (hRR : ∀ (D C : Addr) (s' : Shared) (H' : Hp), s.heap.get? C = none -> (∃ m, s'.heap.Ns C m) -> Inv X pins σ H' s' -> FpOk X pins H' C -> Q (.ref D) H' -> RR (.ref D) C (.ok .next) s') :
 wpAny (model X.prog X.w) X.A (newList []) (fun acc s₃ => wpAny (model X.prog X.w) X.A (newFunctionEnv scope X.env.globals cl [] X.env.qual none .none (some X.env)) (fun cenv s₄ =>
  codeAny (model X.prog X.w) X.A (.compStart (.ListComp elt [⟨tg, iter, ifs, 0⟩] scope pos) 0 (.ref it) acc { cenv with scope := relabel scope X.env }) (RR acc cenv.locals) s₄) E s₃) E s := by
 refine wpAny_newObj_type (wpAny_newFunctionEnv S.nocell (by intro y hy; simp at hy) (fun h₁ hns₁ hsb₁ => ?_) S.kind)
 dsimp only at hns₁ hsb₁ ⊢
 generalize hH2 : s.heap.push { cls := .type "list", dict := none, data := .seq ([] : List Value).toArray } = H2 at hns₁ hsb₁ ⊢
 have hC : H2.objs.size = s.heap.objs.size + 1 := by rw [<- hH2, Heap.size_push]
 rw [hC] at hns₁ hsb₁ ⊢
 have kp : ∀ b o, s.heap.get? b = some o -> h₁.get? b = some o := fun b o e => hsb₁.extBut b o (Nat.ne_of_lt (Nat.lt_succ_of_lt (Heap.lt_size e))) (Heap.get?_push_of_some _ (hH2 ▸ Heap.get?_push_of_some _ e))
 have hD : h₁.get? s.heap.objs.size = some { cls := .type "list", data := .seq #[] } := hsb₁.extBut _ _ (Nat.ne_of_lt (Nat.lt_succ_self _)) (Heap.get?_push_of_some _ (hH2 ▸ Heap.get?_push_size _ rfl))
 have hfo : ∀ b ∈ fp, b < s.heap.objs.size := fun b hb => by obtain ⟨o, e, _⟩ := T.obj _ _ st b hb; exact Heap.lt_size e
 obtain ⟨W, ⟨m0, w0⟩, turn⟩ := q s.heap.objs.size (I.hok.fresh (Nat.le_refl _))
 obtain ⟨gG, gI, gE⟩ := hin cl (s.heap.objs.size + 1) s H fp
 have fresh1 : s.heap.get? (s.heap.objs.size + 1) = none := by
  cases e : s.heap.get? (s.heap.objs.size + 1) with
  | none => rfl
  | some o => exact absurd (Heap.lt_size e) (Nat.not_lt.mpr (Nat.le_succ _))
 have I1 : ∀ tk, Inv (cxC X N' scope cl (s.heap.objs.size + 1) s H fp) [] (ZaL k js σ) (upd H s.heap.objs.size (.lst [])) { s with heap := h₁, toks := tk } := fun tk => Zj7 I S hf hfo c1 c2 ⟨_, hns₁⟩ kp hD
 have ffr : ∀ b ∈ fp, upd H s.heap.objs.size (.lst []) b = none := fun b hb => by
  rw [Zk (Nat.ne_of_lt (hfo b hb))]
  exact (hf b hb).1
 have exs : ∀ b ∈ fp, b ∉ frs X.stack := (I1 0).ok.exfs
 have stat : ∀ {H' : Hp}, (∀ b ∈ fp, H' b = none) -> ∀ b ∈ fp, FpOk (cxC X N' scope cl (s.heap.objs.size + 1) s H fp) [] H' b := fun hn b hb =>
  ⟨hn b hb, ((I1 0).ok.exf b hb).1, exs b hb, .inl hb, ((I1 0).ok.exf b hb).2, fun p hp => (nomatch hp)⟩
 have st1 : tn 0 h₁ := T.keep _ _ _ st fun b _ o e => kp b o e
 have loop : ∀ tk, codeAny (model X.prog X.w) X.A (.compLoop (.ListComp elt [⟨tg, iter, ifs, 0⟩] scope pos) 0 (.ref it) (.ref s.heap.objs.size) (compEnvC scope cl (s.heap.objs.size + 1) X.env))
  (RR (.ref s.heap.objs.size) (s.heap.objs.size + 1)) { s with heap := h₁, toks := tk } := fun tk => by
  refine ZiE (X := cxC X N' scope cl (s.heap.objs.size + 1) s H fp) (fun _ _ z => z) hc T gG gI gE stat turn (fun σ' H' s' J q' => ?_) (I1 tk) st1 ffr Zl w0
  have u : Un (frs X.stack) fp H H' s.heap s'.heap := J.base
  have J1 : Inv X pins σ H' s' := I.call' J.os u J.hok J.bare fun b hb => ⟨(hf b hb).2.2.2.1, (hf b hb).2.1, (hf b hb).2.2.2.2.1, (hf b hb).2.2.2.2.2⟩
  obtain ⟨m', hn', _⟩ := J.loc
  refine hRR _ _ s' H' fresh1 ⟨m', hn'⟩ J1 ⟨J.free, Nat.ne_of_gt (Nat.lt_succ_of_lt I.lt), I.nofs (Nat.le_succ _), .inr (Nat.le_trans I.sz (Nat.le_succ _)), fun x c e z => ?_, fun p hp z => ?_⟩ q'
  . obtain ⟨v, qc⟩ := I.cell x c e
    have h1 := qc.lt
    rw [z] at h1
    exact absurd h1 (Nat.not_lt.mpr (Nat.le_succ _))
  . have h1 := Heap.lt_size (I.pin p hp).1
    rw [z] at h1
    exact absurd h1 (Nat.not_lt.mpr (Nat.le_succ _))
 exact codeAny_compStart_list (loop _) (T.self X.A 0 _ _ _ st1 (loop _))
def Zl2
 (hc : X.calm = true) (S : CompScope X k js N' scope) (hi : PI X tg iter wi)
 (hin : ∀ (cl : List (Str × Addr)) (C : Addr) (s₀ : Shared) (H₀ : Hp) (ex : List Addr), PG (cxC X N' scope cl C s₀ H₀ ex) tg g /\ PIf (cxC X N' scope cl C s₀ H₀ ex) ifs tif /\ PE (cxC X N' scope cl C s₀ H₀ ex) elt te)
 (hs : ∀ x, foldedSetIterable iter X.env x = pure x := by intro _; rfl) : PE X (.ListComp elt [⟨tg, iter, ifs, 0⟩] scope pos) (Zf0 k js wi g tif te) := by
 intro pins s σ H Q I h
 obtain ⟨cl, ec, c1, c2⟩ := Zeh (scope := scope) (env := X.env) fun y hy hf => I.ok.has y.1 (S.free y hy hf)
 rw [eval_ListComp]
 refine wpAny_comprehension_free (use := none) rfl hs ec S.kind S.names (thn (hi pins s σ H _ I h) fun xv s1 h1 => thn h1 fun itv s2 h2 => ?_)
 obtain ⟨it, fp, tn, J, H2, e, I2, T, st2, f2, q⟩ := h2
 subst e
 refine Zei (RR := fun acc C => compPost (model X.prog X.w) X.A X.xe none (EP X pins σ Q) acc C) hc S T st2 f2 c1 c2 hin I2 q ?_
 intro D C s' H' _ hn J1 fC q'
 obtain ⟨m', hn⟩ := hn
 obtain ⟨f0, f1, f2, f3, f4, f5⟩ := fC
 exact ⟨m', hn, fun h' hs' => ⟨.ref D, H', J1.turned (t' := s'.toks) (fun b o hb e => hs'.extBut b o hb e) f0 f1 f3 f4 f5, rfl, q'⟩⟩
def Zl3
 (hN : X.N.Nodup) (hi : X.N[i]? = some x) (hx : Loc X.env.scope x)
 (hc : X.calm = true) (S : CompScope X k js N' scope) (hit : PI X tg iter wi)
 (hin : ∀ (cl : List (Str × Addr)) (C : Addr) (s₀ : Shared) (H₀ : Hp) (ex : List Addr), PG (cxC X N' scope cl C s₀ H₀ ex) tg g /\ PIf (cxC X N' scope cl C s₀ H₀ ex) ifs tif /\ PE (cxC X N' scope cl C s₀ H₀ ex) elt te)
 (hsw : swapsWith (.ListComp elt [⟨tg, iter, ifs, 0⟩] scope pos) (some (.Name x pos')) spos.line X.env = pure true := by rfl)
 (hf : X.fn x = true \/ X.env.scope.names.lookup x = some .local := by first | exact .inl rfl | exact .inr rfl | assumption)
 (hs : ∀ x, foldedSetIterable iter X.env x = pure x := by intro _; rfl) : PS X (.Assign [.Name x pos'] (.ListComp elt [⟨tg, iter, ifs, 0⟩] scope pos) spos) (tAsg (Zf0 k js wi g tif te) (Zcf i)) := by
 intro pins s σ H D I h
 obtain ⟨cl, ec, c1, c2⟩ := Zeh (scope := scope) (env := X.env) fun y hy hf => I.ok.has y.1 (S.free y hy hf)
 (rw [exec_Assign_Name_used _ _ _ _ hsw])
 (refine wpAny_bind (wpAny_standAt (wpAny_bind ?_)))
 show wpAny _ X.A (do let _ <- comprehension (.ListComp elt [⟨tg, iter, ifs, 0⟩] scope pos) scope X.env _ (newList []) false (eval iter X.env) (some (assign (.Name x pos') X.env))) _ _ s
 refine wpAny_bind (wpAny_mono (wpAny_comprehension_free (use := some (assign (.Name x pos') X.env)) (Q := fun _ s' => SP X pins D .next s') rfl hs ec S.kind S.names
  (thn (hit pins s σ H _ I h) fun xv s1 h1 => thn h1 fun itv s2 h2 => ?_)) (fun _ s' hq => wpAny_pure (wpAny_pure hq)) fun _ _ e => e)
 obtain ⟨it, fp, tn, J, H2, e, I2, T, st2, f2, q⟩ := h2
 subst e
 refine Zei (Q := fun v H' => Zcf i v σ H' D.nx) (RR := fun acc C => compPost (model X.prog X.w) X.A X.xe (some (assign (.Name x pos') X.env)) (fun _ s' => SP X pins D .next s') acc C) hc S T st2 f2 c1 c2 hin I2 q ?_
 intro Da C s' H' fr hn J1 fC q'
 obtain ⟨m', hn⟩ := hn
 obtain ⟨f0, f1, f2, f3, f4, f5⟩ := fC
 obtain ⟨oC, es, ep, hoC, hdC, hkC, hmC⟩ := id hn
 show wpAny _ X.A (assign (.Name x pos') X.env (.ref Da)) _ _ _
 have J2 : Inv X (pins ++ [(C, oC)]) σ H' s' := J1.pins_of fun p hp => by
  (rcases List.mem_append.mp hp with z | z)
  . exact J1.pin p (List.mem_append_right _ z)
  . have z' : p = (C, oC) := by simpa using z
    subst z'
    exact ⟨hoC, f0, f1, f2, fun v e => by rw [hdC] at e; cases e⟩
 refine wpAny_assign_Name (Zbp J2 hN hi hx (v := .ref Da) rfl (fun s'' I'' => ?_) hf)
 have hC'' := (I''.pin (C, oC) (List.mem_append_right _ (List.mem_append_right _ (by simp)))).1
 refine ⟨m', ⟨oC, es, ep, hC'', hdC, hkC, hmC⟩, fun h' hs' => ?_⟩
 have I3 : Inv X pins (σ.set i (some (.ref Da))) H' s'' := I''.unpinned
 exact ⟨_, H', I3.turned (t' := s''.toks) (fun b o hb e => hs'.extBut b o hb e) f0 f1 f3 f4 f5, q'⟩
end
mutual
inductive Den (K : Fg) (H : Hp) : V -> PyData -> Prop
 | non : Den K H .non .none
 | bl (b : Bool) : Den K H (.bl b) (.bool b)
 | int (i : Int) : Den K H (.int i) (.int i)
 | str (x : Str) : Den K H (.str x) (.str x)
 | lst {a : Addr} {vs : List V} {ds : List PyData} : SqL K H a vs -> DenL K H vs ds -> Den K H (.ref a) (.list ds)
 | tup {a : Addr} {vs : List V} {ds : List PyData} : SqT K H a vs -> DenL K H vs ds -> Den K H (.ref a) (.tuple ds)
inductive DenL (K : Fg) (H : Hp) : List V -> List PyData -> Prop
 | nil : DenL K H [] []
 | cons {v : V} {d : PyData} {vs : List V} {ds : List PyData} : Den K H v d -> DenL K H vs ds -> DenL K H (v :: vs) (d :: ds)
end
def Same.tupq {K : Fg} {a : Addr} {xs : List V} (e : Same H H') (h : SqT K H a xs) : SqT K H' a xs := by
 rcases h with (h | ⟨o, h⟩) | h
 . exact .inl (.inl (e _ _ h))
 . exact .inl (.inr ⟨o, e _ _ h⟩)
 . exact .inr h
mutual
theorem Den.same {K : Fg} (e : Same H H') : ∀ {v : V} {d : PyData}, Den K H v d -> Den K H' v d
 | _, _, .non => .non
 | _, _, .bl b => .bl b
 | _, _, .int i => .int i
 | _, _, .str x => .str x
 | _, _, .lst h r => .lst (e.seq h) (DenL.same e r)
 | _, _, .tup h r => .tup (e.tupq h) (DenL.same e r)
theorem DenL.same {K : Fg} (e : Same H H') : ∀ {vs : List V} {ds : List PyData}, DenL K H vs ds -> DenL K H' vs ds
 | _, _, .nil => .nil
 | _, _, .cons h r => .cons (Den.same e h) (DenL.same e r)
end
section
mutual
theorem Den.reads (I : Inv X pins σ H s) : ∀ {v : V} {d : PyData} {u : Value}, Den X.K H v d -> RelV v u -> ∃ as, Reads s.heap u d as
 | _, _, _, .non, r => by cases (show _ = Value.none from r); exact ⟨_, .none⟩
 | _, _, _, .bl b, r => by cases (show _ = Value.bool b from r); exact ⟨_, .bool b⟩
 | _, _, _, .int i, r => by obtain ⟨t, q⟩ := (show ∃ t, _ = Value.int i t from r); cases q; exact ⟨_, .int i t⟩
 | _, _, _, .str x, r => by obtain ⟨t, q⟩ := (show ∃ t, _ = Value.str x t from r); cases q; exact ⟨_, .str x t⟩
 | _, _, _, .lst (a := a) h q, r => by
  cases (show _ = Value.ref a from r)
  obtain ⟨its, rv, p, hz⟩ := I.list h
  obtain ⟨as, ra⟩ := DenL.reads I q rv
  obtain ⟨o, ho, hc, n, hd⟩ := p.isList
  exact ⟨_, .list ho hc hd (by simpa using ra)⟩
 | _, _, _, .tup (a := a) h q, r => by
  cases (show _ = Value.ref a from r)
  obtain ⟨its, rv, p, hz⟩ := I.tuple h
  obtain ⟨as, ra⟩ := DenL.reads I q rv
  obtain ⟨o, ho, hc, n, hd⟩ := (show s.heap.IsTuple a its.toArray from p)
  exact ⟨_, .tuple ho hc hd (by simpa using ra)⟩
theorem DenL.reads (I : Inv X pins σ H s) : ∀ {vs : List V} {ds : List PyData} {us : List Value}, DenL X.K H vs ds -> Vals vs us -> ∃ as, ReadsAll s.heap us ds as
 | _, _, _, .nil, r => by cases r; exact ⟨_, .nil⟩
 | _, _, _, .cons h q, r => by
  cases r with
  | cons r1 r2 =>
   obtain ⟨as, ra⟩ := Den.reads I h r1
   obtain ⟨bs, rb⟩ := DenL.reads I q r2
   exact ⟨_, .cons ra rb⟩
end
end
section
def rEqD (K : Fg) : R2 := fun x y H Q => ∃ d e, Den K H x d /\ Den K H y e /\ SeqAt.shaped d = true /\ SeqAt.shaped e = true /\ Q (.bl (PyData.eqv d e)) H
def rNeD (K : Fg) : R2 := fun x y H Q => ∃ d e, Den K H x d /\ Den K H y e /\ SeqAt.shaped d = true /\ SeqAt.shaped e = true /\ Q (.bl (!PyData.eqv d e)) H
def Znt (hu : X.A.units + 64 < cLine) : OpR X (compareOp .Eq) (rEqD X.K) := by
 intro pins s σ H x y v u Q I rx ry h
 obtain ⟨d, e, hd, he, s1, s2, q⟩ := h
 obtain ⟨as, ra⟩ := hd.reads I rx
 obtain ⟨bs, rb⟩ := he.reads I ry
 exact eq_dataH ra rb s1 s2 hu ⟨.bl _, H, I, rfl, q⟩
def Znu (hu : X.A.units + 64 < cLine) : OpR X (compareOp .NotEq) (rNeD X.K) := by
 intro pins s σ H x y v u Q I rx ry h
 obtain ⟨d, e, hd, he, s1, s2, q⟩ := h
 obtain ⟨as, ra⟩ := hd.reads I rx
 obtain ⟨bs, rb⟩ := he.reads I ry
 exact ne_dataH ra rb s1 s2 hu ⟨.bl _, H, I, rfl, q⟩
theorem Zfj : ∀ (l : List (Str × Tok)), Vals ((l.map (·.1)).map V.str) (strValues l)
 | [] => .nil
 | (x, t) :: l => .cons ⟨t, rfl⟩ (Zfj l)
theorem Zfk : ∀ (ts : List Str) (us : List Value), Vals (ts.map V.str) us -> ∃ l : List (Str × Tok), us = strValues l /\ l.map (·.1) = ts
 | [], us, r => by cases r; exact ⟨[], rfl, rfl⟩
 | x :: ts, us, r => by
  cases r with
  | cons r1 r2 =>
   obtain ⟨t, rfl⟩ := r1
   obtain ⟨l, e1, e2⟩ := Zfk ts _ r2
   exact ⟨(x, t) :: l, by rw [e1]; rfl, by rw [List.map_cons, e2]⟩
def Zj8 (x : Str) (c : Nat) : (Txt.split x ⟨#[c]⟩).length <= x.length + 2 := by
 unfold Txt.split
 split
 . show 1 <= _
   omega
 . split
   . show 1 <= _
     omega
   . have e1 := StrLaws.occ_length_le x ⟨#[c]⟩ 0 x.length (x.length + 1)
     rw [length_partsBetween]
     omega
def Znv : V -> List V -> Hp -> VK -> Prop := fun x vs H Q => ∃ z c, x = .str z /\ vs = [.str ⟨#[c]⟩] /\ z.length + 2 <= sizeLine /\ ∀ p, H p = none -> Q (.ref p) (upd H p (.lst ((Txt.split z ⟨#[c]⟩).map V.str)))
def Zj9 : MtR X "str.split" Znv := by
 intro pins s σ H x vs v us Q I rx rv h
 obtain ⟨z, c, rfl, rfl, hz, q⟩ := h
 obtain ⟨t, rfl⟩ := rx
 obtain ⟨u0, rfl, ru⟩ := rv.one
 obtain ⟨u, rfl⟩ := ru
 have hy : ((⟨#[c]⟩ : Str).length == 0) = false := rfl
 have fin : ∀ (l : List (Str × Tok)) (tk : Nat), l.map (·.1) = Txt.split z ⟨#[c]⟩ -> EP X pins σ Q (.ref s.heap.objs.size) { s with heap := s.heap.push { cls := .type "list", data := .seq (strValues l).toArray }, toks := tk } := fun l tk e => by
  have rv := Zfj l
  rw [e] at rv
  refine ⟨.ref s.heap.objs.size, _, I.lnew rv ?_, rfl, q _ I.fresh⟩
  rw [List.length_map]
  have := Zj8 z c
  omega
 have hn : (Builtin.Str.partsBetween z (Builtin.Str.occurrences z ⟨#[c]⟩ 0 z.length (z.length + 1)) (⟨#[c]⟩ : Str).length).length <= sizeLine := by
  have e1 := StrLaws.occ_length_le z ⟨#[c]⟩ 0 z.length (z.length + 1)
  rw [length_partsBetween]
  omega
 cases h1 : (decide (z.length < (⟨#[c]⟩ : Str).length) || decide (Builtin.Str.strKind z < Builtin.Str.strKind ⟨#[c]⟩))
 . cases hf : (Builtin.Str.occurrences z ⟨#[c]⟩ 0 z.length (z.length + 1)).isEmpty
   . refine call_meets F.slot_str_split (typeIs_str _ _ _) F.entry_str_split (F.args_str_split_2 _ _) (meets_str_split_sep z ⟨#[c]⟩ t u h1 hy hf (by omega) hn) ?_
     show wants (EP X pins σ Q) X.xe _ { s with toks := _, heap := s.heap.push { cls := .type "list", data := .seq (strsFrom s.toks (Builtin.Str.partsBetween z (Builtin.Str.occurrences z ⟨#[c]⟩ 0 z.length (z.length + 1)) (⟨#[c]⟩ : Str).length)).toArray } }
     rw [strsFrom_eq]
     exact fin (numbered s.toks _) _ ((numbered_texts _ _).trans ((if_neg (ne_true_of_eq_false h1)).trans (if_neg (ne_true_of_eq_false hf))).symm)
   . exact call_meets F.slot_str_split (typeIs_str _ _ _) F.entry_str_split (F.args_str_split_2 _ _) (meets_str_split_not_found z ⟨#[c]⟩ t u h1 hy hf)
      (fin [(z, t)] s.toks ((if_neg (ne_true_of_eq_false h1)).trans (if_pos hf)).symm)
 . exact call_meets F.slot_str_split (typeIs_str _ _ _) F.entry_str_split (F.args_str_split_2 _ _) (meets_str_split_cannot_occur z ⟨#[c]⟩ t u h1)
    (fin [(z, t)] s.toks (if_pos h1).symm)
def Zpz (K : Fg) : V -> List V -> Hp -> VK -> Prop := fun x vs H Q => ∃ sep l ts, x = .str sep /\ vs = [.ref l] /\ SqL K H l (ts.map V.str) /\ JoinOk sep ts = true /\ Q (.str (Txt.join sep ts)) H
def Zl4 : MtR X "str.join" (Zpz X.K) := by
 intro pins s σ H x vs v us Q I rx rv h
 obtain ⟨sep, l, ts, rfl, rfl, hl, hj, q⟩ := h
 obtain ⟨t, rfl⟩ := rx
 obtain ⟨u0, rfl, ru⟩ := rv.one
 cases (show u0 = Value.ref l from ru)
 obtain ⟨its, r, p, hz⟩ := I.list hl
 obtain ⟨ll, rfl, e⟩ := Zfk ts its r
 exact SC.join p.isList e hj fun t' k => ⟨.str _, H, I.tok k, ⟨t', rfl⟩, q⟩
def rSlS : V -> Option Int -> Option Int -> Hp -> VK -> Prop := fun x lo hi H Q => ∃ z, x = .str z /\ z.length <= sizeLine /\ Q (.str (Txt.slice z lo hi)) H
theorem Znw : SlR X rSlS := by
 intro pins s σ H x v vl vu lo hi sl Q I rx hs pl pu h
 obtain ⟨z, rfl, hz, q⟩ := h
 obtain ⟨t, rfl⟩ := rx
 refine ⟨"str", _, F.slot_str_getitem.lookup, typeIs_str _ _ _, ?_⟩
 have fin : ∀ t' k, EP X pins σ Q (.str (Txt.slice z lo hi) t') { s with toks := k } := fun t' k => ⟨.str _, H, I.tok k, ⟨t', rfl⟩, q⟩
 have hle := Nat.le_trans (Txt.slice_le z lo hi) hz
 cases pl with
 | none =>
  cases pu with
  | none => exact wpAny_getItem_str_slice (l := none) (u := none) (st := none) hs rfl (post_val_or_str ⟨hle, fin⟩)
  | int j tj => exact wpAny_getItem_str_slice (l := none) (u := some (j, tj)) (st := none) hs rfl (post_val_or_str ⟨hle, fin⟩)
 | int i ti =>
  cases pu with
  | none => exact wpAny_getItem_str_slice (l := some (i, ti)) (u := none) (st := none) hs rfl (post_val_or_str ⟨hle, fin⟩)
  | int j tj => exact wpAny_getItem_str_slice (l := some (i, ti)) (u := some (j, tj)) (st := none) hs rfl (post_val_or_str ⟨hle, fin⟩)
def ZfJ : ZI X (.type "int") (fun xs H Q => ∃ z n, xs = [.str z] /\ intText? z = some n /\ z.length <= 640 /\ Q (.int n) H) := by
 intro pins s σ H xs us Q I r h
 obtain ⟨z, n, rfl, hn, hl, q⟩ := h
 obtain ⟨u, rfl, ru⟩ := r.one
 obtain ⟨t, rfl⟩ := ru
 exact PySem.W.KIN.call_text hn hl ⟨.int n, H, I.tok _, ⟨_, rfl⟩, q⟩
def ZjA (c : V) (cu : Value) (rc : RelV c cu) (huniq : ∀ u, RelV c u -> u = cu) : ZI X (.builtin "isinstance") (fun xs H Q => ∃ x t b, xs = [x, c] /\ TyOf X.K H x t /\ PySem.W.kitOne X.K t cu = some b /\ Q (.bl b) H) := by
 intro pins s σ H xs us Q I r h
 obtain ⟨x, t, b, rfl, ty, e, q⟩ := h
 obtain ⟨u, w', rfl, ru, rw'⟩ := r.two
 obtain rfl := huniq w' rw'
 exact Ziz I ru ty e fun tk => ⟨.bl b, H, I.tok tk, rfl, q⟩
theorem ZcL : ∀ (bs : List Bool) (us : List Value), Vals (bs.map V.bl) us -> us = bs.map Value.bool
 | [], us, r => by cases r; rfl
 | b :: bs, us, r => by
  cases r with
  | cons r1 r2 => rw [ZcL bs _ r2, show _ = Value.bool b from r1]; rfl
def ZhP (bs : List Bool) : ((List.range bs.length).all fun i => (bs[i]?).getD true) = bs.all id := by
 (rw [Bool.eq_iff_iff, List.all_eq_true, List.all_eq_true])
 constructor
 . intro h b hb
   obtain ⟨i, hi, e⟩ := List.mem_iff_getElem.mp hb
   have q := h i (List.mem_range.mpr hi)
   rw [List.getElem?_eq_getElem hi, Option.getD_some, e] at q
   exact q
 . intro h i hi
   (have hi' := List.mem_range.mp hi)
   rw [List.getElem?_eq_getElem hi', Option.getD_some]
   (exact h _ (List.getElem_mem hi'))
def ZhQ (bs : List Bool) : ((List.range bs.length).any fun i => (bs[i]?).getD false) = bs.any id := by
 (rw [Bool.eq_iff_iff, List.any_eq_true, List.any_eq_true])
 constructor
 . rintro ⟨i, hi, q⟩
   (have hi' := List.mem_range.mp hi)
   rw [List.getElem?_eq_getElem hi', Option.getD_some] at q
   exact ⟨_, List.getElem_mem hi', q⟩
 . rintro ⟨b, hb, q⟩
   obtain ⟨i, hi, e⟩ := List.mem_iff_getElem.mp hb
   refine ⟨i, List.mem_range.mpr hi, ?_⟩
   rw [List.getElem?_eq_getElem hi, Option.getD_some, e]
   exact q
def Zhh {h' : Heap} {o : Obj} (hk : ∀ b x, b ∉ [h.objs.size] -> (h.push o).get? b = some x -> h'.get? b = some x) : ∀ b x, h.get? b = some x -> h'.get? b = some x :=
 fun c o e => hk c o (fun hm => by rw [List.mem_singleton.mp hm] at e; exact Nat.lt_irrefl _ (Heap.lt_size e)) (Heap.get?_push_of_some _ e)
def ZjB (hc : X.calm = true) : ZI X (.builtin "all") (fun xs H Q => ∃ (l : Addr) (bs : List Bool), xs = [.ref l] /\ SqL X.K H l (bs.map V.bl) /\ Q (.bl (bs.all id)) H) := by
 intro pins s σ H xs us Q I r h
 obtain ⟨l, bs, rfl, hl, q⟩ := h
 obtain ⟨u, rfl, ru⟩ := r.one
 cases (show u = Value.ref l from ru)
 obtain ⟨its, rv, p, hz⟩ := I.list hl
 have ei := ZcL bs its rv
 have hlt : l < s.heap.objs.size := by obtain ⟨_, e, _⟩ := p.isList; exact Heap.lt_size e
 refine call_all_walk (wpAny_pyIter_list p.isList ?_)
 refine ⟨s.heap.objs.size, [s.heap.objs.size, l], [s.heap.objs.size], its.toArray.size, _, _, fun i => (bs[i]?).getD true, rfl, Walks.list (A := X.A.in1) (I.ok.hd hc) _ l (Nat.ne_of_lt hlt) its.toArray,
  ⟨⟨_, Heap.get?_push_size _ rfl, rfl, rfl⟩, p.isList.push _⟩, fun i v s' Q' E' hP hQ => ?_, fun h' tk hk => ?_⟩
 . have hP' : its[i]? = some v := by simpa using hP
   rw [ei, List.getElem?_map] at hP'
   cases e : bs[i]? with
   | none => rw [e] at hP'; cases hP'
   | some b =>
    rw [e] at hP'
    cases hP'
    (simp only [e, Option.getD_some] at hQ)
    exact wpAny_truthy_bool hQ
 . have e : ((List.range its.toArray.size).all fun i => (bs[i]?).getD true) = bs.all id := by
    rw [List.size_toArray, <- rv.length, List.length_map]
    exact ZhP bs
   rw [e]
   exact ⟨.bl _, H, I.kept (t' := tk) (Zhh hk), rfl, q⟩
def ZjC (hc : X.calm = true) : ZI X (.builtin "any") (fun xs H Q => ∃ (l : Addr) (bs : List Bool), xs = [.ref l] /\ SqL X.K H l (bs.map V.bl) /\ Q (.bl (bs.any id)) H) := by
 intro pins s σ H xs us Q I r h
 obtain ⟨l, bs, rfl, hl, q⟩ := h
 obtain ⟨u, rfl, ru⟩ := r.one
 cases (show u = Value.ref l from ru)
 obtain ⟨its, rv, p, hz⟩ := I.list hl
 have ei := ZcL bs its rv
 have hlt : l < s.heap.objs.size := by obtain ⟨_, e, _⟩ := p.isList; exact Heap.lt_size e
 refine call_any_walk (wpAny_pyIter_list p.isList ?_)
 refine ⟨s.heap.objs.size, [s.heap.objs.size, l], [s.heap.objs.size], its.toArray.size, _, _, fun i => (bs[i]?).getD false, rfl, Walks.list (A := X.A.in1) (I.ok.hd hc) _ l (Nat.ne_of_lt hlt) its.toArray,
  ⟨⟨_, Heap.get?_push_size _ rfl, rfl, rfl⟩, p.isList.push _⟩, fun i v s' Q' E' hP hQ => ?_, fun h' tk hk => ?_⟩
 . have hP' : its[i]? = some v := by simpa using hP
   rw [ei, List.getElem?_map] at hP'
   cases e : bs[i]? with
   | none => rw [e] at hP'; cases hP'
   | some b =>
    rw [e] at hP'
    cases hP'
    (simp only [e, Option.getD_some] at hQ)
    exact wpAny_truthy_bool hQ
 . have e : ((List.range its.toArray.size).any fun i => (bs[i]?).getD false) = bs.any id := by
    rw [List.size_toArray, <- rv.length, List.length_map]
    exact ZhQ bs
   rw [e]
   exact ⟨.bl _, H, I.kept (t' := tk) (Zhh hk), rfl, q⟩
noncomputable def fmtV : V -> Option Str
 | .int i => if i.natAbs.log2 < 1920 then some (toString i : String) else none
 | .str x => some x
 | .non => some ("None" : String)
 | _ => none
def tFmt (te : TE) : TE := fun σ H Q => te σ H fun x H1 => ∃ z, fmtV x = some z /\ z.length <= sizeLine /\ Q (.str z) H1
theorem Znx (h : PE X e te) : PE X (.FormattedValue e (-1) none pos) (tFmt te) := by
 intro pins s σ H Q I hw
 refine PyProof.Rows.FormattedValue_plain (thn (h pins s σ H _ I hw) fun v s1 z0 => ?_)
 obtain ⟨x, H1, I1, r1, z, e1, hz, q⟩ := z0
 have fin : ∀ t' k, EP X pins σ Q (.str z t') { s1 with toks := k } := fun t' k => ⟨.str _, H1, I1.tok k, ⟨t', rfl⟩, q⟩
 cases x with
 | int i =>
  obtain ⟨t, rfl⟩ := r1
  unfold fmtV at e1
  simp only at e1
  split at e1
  . rename_i hl
    cases e1
    exact PyProof.Rows.formatField_int_small hl (fin _ _)
  . cases e1
 | str y =>
  obtain ⟨t, rfl⟩ := r1
  cases e1
  exact PyProof.Rows.formatField_str (fun t' k => fin t' k) hz
 | non =>
  cases (show v = Value.none from r1)
  cases e1
  exact wpAny_formatField_none (fin _ _)
 | _ => cases e1
noncomputable def Zf1 : List TE -> Str -> TE
 | [], acc => fun _ H Q => Q (.str acc) H
 | t :: r, acc => fun σ H Q => t σ H fun x H1 => ∃ z, x = .str z /\ (acc ++ z).length <= sizeLine /\ Zf1 r (acc ++ z) σ H1 Q
def PEs (X : Cx) : List Expr -> List TE -> Prop := Paired (PE X)
theorem Zej : ∀ {es : List Expr} {ts : List TE} (acc : Str) (pins : Pn) (s : Shared) (σ : St) (H : Hp) (Q : VK), PEs X es ts -> acc.length <= sizeLine -> Inv X pins σ H s -> Zf1 ts acc σ H Q ->
 wpAny (model X.prog X.w) X.A (joinParts acc (es.map fun e => eval e X.env)) (EP X pins σ Q) X.xe s
 | _, _, acc, pins, s, σ, H, Q, .nil, hz, I, h => PyProof.Rows.joinParts_nil ⟨.str acc, H, I.tok _, ⟨_, rfl⟩, h⟩ hz
 | _, _, acc, pins, s, σ, H, Q, .cons h1 h2, hz, I, h => by
  refine PyProof.Rows.joinParts_cons (thn (h1 pins s σ H _ I h) fun v s1 z0 => ?_)
  obtain ⟨x, H1, I1, r1, z, e, hl, q⟩ := z0
  subst e
  obtain ⟨t, rfl⟩ := r1
  exact ⟨hl, Zej (acc ++ z) pins s1 σ H1 Q h2 hl I1 q⟩
theorem Zde (env : Env) : ∀ es : List Expr, evalEach es env = es.map fun e => eval e env
 | [] => rfl
 | e :: es => by
  have ih := Zde env es
  show eval e env :: evalEach es env = _
  rw [ih, List.map_cons]
def Zl5 (h : PEs X (a :: b :: es) ts) : PE X (.JoinedStr (a :: b :: es) pos) (Zf1 ts Str.empty) := by
 intro pins s σ H Q I hw
 have q := Zej (X := X) Str.empty pins s σ H Q h (by decide) I hw
 refine PyProof.Rows.JoinedStr_many ?_
 rw [Zde]
 exact q
end
noncomputable def Its (x : Str) : It := ⟨fun i _ => i < x.cps.size, fun i H v H' => H' = H /\ ∃ c, x.cps[i]? = some c /\ v = .str ⟨#[c]⟩, fun i _ => x.cps.size <= i⟩
def ZjD {P : Program} {w : World} {K : Fg} (it : Addr) (x : Str) (t : Tok) {ty : String} (hty : ty = "str_ascii_iterator" \/ ty = "str_iterator") : Turn P w K tg (Its x) [it] it (fun i h => i <= x.cps.size /\ h.IsStrIter it ty x t i) where
 mem := by simp
 obj := fun i h st b hb => by
  have e : b = it := by simpa using hb
  subst e
  obtain ⟨_, o, e, c, d⟩ := st
  exact ⟨o, e, fun v z => by rw [d] at z; cases z⟩
 keep := fun i h h' st k => ⟨st.1, let ⟨o, ho, r⟩ := st.2; ⟨o, k it (by simp) o ho, r⟩⟩
 item := by
  intro X hP hw hK hc i pins s σ H E I hf st hg
  subst hP hw hK
  obtain ⟨f0, f1, f2, f3, f4, f5⟩ := hf it (by simp)
  have go : ∀ {W : Walks X.prog X.w X.A it [it] [it] x.cps.size (SignAt x) (fun i h => h.IsStrIter it ty x t i)}, wpAny (model X.prog X.w) X.A (pyNext (.ref it)) (fun r s1 => ∃ u, r = some u /\
   wpAny (model X.prog X.w) X.A (letOwnedTupleGo tg (.ref it) u) (fun _ s2 => ∃ v H', Inv X pins σ H' s2 /\ RelV v u /\ (Its x).yld i H v H' /\ (i + 1 <= x.cps.size /\ s2.heap.IsStrIter it ty x t (i + 1)) /\ ∀ b ∈ [it], H' b = none) E s1) E s := fun {W} => by
   refine W.item i s _ _ hg st.2 fun v h' tk hv st' kk => ?_
   obtain ⟨c, u, ec, rfl⟩ := hv
   have I1 : Inv X pins σ H { s with heap := h', toks := tk } := I.turned (fun b o hb e => kk b o (by simpa using hb) e) f0 f1 f3 f4 f5
   obtain ⟨o, e, cc, d⟩ := id st'
   refine ⟨_, rfl, Zfz (s := { s with heap := h', toks := tk }) e cc d ?_ ⟨.str ⟨#[c]⟩, H, I1, ⟨u, rfl⟩, ⟨rfl, c, ec, rfl⟩, ⟨hg, st'⟩, fun b hb => (hf b hb).1⟩⟩
   rcases hty with rfl | rfl <;> decide
  rcases hty with rfl | rfl
  . exact go (W := Walks.strAscii (I.ok.hd hc) it x t)
  . exact go (W := Walks.strWide (I.ok.hd hc) it x t)
 done := by
  intro X hP hw hK hc i pins s σ H E I hf st hg
  subst hP hw hK
  obtain ⟨f0, f1, f2, f3, f4, f5⟩ := hf it (by simp)
  obtain rfl : i = x.cps.size := Nat.le_antisymm st.1 hg
  rcases hty with rfl | rfl
  . exact (Walks.strAscii (prog := X.prog) (w := X.w) (I.ok.hd hc) it x t).done s _ _ st.2 fun h' tk kk => ⟨rfl, I.turned (fun b o hb e => kk b o (by simpa using hb) e) f0 f1 f3 f4 f5⟩
  . exact (Walks.strWide (prog := X.prog) (w := X.w) (I.ok.hd hc) it x t).done s _ _ st.2 fun h' tk kk => ⟨rfl, I.turned (fun b o hb e => kk b o (by simpa using hb) e) f0 f1 f3 f4 f5⟩
 self := fun A i s Q E st h => by
  rcases hty with rfl | rfl
  . exact wpAny_pyIter_striter_ascii st.2 h
  . exact wpAny_pyIter_striter_wide st.2 h
section
noncomputable def iStr (tl : TE) : TI := fun σ H R => tl σ H fun v H1 => ∃ x, v = .str x /\ R (Its x) H1
def Zny (hl : PE X l tl) : PI X tg l (iStr tl) := by
 intro pins s σ H R I h
 refine thn (hl pins s σ H _ I h) fun v s1 z0 => ?_
 obtain ⟨y, H1, I1, r1, q1⟩ := z0
 obtain ⟨x, e, q⟩ := q1
 subst e
 obtain ⟨t, rfl⟩ := r1
 have fin : ∀ (o : Obj) (ty : String), (ty = "str_ascii_iterator" \/ ty = "str_iterator") -> (s1.heap.push o).IsStrIter s1.heap.objs.size ty x t 0 -> PIE X pins σ tg R (.ref s1.heap.objs.size) { s1 with heap := s1.heap.push o } := fun o ty hty hit => by
  refine ⟨s1.heap.objs.size, [s1.heap.objs.size], _, _, H1, rfl, I1.kept (t' := s1.toks) fun b o e => Heap.get?_push_of_some _ e, ZjD _ x t hty, ⟨Nat.zero_le _, hit⟩, fun b hb => ?_, q⟩
  have e : b = s1.heap.objs.size := by simpa using hb
  subst e
  exact I1.fpOk (Nat.le_refl _) (I1.hok.fresh (Nat.le_refl _))
 (cases ha : x.cps.all (· < 128))
 . exact wpAny_pyIter_wide ha (fin _ _ (.inr rfl) ⟨_, Heap.get?_push_size _ rfl, rfl, rfl⟩)
 . exact wpAny_pyIter_ascii ha (fin _ _ (.inl rfl) ⟨_, Heap.get?_push_size _ rfl, rfl, rfl⟩)
end
structure FnAt (P : Program) (w : World) (K : Fg) (mg : SO) (base : Heap) (x : Str) (k : Nat) (ps : List Str) (sp : Sp) : Prop where
 ex : ∃ (f : Addr) (fd : FuncData), FnOk P w K mg base CX0 k f fd ps sp /\ mg x = some (.ref f) /\ PySem.W.keepIn K (.ref f) = true /\ Binds K fd ps []
structure MeAt (P : Program) (w : World) (K : Fg) (mg : SO) (base : Heap) (C : Addr) (m : Str) (k : Nat) (ps : List Str) (sp : Sp) : Prop where
 ex : ∃ (f : Addr) (fd : FuncData), FnOk P w K mg base CX0 k f fd ps sp /\ Meth K C m f /\ Binds K fd ps []
 cl : Cls K C
structure MkAt (P : Program) (w : World) (K : Fg) (mg : SO) (base : Heap) (x : Str) (C : Addr) (k : Nat) (ps : List Str) (sp : Sp) : Prop where
 ex : ∃ (f : Addr) (fd : FuncData), FnOk P w K mg base CX0 k f fd ps sp /\ Mk K C f /\ mg x = some (.ref C) /\ Binds K fd ps []
section
def Zp0 (G : FnAt X.prog X.w X.K X.mg X.base x j ps sp) (hr : Room n X.A) (ha : PA X (e :: es) t) (hj : j <= n := by decide) (hg : Gl X x := by rfl) (hdb : (x == ("__debug__" : Str)) = false := by decide)
 (he : SE X e es := by rfl) (hpl : SFx X pos es := by rfl) : PE X (.Call (.Name x p) (e :: es) [] pos) (Zk0 sp [] E0 t) := by
 obtain ⟨f, fd, F, hm, hk, hb⟩ := G.ex
 exact Zlh F (hr.mono hj) hg hm hk hb .nil ZhJ ha hdb he hpl
def Zp1 (G : MeAt X.prog X.w X.K X.mg X.base C m j ps sp) (hr : Room n X.A) (ho : PE X o ta) (ha : PA X (e :: es) t) (hj : j <= n := by decide)
 (hst : SE X e es := by rfl) (hpl : SFx X pos es := by rfl)
 (ht : eval (.Call (.Attribute o m apos) (e :: es) [] pos) X.env = (do
  let ov <- eval o X.env
  standAt apos.atName
  let (f, first) <- holding [ov] (getMethod ov m pl)
  callWith pos f first (backTo pos (starEach (e :: es) X.env)) (backToKw pos (keywordEach [] X.env))) := by rfl) : PE X (.Call (.Attribute o m apos) (e :: es) [] pos) (Zk1 C m sp [] E0 ta t) := by
 obtain ⟨f, fd, F, hm, hb⟩ := G.ex
 exact Zli ho G.cl hm F (hr.mono hj) hb .nil ZhJ ha hst hpl ht
def Zp2 (G : MkAt X.prog X.w X.K X.mg X.base x C j ps sp) (hr : Room n X.A) (ha : PA X (e :: es) t) (hj : j + 1 <= n := by decide) (hg : Gl X x := by rfl) (hdb : (x == ("__debug__" : Str)) = false := by decide)
 (he : SE X e es := by rfl) (hpl : SFx X pos es := by rfl) : PE X (.Call (.Name x p) (e :: es) [] pos) (Zk2 C sp [] E0 t) := by
 obtain ⟨f, fd, F, M, hm, hb⟩ := G.ex
 exact Zlj M F (hr.mono hj) hg hm hb .nil ZhJ ha hdb he hpl
end
def ZdL (j : Nat) (js : List Nat) (σ : St) : Zba (j :: js) σ = (σ[j]?).join :: Zba js σ := rfl
def ZbR : bootBuiltins "isinstance" = some (.builtin "isinstance") := by decide +kernel
def Zk9 : bootBuiltins "str" = some (.type "str") := by decide +kernel
def Zp3 : bootBuiltins "int" = some (.type "int") := by decide +kernel
def ZiF : bootBuiltins "bool" = some (.type "bool") := by decide +kernel
noncomputable def Zv (sc : Scope) (N : List Str) (i : Nat) (x : Str) (b : Bool) : Bool := N[i]? == some x && sc.names.lookup x == some (if b then .cell else .local) && !(x == ("__debug__" : Str)) && !(x == ("__classdict__" : Str))
noncomputable def ZfK (sc : Scope) (N : List Str) (i : Nat) (x : Str) : Bool := N[i]? == some x && (sc.names.lookup x == some .cell || sc.names.lookup x == some .free) && !(x == ("__debug__" : Str)) && !(x == ("__classdict__" : Str))
noncomputable def glOk (sc : Scope) (x : Str) : Bool := sc.names.lookup x == some .globalImplicit && !(x == ("__debug__" : Str)) && !(x == ("__name__" : Str))
section
def Zv.at (h : Zv sc N i x b = true) : N[i]? = some x /\ sc.names.lookup x = some (if b then .cell else .local) /\ (x == ("__debug__" : Str)) = false /\ (x == ("__classdict__" : Str)) = false := by
 unfold Zv at h
 (simp only [Bool.and_eq_true, Bool.not_eq_true'] at h)
 exact ⟨eq_of_beq h.1.1.1, eq_of_beq h.1.1.2, h.1.2, h.2⟩
def Zv.loc (h : Zv sc N i x b = true) : Loc sc x := by
 have q := (Zv.at h).2.1
 cases b
 . exact .inl q
 . exact .inr q
def pvs (h : Zv sc N i x b = true) (e1 : X.env.scope = sc := by rfl) (e2 : X.N = N := by rfl) : PE X (.Name x pos) (tVar i) := by
 obtain ⟨h1, h2, h3, h4⟩ := Zv.at h
 have l := Zv.loc h
 subst e1 e2
 refine Ziq h1 ?_ h3 h4
 rcases l with l | l
 . exact .inl l
 . exact .inr (.inl l)
def pvf (h : ZfK sc N i x = true) (e1 : X.env.scope = sc := by rfl) (e2 : X.N = N := by rfl) : PE X (.Name x pos) (tVar i) := by
 unfold ZfK at h
 simp only [Bool.and_eq_true, Bool.not_eq_true', Bool.or_eq_true] at h
 subst e1 e2
 refine Ziq (eq_of_beq h.1.1.1) ?_ h.1.2 h.2
 rcases h.1.1.2 with l | l
 . exact .inr (.inl (eq_of_beq l))
 . exact .inr (.inr (eq_of_beq l))
def glk (h : glOk sc x = true) (e1 : X.env.scope = sc := by rfl) : Gl X x := by
 unfold glOk at h
 (simp only [Bool.and_eq_true] at h)
 subst e1
 exact eq_of_beq h.1.1
def dbk (h : glOk sc x = true) : (x == ("__debug__" : Str)) = false := by
 unfold glOk at h
 (simp only [Bool.and_eq_true, Bool.not_eq_true'] at h)
 exact h.1.2
def nmk (h : glOk sc x = true) : x ≠ "__name__" := by
 unfold glOk at h
 (simp only [Bool.and_eq_true, Bool.not_eq_true'] at h)
 intro e
 have := h.2
 rw [e, beq_self_eq_true] at this
 cases this
def ZjE (h : Zv sc N i x b = true) (nd : N.Nodup) (e1 : X.env.scope = sc := by rfl) (e2 : X.N = N := by rfl) (hf : X.fn x = true \/ b = false := by first | exact .inl rfl | exact .inr rfl) : PG X (.Name x pos) (Zcf i) := by
 obtain ⟨h1, h2, h3, h4⟩ := Zv.at h
 have l := Zv.loc h
 subst e1 e2
 refine ZgV nd h1 l ?_
 rcases hf with q | q
 . exact .inl q
 . subst q
   exact .inr h2
noncomputable def Zdf (osc scope : Scope) (x : Str) : Bool := osc.kind == .function && osc.names.lookup x == some .local && !(scope.names.any fun (n, k) => n == x && (k == .local || k == .cell))
def ZhR (h : Zdf osc scope x = true) (hl : (pos'.line == pos.line) = true) (e : env.scope = osc) :
 swapsWith (.ListComp elt gens scope pos) (some (.Name x pos')) line env = pure true := by
 subst e
 unfold Zdf at h
 (simp only [Bool.and_eq_true, Bool.not_eq_true'] at h)
 obtain ⟨⟨h1, h2⟩, h3⟩ := h
 show (pure (env.blockKind == .function && env.kindOf x == some .local && pos'.line == pos.line && !(scope.names.any fun (n, k) => n == x && (k == .local || k == .cell))) : Sem Bool) = pure true
 have hb : (env.blockKind == ScopeKind.function) = true := by
  unfold Env.blockKind
  rw [eq_of_beq h1]
  rfl
 have hk : (env.kindOf x == some NameKind.local) = true := h2
 rw [hb, hk, hl, h3]
 rfl
def ZjF
 (h : Zv sc N i x false = true) (nd : N.Nodup) (hw : Zdf sc scope x = true)
 (hc : X.calm = true) (S : CompScope X k js N' scope) (hit : PI X tg iter wi)
 (hin : ∀ (cl : List (Str × Addr)) (C : Addr) (s₀ : Shared) (H₀ : Hp) (ex : List Addr), PG (cxC X N' scope cl C s₀ H₀ ex) tg g /\ PIf (cxC X N' scope cl C s₀ H₀ ex) ifs tif /\ PE (cxC X N' scope cl C s₀ H₀ ex) elt te)
 (hl : (pos'.line == pos.line) = true := by rfl) (e1 : X.env.scope = sc := by rfl) (e2 : X.N = N := by rfl)
 (hs : ∀ x, foldedSetIterable iter X.env x = pure x := by intro _; rfl) : PS X (.Assign [.Name x pos'] (.ListComp elt [⟨tg, iter, ifs, 0⟩] scope pos) spos) (tAsg (Zf0 k js wi g tif te) (Zcf i)) := by
 obtain ⟨h1, h2, h3, h4⟩ := Zv.at h
 have l := Zv.loc h
 have w := fun (e : X.env.scope = sc) => ZhR (elt := elt) (gens := [⟨tg, iter, ifs, 0⟩]) (pos := pos) (line := spos.line) hw hl e
 have w1 := w e1
 subst e1 e2
 exact Zl3 nd h1 l hc S hit hin w1 (.inr h2) hs
end
end L2
namespace L2
open PySem
variable {s : Shared} {t' : Nat} {fp : List Addr}
section
variable {prog : Program} {w : World} {A : Around} {E : VS}
def Zl6 (he : IsEnum s.heap e it c old) (hi : s.heap.IsListIter it l i) (hl : s.heap.IsList l its) (hx : its[i]? = some x) (ne : e ≠ it)
 (hQ : ∀ h', IsEnumOut h' e it (c + 1) x s.heap.objs.size -> h'.IsListIter it l (i + 1) -> h'.get? s.heap.objs.size = some { cls := .type "tuple", data := .seq #[.int c s.toks, x] } ->
  (∀ b o, b ≠ e -> b ≠ it -> s.heap.get? b = some o -> h'.get? b = some o) -> Q (some (.ref s.heap.objs.size)) { s with heap := h', toks := s.toks + 1 }) : wpAny (model prog w) A (pyNext (.ref e)) Q E s := by
 (have hT : s.TypeIs (.ref e) "enumerate" := ⟨_, he, rfl⟩)
 unfold pyNext
 refine wpAny_bind (wpAny_attempt (wpAny_callSpecial?_slot (name := Str.ofString "__next__") hT F.slot_enumerate_next (wpAny_call_entry F.slot_enumerate_next hT F.entry_enumerate_next ?_ (F.args_enumerate_next_1 _))))
 obtain ⟨hp, gs, dr, tk, os⟩ := s
 (have hel : e < hp.objs.size := Heap.lt_size he)
 show wpAny (model prog w) A.in1 (field (.ref e) 2 >>= _) _ _ _
 refine wpAny_bind (wpAny_field he rfl (x := .ref it) rfl (wpAny_bind (wpAny_nextOf_list_item hi hl hx fun g1 i1 k1 => ?_)))
 replace k1 : Heap.SameBut it hp g1 := k1
 have e1 : IsEnum g1 e it c old := (k1.2 e ne).trans he
 show wpAny (model prog w) A.in1 (field (.ref e) 3 >>= _) _ _ ⟨g1, gs, dr, tk, os⟩
 refine wpAny_bind (wpAny_field e1 rfl (x := rawInt c) rfl ?_)
 show wpAny (model prog w) A.in1 (field (.ref e) 4 >>= _) _ _ ⟨g1, gs, dr, tk, os⟩
 refine wpAny_bind (wpAny_field e1 rfl (x := .none) rfl ?_)
 show wpAny (model prog w) A.in1 (mkInt c >>= _) _ _ ⟨g1, gs, dr, tk, os⟩
 (refine wpAny_bind (wpAny_mkInt ?_))
 show wpAny (model prog w) A.in1 (setField (.ref e) 3 (rawInt (c + 1)) >>= _) _ _ ⟨g1, gs, dr, tk + 1, os⟩
 refine wpAny_bind (wpAny_setField_rec e1 (by simp) fun g2 e2 k2 => ?_)
 replace k2 : Heap.SameBut e g1 g2 := k2
 replace e2 : IsEnum g2 e it (c + 1) old := e2
 show wpAny (model prog w) A.in1 (setField (.ref e) 4 .none >>= _) _ _ ⟨g2, gs, dr, tk + 1, os⟩
 refine wpAny_bind (wpAny_setField_rec e2 (by simp) fun g3 e3 k3 => ?_)
 replace k3 : Heap.SameBut e g2 g3 := k3
 replace e3 : IsEnum g3 e it (c + 1) old := e3
 have z3 : g3.objs.size = hp.objs.size := by rw [k3.1, k2.1, k1.1]
 show wpAny (model prog w) A.in1 (newTuple [.int c tk, x] >>= _) _ _ ⟨g3, gs, dr, tk + 1, os⟩
 (refine wpAny_bind (wpAny_newTuple ?_))
 have e4 : IsEnum (g3.push { cls := .type "tuple", data := .seq #[.int c tk, x] }) e it (c + 1) old := Heap.get?_push_of_some _ e3
 have t4 : (g3.push { cls := .type "tuple", data := .seq #[.int c tk, x] }).get? hp.objs.size = some { cls := .type "tuple", data := .seq #[.int c tk, x] } := by rw [<- z3]; exact Heap.get?_push_size _ rfl
 have i4 : (g3.push { cls := .type "tuple", data := .seq #[.int c tk, x] }).IsListIter it l (i + 1) := by
  obtain ⟨o, ho, r⟩ := (i1.extBut k2.extBut (Ne.symm ne)).extBut k3.extBut (Ne.symm ne)
  exact ⟨o, Heap.get?_push_of_some _ ho, r⟩
 have b4 : ∀ b o, b ≠ e -> b ≠ it -> hp.get? b = some o -> (g3.push { cls := .type "tuple", data := .seq #[.int c tk, x] }).get? b = some o := fun b o n1 n2 y => Heap.get?_push_of_some _ (k3.extBut b o n1 (k2.extBut b o n1 (k1.extBut b o n2 y)))
 generalize g3.push { cls := .type "tuple", data := .seq #[.int c tk, x] } = g4 at e4 t4 i4 b4 ⊢
 rw [z3]
 show wpAny (model prog w) A.in1 (Builtin.SmallTypes.ownedTupleIsFree (.ref e) >>= _) _ _ ⟨g4, gs, dr, tk + 1, os⟩
 clear e3 k3 e2 k2 e1 k1 i1 z3 g3 g2 g1
 refine wpAny_bind ?_
 (unfold Builtin.SmallTypes.ownedTupleIsFree)
 refine wpAny_bind (wpAny_field e4 rfl (x := .none) rfl (wpAny_pure ?_))
 simp only [if_true]
 refine wpAny_bind (wpAny_rule (wpAny_bind (wpAny_field e4 rfl (x := old) rfl (wpAny_bind (wpAny_setField_rec e4 (by simp) fun g5 e5 k5 => ?_)))))
 replace k5 : Heap.SameBut e g4 g5 := k5
 replace e5 : IsEnum g5 e it (c + 1) x := e5
 show wpAny (model prog w) A.in1 (Builtin.SmallTypes.ownedTupleHandOut (.ref e) (.ref hp.objs.size) >>= _) _ _ ⟨g5, gs, dr, tk + 1, os⟩
 refine wpAny_bind ?_
 (unfold Builtin.SmallTypes.ownedTupleHandOut)
 refine wpAny_bind (wpAny_setField_rec e5 (by simp) fun g6 e6 k6 => ?_)
 replace k6 : Heap.SameBut e g5 g6 := k6
 replace e6 : IsEnumOut g6 e it (c + 1) x hp.objs.size := e6
 refine wpAny_setField_rec e6 (by simp) fun g7 e7 k7 => ?_
 replace k7 : Heap.SameBut e g6 g7 := k7
 replace e7 : IsEnumOut g7 e it (c + 1) x hp.objs.size := e7
 have up : ∀ b o, b ≠ e -> g4.get? b = some o -> g7.get? b = some o := fun b o n y => k7.extBut b o n (k6.extBut b o n (k5.extBut b o n y))
 refine wpAny_bind (wpAny_letGo (wpAny_pure ⟨_, rfl, wpAny_pure (hQ g7 e7 ?_ (up _ _ (Nat.ne_of_gt hel) t4) fun b o n1 n2 y => up b o n1 (b4 b o n1 n2 y))⟩))
 exact ((i4.extBut k5.extBut (Ne.symm ne)).extBut k6.extBut (Ne.symm ne)).extBut k7.extBut (Ne.symm ne)
def Znz (hh : A.handled = none) (he : IsEnum s.heap e it c old) (hi : s.heap.IsListIter it l i) (hl : s.heap.IsList l its) (hx : its[i]? = none)
 (hQ : ∀ g, Heap.ExtBut it s.heap g -> Q none { s with heap := g }) : wpAny (model prog w) A (pyNext (.ref e)) Q E s := by
 (have hT : s.TypeIs (.ref e) "enumerate" := ⟨_, he, rfl⟩)
 unfold pyNext
 refine wpAny_bind (wpAny_attempt (wpAny_callSpecial?_slot (name := Str.ofString "__next__") hT F.slot_enumerate_next (wpAny_call_entry F.slot_enumerate_next hT F.entry_enumerate_next ?_ (F.args_enumerate_next_1 _))))
 show wpAny (model prog w) A.in1 (field (.ref e) 2 >>= _) _ _ _
 refine wpAny_bind (wpAny_field he rfl (x := .ref it) rfl (wpAny_bind (wpAny_nextOf_list_end hh hi hl hx fun h' y b1 z0 => ?_)))
 obtain ⟨o, b2, b3⟩ := z0
 exact wpAny_bind (wpAny_isInstance (T := "StopIteration") (b := true) ⟨o, b2, b3⟩ isSubtype_stop (wpAny_pure (hQ _ b1)))
end
open PySem.Spec
section
variable {X : Cx} {pins : Pn} {σ : St} {H : Hp} {h' : Heap}
def Inv.turnedL (I : Inv X pins σ H s) (k : ∀ b o, b ∉ fp -> s.heap.get? b = some o -> h'.get? b = some o) (hf : ∀ b ∈ fp, FpOk X pins H b) : Inv X pins σ H { s with heap := h', toks := t' } := by
 have nf : ∀ b u, H b = some u -> b ∉ fp := fun b u e z => by rw [(hf b z).1] at e; cases e
 have hL : X.env.locals ∉ fp := fun z => (hf _ z).2.1 rfl
 refine I.step (g' := s.gens) (d' := s.drawn) (ch := fp) (fun b hb => ?_) (fun b o _ _ hc e _ => k b o hc e) (fun b o _ _ hc e _ => ⟨o.slots, k b o hc e⟩) (fun _ _ _ _ n => n) (fun b o hc e => ⟨o, k b o hc e⟩)
  (fun _ _ e => e) (fun _ _ _ e => e) (fun b ps e => ⟨#[], by rw [e]; simp⟩) (fun m hm => ?_) (fun b u e => ?_) I.bare
 . obtain ⟨f0, f1, f2, f3, f4, f5⟩ := hf b hb
   exact ⟨f3, f1, f4, f5⟩
 . obtain ⟨o, es, ep, ho, r⟩ := hm
   exact ⟨o, es, ep, k _ o hL ho, r⟩
 . refine (I.hok b u e).stay (fun c v hc q => k c v ?_ q) (fun _ q => q) fun _ _ q => q
   exact hc.elim (fun z => by rw [z]; exact nf b u e) fun z => nf c _ z
def ZgL {h : Heap} {o o' : Obj} {b : Addr} (hb : b < h.objs.size) (e : (h.push o).get? b = some o') : h.get? b = some o' := by
 (obtain ⟨e1, e2⟩ := Heap.get?_some_iff.mp e)
 refine Heap.get?_some_iff.mpr ⟨?_, e2⟩
 cases h
 simpa [Heap.push, Array.getElem?_push, Nat.ne_of_lt hb] using e1
def Inv.laidT {xs : List V} {us : List Value} (I : Inv X pins σ H s) (r : Vals xs us) (hz : xs.length <= sizeLine) (ht : h'.get? s.heap.objs.size = some { cls := .type "tuple", data := .seq us.toArray })
 (k : ∀ b o, b ∉ fp -> s.heap.get? b = some o -> h'.get? b = some o) (hf : ∀ b ∈ fp, FpOk X pins H b) (hlt : ∀ b ∈ fp, b < s.heap.objs.size) : Inv X pins σ (upd H s.heap.objs.size (.tup xs)) { s with heap := h', toks := t' } := by
 have I1 : Inv X pins σ (upd H s.heap.objs.size (.tup xs)) { s with heap := s.heap.push { cls := .type "tuple", data := .seq us.toArray }, toks := t' } :=
  I.laid (fun b u e => Heap.get?_push_of_some _ e) (Nat.le_refl _) ⟨hz, us, r, ⟨_, Heap.get?_push_size _ rfl, rfl, _, rfl⟩⟩
 refine (fun (go : ∀ b o, b ∉ fp -> (s.heap.push { cls := .type "tuple", data := .seq us.toArray }).get? b = some o -> h'.get? b = some o) => ?_) fun b o hb e => ?_
 . exact Inv.turnedL (s := { s with heap := s.heap.push { cls := .type "tuple", data := .seq us.toArray }, toks := t' }) (fp := fp) (t' := t') (h' := h') I1 go fun b hb => ⟨by rw [Zk (Nat.ne_of_lt (hlt b hb))]; exact (hf b hb).1, (hf b hb).2⟩
 . by_cases hq : b = s.heap.objs.size
   . subst hq
     rw [Heap.get?_push_size _ rfl] at e
     rw [<- e]
     exact ht
   . have : b < s.heap.objs.size := by
      have := Heap.lt_size e
      rw [Heap.size_push] at this
      exact Nat.lt_of_le_of_ne (Nat.le_of_lt_succ this) hq
     exact k b o hb (ZgL this e)
end
noncomputable def Ite (K : Fg) (a : Addr) (c : Int) : It where
 go i H := ∃ xs x, SqL K H a xs /\ xs[i]? = some x
 yld i H x H' := ∃ A y, x = .ref A /\ H A = none /\ H' = upd H A (.tup [.int (c + i), y]) /\ ∀ xs, SqL K H a xs -> xs[i]? = some y
 stop i H := ∃ xs, SqL K H a xs /\ xs.length <= i
def ZiG {P : Program} {w : World} {K : Fg} {es : List Expr} {k1 : Nat} {pos : Pos} (a e it : Addr) (c : Int) (ne : e ≠ it) : Turn P w K (.Tuple es k1 pos) (Ite K a c) [e, it] e (fun i h => (∃ old, IsEnum h e it (c + (i : Nat)) old) /\ h.IsListIter it a i) where
 mem := by simp
 obj := fun i h st b hb => by
  obtain ⟨⟨old, he⟩, o, e1, e2, e3⟩ := st
  (rcases List.mem_cons.mp hb with rfl | hb)
  . exact ⟨_, he, fun v z => by
     have z' : Data.fields _ = Data.cell v := z
     cases z'⟩
  . have : b = it := by simpa using hb
    subst this
    exact ⟨o, e1, fun v z => by rw [e3] at z; cases z⟩
 keep := fun i h h' st k => ⟨st.1.imp fun old he => k e (by simp) _ he, st.2.at fun o y => k it (by simp) o y⟩
 item := by
  intro X hP hw hK hc i pins s σ H E I hf st hg
  subst hP hw hK
  obtain ⟨xs, x, hq, hx⟩ := hg
  obtain ⟨its, rv, p, hz⟩ := I.list hq
  obtain ⟨u, hu, ru⟩ := rv.get hx
  obtain ⟨⟨old, he⟩, hi⟩ := st
  have le : e < s.heap.objs.size := Heap.lt_size he
  have li : it < s.heap.objs.size := by obtain ⟨_, y, _⟩ := hi; exact Heap.lt_size y
  have lt : ∀ b ∈ [e, it], b < s.heap.objs.size := fun b hb => by
   (rcases List.mem_cons.mp hb with rfl | hb)
   . exact le
   . rw [List.mem_singleton.mp hb]; exact li
  refine Zl6 he hi p.isList (x := u) (by simpa using hu) ne fun h' ho hi' ht hk => ⟨_, rfl, ?_⟩
  refine wpAny_letOwnedTupleGo_enum ho fun h2 he2 hs2 => ?_
  have up : ∀ b o, b ≠ e -> h'.get? b = some o -> h2.get? b = some o := fun b o n y => hs2.extBut b o n y
  have I2 := I.laidT (fp := [e, it]) (h' := h2) (t' := s.toks + 1) (xs := [.int (c + i), x]) (us := [.int (c + i) s.toks, u]) (.cons ⟨_, rfl⟩ (.cons ru .nil)) (by simp [sizeLine])
   (up _ _ (Nat.ne_of_gt le) ht) (fun b o hb y => up b o (fun z => hb (by simp [z])) (hk b o (fun z => hb (by simp [z])) (fun z => hb (by simp [z])) y)) hf lt
  refine ⟨.ref s.heap.objs.size, _, I2, rfl, ⟨_, x, rfl, I.hok.fresh (Nat.le_refl _), rfl, fun ys hy => by rw [I.list_inj hy hq]; exact hx⟩, ⟨⟨u, ?_⟩, hi'.at fun o y => up it o (Ne.symm ne) y⟩, fun b hb => ?_⟩
  . have z : c + ((i + 1 : Nat) : Int) = c + i + 1 := by omega
    rw [z]
    exact he2
  . rw [Zk (Nat.ne_of_lt (lt b hb))]
    exact (hf b hb).1
 done := by
  intro X hP hw hK hc i pins s σ H E I hf st hg
  subst hP hw hK
  obtain ⟨xs, hq, hx⟩ := hg
  obtain ⟨its, rv, p, hz⟩ := I.list hq
  obtain ⟨⟨old, he⟩, hi⟩ := st
  have hl := rv.length
  exact Znz (I.ok.hd hc) he hi p.isList (by simp; omega) fun h' eb => ⟨rfl, I.turnedL (t' := s.toks) (fun b o hb y => eb b o (fun z => hb (by simp [z])) y) hf⟩
 self := fun _ _ _ _ _ st h => by
  obtain ⟨⟨old, he⟩, _⟩ := st
  exact wpAny_pyIter_enum he h
section
noncomputable def ZkA (K : Fg) (c : Int) (t : TA) : TI := fun σ H R => t σ H fun vs H1 => ∃ a, vs = [.ref a] /\ (∃ xs, SqL K H1 a xs) /\ R (Ite K a c) H1
def Zp4 (I : Inv X pins σ H s) (he : IsEnum h' (s.heap.objs.size + 1) s.heap.objs.size c .none) (hi : h'.IsListIter s.heap.objs.size a 0)
 (hk : ∀ b o, s.heap.get? b = some o -> h'.get? b = some o) (z : R (Ite X.K a c) H) : wpAny (model X.prog X.w) X.A (pyIter (.ref (s.heap.objs.size + 1))) (PIE X pins σ (.Tuple es k1 q) R) E { s with heap := h' } := by
 refine wpAny_pyIter_enum he ⟨_, [s.heap.objs.size + 1, s.heap.objs.size], _, _, H, rfl, I.kept (t' := s.toks) hk, ZiG a _ _ c (Nat.succ_ne_self _), ⟨⟨_, by simpa using he⟩, hi⟩, fun b hb => ?_, z⟩
 have : s.heap.objs.size <= b := by
  (rcases List.mem_cons.mp hb with rfl | hb)
  . omega
  . rw [List.mem_singleton.mp hb]; exact Nat.le_refl _
 exact I.fpOk this (I.hok.fresh this)
theorem Zl7 (hg : Gl X "enumerate") (hm : X.mg "enumerate" = none) (ha : PA X [l] t) (hs : starEach [l] X.env = [(false, eval l X.env)] := by rfl) : PI X (.Tuple es k1 q) (.Call (.Name "enumerate" p) [l] [] pos) (ZkA X.K 0 t) := by
 intro pins s σ H R I h
 refine PyProof.Rows.Call_ (Zcx I hg hm PyProof.Rows.boot_enumerate (PyProof.Rows.callWith_type1 (thn (ha pos pins s σ H _ I h) fun us s1 z0 => ?_) hs rfl))
 obtain ⟨vs, H1, I1, r1, q1⟩ := z0
 obtain ⟨a, e, ⟨xs, hq⟩, z⟩ := q1
 subst e
 cases r1 with
 | cons r rr =>
  cases rr
  cases r
  obtain ⟨its, rv, pl, hz⟩ := I1.list hq
  exact call_enumerate_list pl.isList fun h' he hi _ hk => Zp4 I1 he hi hk z
end
end L2
namespace T
open PySem L2
variable {H Hs H' H1 Hs1 Hs' H2 Hs2 : Hp} {σ : St} {vs : List V} {δ ds δ' δ1 δ2 : List D} {X : Cx} {pos : Pos} {m1 m2 M' m' : Bud} {fi : FI} {α : Type} {w1 w2 : W} {j : Nat} {lend : Bool}
inductive Kd where
 | lst | frl | tup | ftp | dic (ks : List Key) | ins (C : Addr) (fs : List Str) | exc (ns : List Str) (fr : Bool) (fs : List Str)
 deriving DecidableEq
inductive D where
 | sc (v : V) | hole | node (k : Kd) (o : Bool) (ds : List D)
mutual
noncomputable def shr : D -> D
 | .sc v => .sc v
 | .hole => .hole
 | .node k _ ds => .node k false (shrL ds)
noncomputable def shrL : List D -> List D
 | [] => []
 | d :: ds => shr d :: shrL ds
end
def ZcM (K : Fg) (H : Hp) (a : Addr) (vs : List V) : Kd -> Prop
 | .lst => H a = some (.lst vs)
 | .frl => SqL K H a vs
 | .tup => H a = some (.tup vs)
 | .ftp => SqT K H a vs
 | .dic ks => ks.length = vs.length /\ H a = some (.dK (ks.zip vs))
 | .ins C fs => fs.length = vs.length /\ ∃ dx, H a = some (.ins C dx (fs.zip vs))
 | .exc ns fr fs => fs.length = vs.length /\ ∃ C dx, XN K ns C /\ H a = some (.exc C dx fr (fs.zip vs))
def Za2 (K : Fg) (H : Hp) (a : Addr) (vs : List V) : Kd -> Prop
 | .lst => H a = some (.lst vs)
 | .frl => False
 | .tup => H a = some (.tup vs)
 | .ftp => False
 | .dic ks => ks.length = vs.length /\ H a = some (.dK (ks.zip vs))
 | .ins C fs => fs.length = vs.length /\ ∃ dx, H a = some (.ins C dx (fs.zip vs))
 | .exc ns fr fs => fs.length = vs.length /\ ∃ C dx, XN K ns C /\ H a = some (.exc C dx fr (fs.zip vs))
theorem Za2.r {K : Fg} {a : Addr} {k : Kd} (h : Za2 K H a vs k) : ZcM K H a vs k := by
 cases k with
 | lst => exact h
 | frl => exact h.elim
 | tup => exact h
 | ftp => exact h.elim
 | dic ks => exact h
 | ins C fs => exact h
 | exc ns fr fs => exact h
theorem Za2.at {K : Fg} {a : Addr} {k : Kd} (h : Za2 K H a vs k) : H a ≠ none := by
 cases k with
 | lst => rw [show H a = _ from h]; simp
 | frl => exact h.elim
 | tup => rw [show H a = _ from h]; simp
 | ftp => exact h.elim
 | dic ks => rw [h.2]; simp
 | ins C fs => obtain ⟨_, dx, e⟩ := h; rw [e]; simp
 | exc ns fr fs => obtain ⟨_, C, dx, _, e⟩ := h; rw [e]; simp
theorem Za2.eq {K : Fg} {a : Addr} {k : Kd} (h : Za2 K H a vs k) (e : H' a = H a) : Za2 K H' a vs k := by
 cases k with
 | lst => exact e.trans h
 | frl => exact h.elim
 | tup => exact e.trans h
 | ftp => exact h.elim
 | dic ks => exact ⟨h.1, e.trans h.2⟩
 | ins C fs => obtain ⟨l, dx, q⟩ := h; exact ⟨l, dx, e.trans q⟩
 | exc ns fr fs => obtain ⟨l, C, dx, x, q⟩ := h; exact ⟨l, C, dx, x, e.trans q⟩
def Same.tupq' {K : Fg} {a : Addr} {xs : List V} (e : Same H H') (h : SqT K H a xs) : SqT K H' a xs := by
 rcases h with (h | ⟨o, h⟩) | h
 . exact .inl (.inl (e _ _ h))
 . exact .inl (.inr ⟨o, e _ _ h⟩)
 . exact .inr h
theorem ZcM.same {K : Fg} {a : Addr} {k : Kd} (e : Same H H') (h : ZcM K H a vs k) : ZcM K H' a vs k := by
 cases k with
 | lst => exact e _ _ h
 | frl => exact e.seq h
 | tup => exact e _ _ h
 | ftp => exact Same.tupq' e h
 | dic ks => exact ⟨h.1, e _ _ h.2⟩
 | ins C fs => obtain ⟨l, dx, q⟩ := h; exact ⟨l, dx, e _ _ q⟩
 | exc ns fr fs => obtain ⟨l, C, dx, x, q⟩ := h; exact ⟨l, C, dx, x, e _ _ q⟩
abbrev Bud := Addr -> Nat
noncomputable def one (a : Addr) : Bud := fun b => if b = a then 1 else 0
mutual
inductive Rep (K : Fg) (H Hs : Hp) : V -> D -> Bud -> Prop
 | sc (v : V) (m : Bud) : Rep K H Hs v (.sc v) m
 | hole (v : V) (m : Bud) : Rep K H Hs v .hole m
 | own {a : Addr} {k : Kd} {vs : List V} {ds : List D} {m m' : Bud} : Za2 K H a vs k -> RepL K H Hs vs ds m' -> (∀ b, one a b + m' b <= m b) -> Rep K H Hs (.ref a) (.node k true ds) m
 | shd {a : Addr} {k : Kd} {vs : List V} {ds : List D} {m : Bud} : ZcM K Hs a vs k -> RepL K H Hs vs ds (fun _ => 0) -> Rep K H Hs (.ref a) (.node k false ds) m
inductive RepL (K : Fg) (H Hs : Hp) : List V -> List D -> Bud -> Prop
 | nil (m : Bud) : RepL K H Hs [] [] m
 | cons {v : V} {d : D} {vs : List V} {ds : List D} {m1 m2 m : Bud} : Rep K H Hs v d m1 -> RepL K H Hs vs ds m2 -> (∀ b, m1 b + m2 b <= m b) -> RepL K H Hs (v :: vs) (d :: ds) m
end
structure Good (H Hs : Hp) (M : Bud) : Prop where
 sub : Same Hs H
 le : ∀ b, M b <= 1
 ne : ∀ b, M b = 1 -> Hs b = none
 has : ∀ b, M b = 1 -> H b ≠ none
structure Stp (H Hs : Hp) (M : Bud) (H' Hs' : Hp) (M' : Bud) : Prop where
 keep : ∀ b o, H b = some o -> M b = 0 -> H' b = some o
 own : ∀ b, M' b = 1 -> M b = 1 \/ H b = none
 grow : Same Hs Hs'
 shr : ∀ b, Hs b = none -> Hs' b ≠ none -> M b = 1 \/ H b = none
 stay : ∀ b, H b ≠ none -> H' b ≠ none
section
variable {K : Fg} {M M1 M2 m : Bud}
mutual
theorem Rep.mono : ∀ {v : V} {d : D} {m m' : Bud}, Rep K H Hs v d m -> (∀ b, m b <= m' b) -> Rep K H Hs v d m'
 | _, _, _, _, .sc v _, _ => .sc v _
 | _, _, _, _, .hole v _, _ => .hole v _
 | _, _, _, _, .own n r h, l => .own n r fun b => Nat.le_trans (h b) (l b)
 | _, _, _, _, .shd n r, _ => .shd n r
end
theorem RepL.mono {m : Bud} (h : RepL K H Hs vs ds m) (l : ∀ b, m b <= m' b) : RepL K H Hs vs ds m' := by
 cases h with
 | nil => exact .nil _
 | cons a b c => exact .cons a b fun x => Nat.le_trans (c x) (l x)
mutual
theorem Rep.frame (g : Same Hs Hs') : ∀ {v : V} {d : D} {m : Bud}, (∀ b, m b ≥ 1 -> H b ≠ none -> H' b = H b) -> Rep K H Hs v d m -> Rep K H' Hs' v d m
 | _, _, _, _, .sc v _ => .sc v _
 | _, _, _, _, .hole v _ => .hole v _
 | _, _, m, k, .own (a := a) (m' := m') n r h => by
  have h1 : m a ≥ 1 := by have := h a; simp only [one, if_pos] at this; omega
  refine .own (n.eq (k a h1 n.at)) (RepL.frame g (fun b hb hn => k b ?_ hn) r) h
  have := h b
  omega
 | _, _, _, k, .shd n r => .shd (n.same g) (RepL.frame g (fun b hb => absurd hb (by simp)) r)
theorem RepL.frame (g : Same Hs Hs') : ∀ {vs : List V} {ds : List D} {m : Bud}, (∀ b, m b ≥ 1 -> H b ≠ none -> H' b = H b) -> RepL K H Hs vs ds m -> RepL K H' Hs' vs ds m
 | _, _, _, _, .nil _ => .nil _
 | _, _, m, k, .cons (m1 := m1) (m2 := m2) x y h => by
  refine .cons (Rep.frame g (fun b hb => k b ?_) x) (RepL.frame g (fun b hb => k b ?_) y) h
  . have := h b; omega
  . have := h b; omega
end
def Good.drop (g : Good H Hs M) (l : ∀ b, M' b <= M b) : Good H Hs M' :=
 ⟨g.sub, fun b => Nat.le_trans (l b) (g.le b), fun b h => g.ne b (by have := l b; have := g.le b; omega), fun b h => g.has b (by have := l b; have := g.le b; omega)⟩
def Stp.drop (s : Stp H Hs M H' Hs' M1) (l : ∀ b, M2 b <= M1 b) (le : ∀ b, M1 b <= 1) : Stp H Hs M H' Hs' M2 :=
 ⟨s.keep, fun b h => s.own b (by have := l b; have := le b; omega), s.grow, s.shr, s.stay⟩
def Stp.refl (H Hs : Hp) (M : Bud) : Stp H Hs M H Hs M := ⟨fun _ _ h _ => h, fun _ h => .inl h, Same.refl _, fun _ h h' => absurd h h', fun _ h => h⟩
def Zq (g : Good H Hs M) (g1 : Good H1 Hs1 (fun b => m1 b + M1 b)) (s1 : Stp H Hs M H1 Hs1 (fun b => m1 b + M1 b)) (g2 : Good H2 Hs2 M2) (s2 : Stp H1 Hs1 M1 H2 Hs2 M2) :
 Good H2 Hs2 (fun b => m1 b + M2 b) /\ Stp H Hs M H2 Hs2 (fun b => m1 b + M2 b) /\ (∀ b, m1 b ≥ 1 -> H1 b ≠ none -> H2 b = H1 b) := by
 have d : ∀ b, m1 b = 1 -> M2 b = 0 := fun b h => by
  have l1 : m1 b + M1 b <= 1 := g1.le b
  have l2 := g2.le b
  have : M2 b ≠ 1 := fun e => by
   rcases s2.own b e with q | q
   . omega
   . exact g1.has b (by show m1 b + M1 b = 1; omega) q
  omega
 have k1 : ∀ b, m1 b ≥ 1 -> H1 b ≠ none -> H2 b = H1 b := fun b h n => by
  have l1 : m1 b + M1 b <= 1 := g1.le b
  cases q : H1 b with
  | none => exact absurd q n
  | some o => exact s2.keep b o q (by omega)
 refine ⟨⟨g2.sub, fun b => ?_, fun b h => ?_, fun b h => ?_⟩, ⟨fun b o e z => ?_, fun b h => ?_, s1.grow.trans s2.grow, fun b n n' => ?_, fun b n => s2.stay b (s1.stay b n)⟩, k1⟩
 . have l1 : m1 b + M1 b <= 1 := g1.le b
   have l2 := g2.le b
   show m1 b + M2 b <= 1
   by_cases h : m1 b = 1
   . have := d b h; omega
   . omega
 . have h : m1 b + M2 b = 1 := h
   have l1 : m1 b + M1 b <= 1 := g1.le b
   by_cases h1 : m1 b = 1
   . cases q : Hs2 b with
     | none => rfl
     | some o =>
      have n1 : Hs1 b = none := g1.ne b (by show m1 b + M1 b = 1; omega)
      rcases s2.shr b n1 (by rw [q]; simp) with z | z
      . omega
      . exact absurd z (g1.has b (by show m1 b + M1 b = 1; omega))
   . exact g2.ne b (by omega)
 . have h : m1 b + M2 b = 1 := h
   have l1 : m1 b + M1 b <= 1 := g1.le b
   by_cases h1 : m1 b = 1
   . have n := g1.has b (by show m1 b + M1 b = 1; omega)
     rw [k1 b (by omega) n]; exact n
   . exact g2.has b (by omega)
 . have e1 := s1.keep b o e z
   have : ¬ (m1 b + M1 b = 1) := fun q => by
    rcases s1.own b q with w | w
    . omega
    . rw [e] at w; cases w
   have l1 : m1 b + M1 b <= 1 := g1.le b
   exact s2.keep b o e1 (by omega)
 . have h : m1 b + M2 b = 1 := h
   have l1 : m1 b + M1 b <= 1 := g1.le b
   by_cases h1 : m1 b = 1
   . exact s1.own b (by show m1 b + M1 b = 1; omega)
   . rcases s2.own b (by omega) with q | q
     . exact s1.own b (by show m1 b + M1 b = 1; omega)
     . cases w : H b with
       | none => exact .inr rfl
       | some o => exact absurd q (s1.stay b (by rw [w]; simp))
 . cases q : Hs1 b with
   | some o => exact s1.shr b n (by rw [q]; simp)
   | none =>
    rcases s2.shr b q n' with z | z
    . have l1 : m1 b + M1 b <= 1 := g1.le b
      exact s1.own b (by show m1 b + M1 b = 1; omega)
    . cases w : H b with
      | none => exact .inr rfl
      | some o => exact absurd z (s1.stay b (by rw [w]; simp))
end
inductive Rs (α : Type) where
 | ok (a : α) | exc (x : D) (δ : List D) | stuck
abbrev M (α : Type) := List D -> Rs (α × List D)
noncomputable def M.ret {α : Type} (a : α) : M α := fun δ => .ok (a, δ)
noncomputable def M.bnd {α β : Type} (c : M α) (f : α -> M β) : M β := fun δ => match c δ with
 | .ok (a, δ') => f a δ'
 | .exc x δ' => .exc x δ'
 | .stuck => .stuck
noncomputable def lift {α : Type} : Option α -> M α
 | some a => M.ret a
 | none => fun _ => .stuck
noncomputable def stk {α : Type} : M α := fun _ => .stuck
inductive Ty where
 | int | bool | str | list | tuple | dict | own (C : Addr)
 deriving DecidableEq
inductive BF where
 | len | str | int | list | all | any | isi (t : Ty) | isiX (c : Str) | isiV | xinit | xfld (f : Str) | minL
 deriving DecidableEq
inductive BM where
 | split | join
 deriving DecidableEq
inductive MM where
 | append | extend
 deriving DecidableEq
inductive IK where
 | rng1 | rng2 | val | enum
 deriving DecidableEq
inductive Tg where
 | name (i : Nat) | tup (is : List Nat)
structure FI where
 lend : Bool
 run : List D -> Rs (D × List D)
inductive E where
 | k (v : V)
 | g (d : D)
 | v (i : Nat)
 | bin (op : Operator) (a b : E)
 | neg (a : E)
 | cmp (op : CmpOp) (a b : E)
 | chain (op op' : CmpOp) (a b c : E)
 | isN (p : Bool) (a : E)
 | nt (a : E)
 | and (a b : E)
 | or (a b : E)
 | ife (c a b : E)
 | ix (a i : E)
 | sl (a lo hi : E)
 | fld (a : E) (f : Str)
 | lst (es : List E)
 | tup (es : List E)
 | kl (vs : List V)
 | dct0
 | call (f : FI) (es : List E)
 | bf (f : BF) (es : List E)
 | bm (m : BM) (o : E) (es : List E)
 | mut (m : MM) (i : Nat) (ps : List E) (es : List E)
 | meth (A : Addr) (m : Str) (f : FI) (o : E) (es : List E)
 | new (A : Addr) (f : FI) (es : List E)
 | comp (k : Nat) (js : List Nat) (tg : Tg) (ik : IK) (ies : List E) (cond : List E) (elt : E)
 | fs (es : List E)
 | dct1 (k : Key) (e : E)
inductive YE where
 | meth (A : Addr) (m : Str) (f : FI) (o : E) (es : List E)
inductive S where
 | asg (i : Nat) (e : E)
 | sub (i : Nat) (ps : List E) (ix : E) (e : E)
 | attr (i : Nat) (f : Str) (e : E)
 | ex (e : E)
 | ret (e : E)
 | retN
 | iff (c : E) (a b : List S)
 | for_ (tg : Tg) (ik : IK) (ies : List E) (body : List S)
 | pass | brk | cnt
 | raise (e : E)
 | asgX (i : Nat) (f : FI) (es : List E)
 | asgY (i : Nat) (y : YE)
 | exX (f : FI) (es : List E)
 | raiseI (ns : List Str) (f : FI) (es : List E)
 | attrX (i : Nat) (f : Str) (e : E)
 | forX (tg : Tg) (ik : IK) (ies : List E) (body : List S)
 | try_ (body : List S) (c : Str) (nm : Option Nat) (suite : List S)
inductive Op where
 | late (i : Nat) | tmp (d : D)
inductive W where
 | sc (v : V) | nd (k : Kd) (ds : List D)
noncomputable def ZK (i : Nat) : M Op := fun δ => match δ[i]? with
 | some (.sc _) => .ok (.late i, δ)
 | some (.node _ _ _) => .ok (.late i, δ)
 | _ => .stuck
noncomputable def Zn (e : E) (c : M D) : M Op := match e with
 | .v i => ZK i
 | _ => c.bnd fun d => M.ret (.tmp d)
noncomputable def view : Op -> M W
 | .tmp (.sc v) => M.ret (.sc v)
 | .tmp (.node k _ ds) => M.ret (.nd k ds)
 | .tmp .hole => stk
 | .late i => fun δ => match δ[i]? with
  | some (.sc v) => .ok (.sc v, δ)
  | some (.node k false ds) => .ok (.nd k ds, δ)
  | some (.node k true ds) => .ok (.nd k (shrL ds), δ.set i (.node k true (shrL ds)))
  | _ => .stuck
noncomputable def views : List Op -> M (List W)
 | [] => M.ret []
 | p :: ps => (view p).bnd fun w => (views ps).bnd fun ws => M.ret (w :: ws)
noncomputable def valV (i : Nat) : M D := fun δ => match δ[i]? with
 | some (.sc v) => .ok (.sc v, δ)
 | some (.node k false ds) => .ok (.node k false ds, δ)
 | some (.node k true ds) => .ok (.node k false (shrL ds), δ.set i (.node k false (shrL ds)))
 | _ => .stuck
noncomputable def newL (ds : List D) : Option D := if ds.length <= sizeLine then some (.node .lst true ds) else none
noncomputable def newT (ds : List D) : Option D := if ds.length <= sizeLine then some (.node .tup true ds) else none
noncomputable def ZdB (f : Int -> Int -> Option D) : W -> W -> Option D
 | .sc (.int i), .sc (.int j) => f i j
 | _, _ => none
noncomputable def addW : W -> W -> Option D
 | .sc (.int i), .sc (.int j) => some (.sc (.int (i + j)))
 | .sc (.str x), .sc (.str y) => if x.length + y.length <= sizeLine then some (.sc (.str (x ++ y))) else none
 | .nd .lst xs, .nd .lst ys => newL (xs ++ ys)
 | _, _ => none
noncomputable def Zcz : List D -> Option (List Int)
 | [] => some []
 | .sc (.int i) :: r => (Zcz r).map (i :: ·)
 | _ => none
noncomputable def mulW : W -> W -> Option D
 | .sc (.int i), .sc (.int j) => if (-(2 ^ 64) < i /\ i < 2 ^ 64) \/ (-(2 ^ 64) < j /\ j < 2 ^ 64) then some (.sc (.int (i * j))) else none
 | .nd .lst xs, .sc (.int n) => if -(2 ^ 63) <= n /\ n < 2 ^ 63 /\ xs.length * n.toNat <= sizeLine then (Zcz xs).map fun is => .node .lst true ((List.replicate n.toNat is).flatten.map fun i => .sc (.int i)) else none
 | _, _ => none
noncomputable def binW (op : Operator) : W -> W -> Option D := match op with
 | .Add => addW
 | .Sub => ZdB fun i j => some (.sc (.int (i - j)))
 | .Mult => mulW
 | .FloorDiv => ZdB fun i j => if 0 < j /\ j < 1073741824 then some (.sc (.int (i / j))) else none
 | .Mod => ZdB fun i j => if 0 < j then some (.sc (.int (i % j))) else none
 | .Pow => ZdB fun i j => if 0 <= j /\ j <= 1000000 /\ i.natAbs < 2 ^ 64 then some (.sc (.int (i ^ j.toNat))) else none
 | _ => fun _ _ => none
def ZcN (h : ZdB f x y = some d) : ∃ i j, x = .sc (.int i) /\ y = .sc (.int j) /\ f i j = some d := by
 unfold ZdB at h
 split at h
 . exact ⟨_, _, rfl, rfl, h⟩
 . cases h
noncomputable def cmpI (op : CmpOp) (i j : Int) : Option Bool := match op with
 | .Lt => some (decide (i < j)) | .LtE => some (decide (i <= j)) | .Gt => some (decide (j < i)) | .GtE => some (decide (j <= i))
 | _ => none
mutual
noncomputable def py : D -> Option PyData
 | .sc .non => some .none
 | .sc (.bl b) => some (.bool b)
 | .sc (.int i) => some (.int i)
 | .sc (.str x) => some (.str x)
 | .node .lst _ ds => (pyL ds).map .list
 | .node .frl _ ds => (pyL ds).map .list
 | .node .tup _ ds => (pyL ds).map .tuple
 | .node .ftp _ ds => (pyL ds).map .tuple
 | _ => none
noncomputable def pyL : List D -> Option (List PyData)
 | [] => some []
 | d :: ds => (py d).bind fun a => (pyL ds).map (a :: ·)
end
noncomputable def toD : W -> D
 | .sc v => .sc v
 | .nd k ds => .node k false ds
noncomputable def eqPy (a b : PyData) : Option Bool := if SeqAt.shaped a = true /\ SeqAt.shaped b = true then some (PyData.eqv a b) else none
noncomputable def eqW : W -> W -> Option Bool
 | .sc u, .sc v => if scal u v = true then some (decide (u = v)) else (py (.sc u)).bind fun a => (py (.sc v)).bind fun b => eqPy a b
 | x, y => (py (toD x)).bind fun a => (py (toD y)).bind fun b => eqPy a b
noncomputable def cmpW : CmpOp -> W -> W -> Option Bool
 | .Eq, x, y => eqW x y
 | .NotEq, x, y => (eqW x y).map (!·)
 | op, .sc (.int i), .sc (.int j) => cmpI op i j
 | _, _, _ => none
noncomputable def ixN' (n : Nat) (i : Int) : Option Nat := if 0 <= i then (if i < n then some i.toNat else none) else if -(n : Int) <= i then some (i + n).toNat else none
noncomputable def ixW : W -> W -> Option D
 | .nd .lst ds, .sc (.int i) => (ixN' ds.length i).bind fun j => ds[j]?
 | .nd .frl ds, .sc (.int i) => (ixN' ds.length i).bind fun j => ds[j]?
 | .nd .tup ds, .sc (.int i) => (ixN' ds.length i).bind fun j => ds[j]?
 | .nd .ftp ds, .sc (.int i) => (ixN' ds.length i).bind fun j => ds[j]?
 | .sc (.str z), .sc (.int i) => if z.length <= sizeLine then ((ixN' z.cps.toList.length i).bind fun j => z.cps.toList[j]?).map fun c => .sc (.str ⟨#[c]⟩) else none
 | _, _ => none
noncomputable def keyD : V -> Option Key
 | .int i => some (.inl i)
 | .str x => some (.inr x)
 | _ => none
noncomputable def Zah {α : Type} (k : Key) : List Key -> List α -> Option α
 | j :: ks, d :: ds => if j = k then some d else Zah k ks ds
 | _, _ => none
noncomputable def Zf2 {α : Type} (k : Key) (d : α) : List Key -> List α -> Option (List Key × List α)
 | [], [] => some ([k], [d])
 | j :: ks, x :: ds => if j = k then (if (ks.any fun j => decide (j = k)) = true then none else some (j :: ks, d :: ds)) else (Zf2 k d ks ds).map fun r => (j :: r.1, x :: r.2)
 | _, _ => none
noncomputable def ixD : W -> W -> Option D
 | .nd (.dic ks) ds, .sc v => (keyD v).bind fun k => Zah k ks ds
 | _, _ => none
noncomputable def ixW2 : W -> W -> Option D
 | .nd (.dic ks) ds, y => ixD (.nd (.dic ks) ds) y
 | x, y => ixW x y
noncomputable def inD (p : Bool) : W -> W -> Option Bool
 | .sc v, .nd (.dic ks) ds => (keyD v).map fun k => (Zah k ks ds).isSome == p
 | _, _ => none
noncomputable def Zat : CmpOp -> W -> W -> Option Bool
 | .In, x, y => inD true x y
 | .NotIn, x, y => inD false x y
 | op, x, y => cmpW op x y
noncomputable def Zcj (f : Str) : List Str -> List D -> Option D
 | g :: fs, d :: ds => if g = f then some d else Zcj f fs ds
 | _, _ => none
noncomputable def fldW (ok : Addr -> Str -> Bool) (f : Str) : W -> Option D
 | .nd (.ins C fs) ds => if ok C f then Zcj f fs ds else none
 | _ => none
noncomputable def truW : W -> Option Bool
 | .sc (.bl b) => some b
 | .sc (.int i) => some (decide (i ≠ 0))
 | .sc (.str x) => if x.length <= sizeLine then some (decide (x.length ≠ 0)) else none
 | .sc .non => some false
 | .nd .lst ds => some (!ds.isEmpty)
 | .nd .frl ds => some (!ds.isEmpty)
 | .nd .tup ds => some (!ds.isEmpty)
 | .nd .ftp ds => some (!ds.isEmpty)
 | .nd (.dic _) ds => some (!ds.isEmpty)
 | _ => none
noncomputable def tyW : Ty -> W -> Option Bool
 | .int, .sc (.int _) => some true | .int, .sc (.bl _) => some true | .int, .sc (.str _) => some false | .int, .sc .non => some false
 | .int, .nd .lst _ => some false | .int, .nd .tup _ => some false
 | .bool, .sc (.bl _) => some true | .bool, .sc (.int _) => some false | .bool, .sc (.str _) => some false | .bool, .sc .non => some false
 | .bool, .nd .lst _ => some false | .bool, .nd .tup _ => some false
 | .str, .sc (.str _) => some true | .str, .sc (.int _) => some false | .str, .sc (.bl _) => some false | .str, .sc .non => some false
 | .str, .nd .lst _ => some false | .str, .nd .tup _ => some false
 | .list, .nd .lst _ => some true | .list, .nd .tup _ => some false | .list, .sc (.int _) => some false | .list, .sc (.bl _) => some false | .list, .sc (.str _) => some false | .list, .sc .non => some false
 | .tuple, .nd .tup _ => some true | .tuple, .nd .lst _ => some false | .tuple, .sc (.int _) => some false | .tuple, .sc (.bl _) => some false | .tuple, .sc (.str _) => some false | .tuple, .sc .non => some false
 | _, _ => none
noncomputable def ZaC : List D -> Option (List Bool)
 | [] => some []
 | .sc (.bl b) :: r => (ZaC r).map (b :: ·)
 | _ => none
noncomputable def cutD (xs : List D) (lo hi : Option Int) : List D := (xs.drop (HT.sIx xs.length 0 lo)).take (HT.sIx xs.length xs.length hi - HT.sIx xs.length 0 lo)
noncomputable def slD : W -> Option Int -> Option Int -> Option D
 | .nd .lst ds, lo, hi => some (.node .lst true (cutD ds lo hi))
 | .nd .frl ds, lo, hi => some (.node .lst true (cutD ds lo hi))
 | .sc (.str z), lo, hi => if z.length <= sizeLine then some (.sc (.str (Txt.slice z lo hi))) else none
 | _, _, _ => none
noncomputable def intP : W -> Option (Option Int)
 | .sc (.int i) => some (some i)
 | _ => none
noncomputable def ZaP (e : E) (c : M Op) : M (Option Int) := match e with
 | .k .non => M.ret none
 | _ => (c.bnd view).bnd fun w => lift (intP w)
noncomputable def Zb6 : List D -> Option (List Str)
 | [] => some []
 | .sc (.str x) :: r => (Zb6 r).map (x :: ·)
 | _ => none
noncomputable def lenB : List W -> Option D
 | [.nd .lst ds] => some (.sc (.int ds.length))
 | [.nd .frl ds] => some (.sc (.int ds.length))
 | [.nd .tup ds] => some (.sc (.int ds.length))
 | [.nd .ftp ds] => some (.sc (.int ds.length))
 | [.nd (.dic _) ds] => some (.sc (.int ds.length))
 | [.sc (.str x)] => if x.length <= sizeLine then some (.sc (.int x.length)) else none
 | _ => none
noncomputable def strB : List W -> Option D
 | [.sc (.int i)] => if i.natAbs.log2 < 1920 then some (.sc (.str (Str.ofString (toString i)))) else none
 | _ => none
noncomputable def intB : List W -> Option D
 | [.sc (.int i)] => some (.sc (.int i))
 | [.sc (.bl b)] => some (.sc (.int (if b then 1 else 0)))
 | [.sc (.str z)] => match intText? z with
  | some n => if z.length <= 640 then some (.sc (.int n)) else none
  | none => none
 | _ => none
noncomputable def ZhS : List W -> Option D
 | [.nd .lst ds] => some (.node .lst true ds)
 | [.nd .frl ds] => some (.node .lst true ds)
 | [.nd .tup ds] => some (.node .lst true ds)
 | [.nd .ftp ds] => some (.node .lst true ds)
 | _ => none
noncomputable def isiB (t : Ty) : List W -> Option D
 | [w] => (tyW t w).map fun b => .sc (.bl b)
 | _ => none
noncomputable def allB : List W -> Option D
 | [.nd .lst ds] => (ZaC ds).map fun bs => .sc (.bl (bs.all id))
 | _ => none
noncomputable def anyB : List W -> Option D
 | [.nd .lst ds] => (ZaC ds).map fun bs => .sc (.bl (bs.any id))
 | _ => none
noncomputable def ZhT (c : Str) : List W -> Option D
 | [.nd (.exc ns _ _) _] => some (.sc (.bl (decide (c ∈ ns))))
 | _ => none
noncomputable def ZhU : List W -> Option D
 | [.nd (.exc _ _ _) _] => some (.sc (.bl true))
 | _ => none
noncomputable def ZfL : List W -> Option D
 | [.nd (.exc _ _ _) _, .sc _] => some (.sc .non)
 | _ => none
noncomputable def ZhV (f : Str) : List W -> Option D
 | [.nd (.exc _ _ fs) ds] => if f ∈ ZdA then Zcj f fs ds else none
 | _ => none
noncomputable def ZhW : List W -> Option D
 | [.nd .lst ds] => (Zcz ds).bind fun is => match is with
  | [] => none
  | i :: is => some (.sc (.int (is.foldl (fun a b => if b < a then b else a) i)))
 | _ => none
noncomputable def bfW : BF -> List W -> Option D
 | .len, ws => lenB ws
 | .str, ws => strB ws
 | .int, ws => intB ws
 | .list, ws => ZhS ws
 | .isi t, ws => isiB t ws
 | .all, ws => allB ws
 | .any, ws => anyB ws
 | .isiX c, ws => ZhT c ws
 | .isiV, ws => ZhU ws
 | .xinit, ws => ZfL ws
 | .xfld f, ws => ZhV f ws
 | .minL, ws => ZhW ws
noncomputable def strW : W -> Option Str
 | .sc (.str z) => some z
 | _ => none
noncomputable def bmW : BM -> Str -> List W -> Option D
 | .split, z, [.sc (.str s)] => if s.cps.size = 1 /\ z.length + 2 <= sizeLine then some (.node .lst true ((Txt.split z s).map fun x => .sc (.str x))) else none
 | .join, z, [.nd .lst ds] => (Zb6 ds).bind fun ts => if JoinOk z ts = true then some (.sc (.str (Txt.join z ts))) else none
 | _, _, _ => none
noncomputable def rng (a b : Int) : List D := (List.range (b - a).toNat).map fun (k : Nat) => .sc (.int (a + k))
noncomputable def okR (i : Int) : Bool := decide (-(2 ^ 62) <= i) && decide (i < 2 ^ 62)
noncomputable def Zad : Int -> List D -> List D
 | _, [] => []
 | c, d :: ds => .node .tup false [.sc (.int c), d] :: Zad (c + 1) ds
noncomputable def ZkB : List W -> Option (List D)
 | [.nd k ds, .sc (.int c)] => if (k = .lst \/ k = .frl) /\ okR c = true then some (Zad c ds) else none
 | _ => none
noncomputable def ZhX : List W -> Option (List D)
 | [.sc (.int n)] => if okR n then some (rng 0 n) else none
 | _ => none
noncomputable def ZhY : List W -> Option (List D)
 | [.sc (.int a), .sc (.int b)] => if okR a && okR b then some (rng a b) else none
 | _ => none
noncomputable def valI : List W -> Option (List D)
 | [.nd .lst ds] => some ds
 | [.nd .frl ds] => some ds
 | [.nd .tup ds] => some ds
 | [.nd .ftp ds] => some ds
 | [.sc (.str x)] => some (x.cps.toList.map fun c => .sc (.str ⟨#[c]⟩))
 | _ => none
noncomputable def itW : IK -> List W -> Option (List D)
 | .enum, ws => ZkB ws
 | .rng1, ws => ZhX ws
 | .rng2, ws => ZhY ws
 | .val, ws => valI ws
noncomputable def holdV : Op -> M (W × Option (Nat × D))
 | .tmp (.sc v) => M.ret (.sc v, none)
 | .tmp (.node k _ ds) => M.ret (.nd k (shrL ds), none)
 | .tmp .hole => stk
 | .late i => fun δ => match δ[i]? with
  | some (.sc v) => .ok ((.sc v, none), δ)
  | some (.node k false ds) => .ok ((.nd k ds, none), δ)
  | some (.node k true ds) => .ok ((.nd k (shrL ds), some (i, .node k true (shrL ds))), δ.set i .hole)
  | _ => .stuck
noncomputable def Zw : List Op -> M (List W × List (Nat × D))
 | [] => M.ret ([], [])
 | p :: ps => (holdV p).bnd fun w => (Zw ps).bnd fun ws => M.ret (w.1 :: ws.1, w.2.toList ++ ws.2)
noncomputable def Z8 : List (Nat × D) -> M Unit
 | [] => M.ret ()
 | (i, d) :: r => fun δ => Z8 r (δ.set i d)
noncomputable def walked : List E -> Nat -> Bool
 | [], _ => false
 | .v i :: r, j => i == j || walked r j
 | _ :: r, j => walked r j
noncomputable def takeA (lend : Bool) : Op -> M D
 | .tmp d => M.ret d
 | .late i => fun δ => match δ[i]? with
  | some (.sc v) => .ok (.sc v, δ)
  | some (.node k false ds) => .ok (.node k false ds, δ)
  | some (.node k true ds) => if lend then .ok (.node k true ds, δ.set i .hole) else .ok (.node k false (shrL ds), δ.set i (.node k false (shrL ds)))
  | _ => .stuck
noncomputable def Zab (lend : Bool) : List Op -> M (List D)
 | [] => M.ret []
 | p :: ps => (takeA lend p).bnd fun d => (Zab lend ps).bnd fun ds => M.ret (d :: ds)
noncomputable def giveA : Op -> D -> M Unit
 | .tmp _, _ => M.ret ()
 | .late i, d => fun δ => match δ[i]? with
  | some .hole => .ok ((), δ.set i d)
  | _ => .ok ((), δ)
noncomputable def Z4 : List Op -> List D -> M Unit
 | p :: ps, d :: ds => (giveA p d).bnd fun _ => Z4 ps ds
 | _, _ => M.ret ()
noncomputable def ZaD (fi : FI) (ps : List Op) : M D := (Zab fi.lend ps).bnd fun ds => match fi.run ds with
 | .ok (d, ds') => (Z4 ps ds').bnd fun _ => M.ret d
 | .exc _ _ => stk
 | .stuck => stk
noncomputable def ZaQ (fi : FI) (ps : List Op) : M D := (Zab fi.lend ps).bnd fun ds => match fi.run ds with
 | .ok (d, ds') => (Z4 ps ds').bnd fun _ => M.ret d
 | .exc x ds' => fun δ => match Z4 ps ds' δ with
  | .ok (_, δ') => .exc x δ'
  | _ => .stuck
 | .stuck => stk
noncomputable def chkI (A : Addr) (m : Str) : Op -> M Unit
 | .late i => fun δ => match δ[i]? with
  | some (.node (.ins B fs) _ _) => if B = A /\ m ∉ fs then .ok ((), δ) else .stuck
  | _ => .stuck
 | .tmp (.node (.ins B fs) _ _) => fun δ => if B = A /\ m ∉ fs then .ok ((), δ) else .stuck
 | _ => stk
noncomputable def newF (C : Addr) (fi : FI) (ps : List Op) : M D := (Zab fi.lend ps).bnd fun ds => match fi.run (.node (.ins C []) true [] :: ds) with
 | .ok (.sc .non, d :: ds') => (Z4 ps ds').bnd fun _ => M.ret d
 | .ok _ => stk
 | .exc _ _ => stk
 | .stuck => stk
noncomputable def newX (ns : List Str) (fi : FI) (ps : List Op) : M D := if 1000 < ps.length then stk else (Zab fi.lend ps).bnd fun ds => match fi.run (.node (.exc ns true []) true [] :: ds) with
 | .ok (.sc .non, d :: ds') => (Z4 ps ds').bnd fun _ => M.ret d
 | .ok _ => stk
 | .exc _ _ => stk
 | .stuck => stk
noncomputable def ZbS {α : Type} : D -> M α
 | .node (.exc ns true fs) true ds => fun δ => .exc (.node (.exc ns false fs) true ds) δ
 | _ => stk
noncomputable def asgN (lock : Nat -> Bool) (i : Nat) (d : D) : M Unit := fun δ => if i < δ.length && !lock i then .ok ((), δ.set i d) else .stuck
noncomputable def ZbG (lock : Nat -> Bool) : List Nat -> List D -> M Unit
 | [], [] => M.ret ()
 | i :: is, d :: ds => (asgN lock i d).bnd fun _ => ZbG lock is ds
 | _, _ => stk
noncomputable def asgT (lock : Nat -> Bool) : Tg -> D -> M Unit
 | .name i, d => asgN lock i d
 | .tup is, .node .tup _ ds => ZbG lock is ds
 | .tup _, _ => stk
noncomputable def modS (i : Nat) (f : Kd -> List D -> Option (D × Kd × List D)) : M D := fun δ => match δ[i]? with
 | some (.node k true ds) => match f k ds with
  | some (r, k', ds') => .ok (r, δ.set i (.node k' true ds'))
  | none => .stuck
 | _ => .stuck
noncomputable def mutD : MM -> List W -> Kd -> List D -> Option (D × Kd × List D)
 | _, _, _, _ => none
noncomputable def appD (d : D) : Kd -> List D -> Option (D × Kd × List D)
 | .lst, ds => if ds.length < sizeLine then some (.sc .non, .lst, ds ++ [d]) else none
 | _, _ => none
noncomputable def appM (i : Nat) : List D -> M D
 | [d] => modS i (appD d)
 | _ => stk
noncomputable def chkL (i : Nat) : M Unit := fun δ => match δ[i]? with
 | some (.node .lst _ _) => .ok ((), δ)
 | _ => .stuck
noncomputable def setD (w : W) (d : D) : Kd -> List D -> Option (D × Kd × List D)
 | .lst, ds => match w with
  | .sc (.int i) => (ixN' ds.length i).map fun j => (.sc .non, .lst, ds.set j d)
  | _ => none
 | _, _ => none
noncomputable def ZhZ (w : W) (d : D) : Kd -> List D -> Option (D × Kd × List D)
 | .dic ks, ds => match w with
  | .sc v => if ds.length < sizeLine then (keyD v).bind fun k => (Zf2 k d ks ds).map fun r => (.sc .non, .dic r.1, r.2) else none
  | _ => none
 | k, ds => setD w d k ds
noncomputable def putN (f : Str) : List Str -> List Str
 | [] => [f]
 | g :: r => if g = f then g :: r else g :: putN f r
noncomputable def putV {α : Type} (f : Str) (d : α) : List Str -> List α -> List α
 | g :: r, x :: ds => if g = f then d :: ds else x :: putV f d r ds
 | _, _ => [d]
noncomputable def putD (ok : Addr -> Str -> Bool) (f : Str) (d : D) : Kd -> List D -> Option (D × Kd × List D)
 | .ins C fs, ds => if fs.length < 1000 /\ ok C f = true then some (.sc .non, .ins C (putN f fs), putV f d fs ds) else none
 | _, _ => none
noncomputable def putX (f : Str) (d : D) : Kd -> List D -> Option (D × Kd × List D)
 | .exc ns fr fs, ds => if fs.length < 1000 /\ f ∈ ZdA then some (.sc .non, .exc ns fr (putN f fs), putV f d fs ds) else none
 | _, _ => none
structure Ctx where
 lock : Nat -> Bool
 fok : Addr -> Str -> Bool
 fuel : Nat
noncomputable def Zbq : List Nat -> M (List D)
 | [] => M.ret []
 | j :: js => fun δ => match δ[j]? with
  | some d => ((Zbq js).bnd fun ds => M.ret (d :: ds)) (δ.set j .hole)
  | none => .stuck
noncomputable def ZaE : List Nat -> List D -> M Unit
 | j :: js, d :: ds => fun δ => ZaE js ds (δ.set j d)
 | _, _ => M.ret ()
noncomputable def Zai (asg : D -> M Unit) (cond : M Bool) (elt : M D) : List D -> List D -> M (List D)
 | [], acc => M.ret acc
 | d :: ds, acc => (asg d).bnd fun _ => cond.bnd fun b => if b then elt.bnd fun x => Zai asg cond elt ds (acc ++ [x]) else Zai asg cond elt ds acc
noncomputable def Za3 (k : Nat) (js : List Nat) (loop : M (List D)) : M D := (Zbq js).bnd fun caps δ => match loop (List.replicate k .hole ++ caps) with
 | .ok (acc, δ') => ((ZaE js (δ'.drop k)).bnd fun _ => lift (newL acc)) δ
 | .exc _ _ => .stuck
 | .stuck => .stuck
noncomputable def fmtD : V -> Option Str
 | .int i => if i.natAbs.log2 < 1920 then some (Str.ofString (toString i)) else none
 | .str x => some x
 | .non => some (Str.ofString "None")
 | _ => none
noncomputable def fmtW (acc : Str) : W -> Option Str
 | .sc v => (fmtD v).bind fun z => if z.length <= sizeLine /\ (acc ++ z).length <= sizeLine then some (acc ++ z) else none
 | _ => none
noncomputable def isNW (p : Bool) : W -> D
 | .sc v => .sc (.bl (decide (v = .non) == p))
 | .nd _ _ => .sc (.bl (!p))
noncomputable def negW : W -> Option D
 | .sc (.int i) => some (.sc (.int (-i)))
 | _ => none
noncomputable def notW : W -> Option D
 | .sc (.bl t) => some (.sc (.bl (!t)))
 | _ => none
noncomputable def andM (b : M D) : W -> M D
 | .sc (.bl true) => b
 | .sc (.bl false) => M.ret (.sc (.bl false))
 | _ => stk
noncomputable def orM (b : M D) : W -> M D
 | .sc (.bl false) => b
 | .sc (.bl true) => M.ret (.sc (.bl true))
 | _ => stk
noncomputable def ZbH (c : M D) : M Bool := c.bnd fun d => lift (match d with | .sc (.bl b) => some b | _ => none)
noncomputable def tdef (e : E) (c : M D) : M Bool := (Zn e c).bnd fun p => (view p).bnd fun w => lift (truW w)
noncomputable def vdef (e : E) (c : M D) : M W := (Zn e c).bnd view
mutual
noncomputable def evb (C : Ctx) : E -> M D × M Bool
 | .k v => let c : M D := M.ret (.sc v); (c, tdef (.k v) c)
 | .g d => let c : M D := M.ret d; (c, tdef (.g d) c)
 | .v i => (valV i, tdef (.v i) (valV i))
 | .bin op a b =>
  let c : M D := (Zn a (evb C a).1).bnd fun p => (Zn b (evb C b).1).bnd fun q => (view p).bnd fun x => (view q).bnd fun y => lift (binW op x y)
  (c, tdef (.bin op a b) c)
 | .neg a =>
  let c : M D := (vdef a (evb C a).1).bnd fun x => lift (negW x)
  (c, tdef (.neg a) c)
 | .cmp op a b =>
  let c : M D := (Zn a (evb C a).1).bnd fun p => (Zn b (evb C b).1).bnd fun q => (view p).bnd fun x => (view q).bnd fun y => lift ((Zat op x y).map fun t => .sc (.bl t))
  (c, ZbH c)
 | .chain op op' a b e =>
  let c : M D := (Zn a (evb C a).1).bnd fun p => (Zn b (evb C b).1).bnd fun q => (view p).bnd fun x => (view q).bnd fun y => (lift (cmpW op x y)).bnd fun t => if t then (Zn e (evb C e).1).bnd fun r => (view q).bnd fun y => (view r).bnd fun z => lift ((cmpW op' y z).map fun t => .sc (.bl t)) else M.ret (.sc (.bl false))
  (c, ZbH c)
 | .isN p a =>
  let c : M D := (vdef a (evb C a).1).bnd fun x => M.ret (isNW p x)
  (c, tdef (.isN p a) c)
 | .nt a => ((vdef a (evb C a).1).bnd fun w => lift (notW w), (evb C a).2.bnd fun b => M.ret (!b))
 | .and a b => ((vdef a (evb C a).1).bnd (andM (evb C b).1), (evb C a).2.bnd fun t => if t then (evb C b).2 else M.ret false)
 | .or a b => ((vdef a (evb C a).1).bnd (orM (evb C b).1), (evb C a).2.bnd fun t => if t then M.ret true else (evb C b).2)
 | .ife c a b =>
  let r : M D := (evb C c).2.bnd fun t => if t then (evb C a).1 else (evb C b).1
  (r, tdef (.ife c a b) r)
 | .ix a i =>
  let c : M D := (Zn a (evb C a).1).bnd fun p => (Zn i (evb C i).1).bnd fun q => (view p).bnd fun x => (view q).bnd fun y => lift (ixW2 x y)
  (c, tdef (.ix a i) c)
 | .sl a lo hi =>
  let c : M D := (Zn a (evb C a).1).bnd fun p => (ZaP lo (Zn lo (evb C lo).1)).bnd fun l => (ZaP hi (Zn hi (evb C hi).1)).bnd fun h => (view p).bnd fun x => lift (slD x l h)
  (c, tdef (.sl a lo hi) c)
 | .fld a f =>
  let c : M D := (vdef a (evb C a).1).bnd fun x => lift (fldW C.fok f x)
  (c, tdef (.fld a f) c)
 | .lst es =>
  let c : M D := (evs C es).bnd fun ds => lift (newL ds)
  (c, tdef (.lst es) c)
 | .tup es =>
  let c : M D := (evs C es).bnd fun ds => lift (newT ds)
  (c, tdef (.tup es) c)
 | .kl vs =>
  let c : M D := lift (newL (vs.map D.sc))
  (c, tdef (.kl vs) c)
 | .dct0 =>
  let c : M D := M.ret (.node (.dic []) true [])
  (c, tdef .dct0 c)
 | .call f es =>
  let c : M D := (opds C es).bnd fun ps => ZaD f ps
  (c, tdef (.call f es) c)
 | .bf f es =>
  let c : M D := (opds C es).bnd fun ps => (views ps).bnd fun ws => lift (bfW f ws)
  (c, tdef (.bf f es) c)
 | .bm m o es =>
  let c : M D := (vdef o (evb C o).1).bnd fun w => (lift (strW w)).bnd fun z => (opds C es).bnd fun ps => (views ps).bnd fun ws => lift (bmW m z ws)
  (c, tdef (.bm m o es) c)
 | .mut m i ps es =>
  let c : M D := match m, ps with
   | .append, [] => (chkL i).bnd fun _ => (evs C es).bnd fun ds => appM i ds
   | m, [] => (chkL i).bnd fun _ => (opds C es).bnd fun ps => (views ps).bnd fun ws => modS i (mutD m ws)
   | _, _ => stk
  (c, tdef (.mut m i ps es) c)
 | .meth A m f o es =>
  let c : M D := (Zn o (evb C o).1).bnd fun p => (chkI A m p).bnd fun _ => (opds C es).bnd fun ps => ZaD f (p :: ps)
  (c, tdef (.meth A m f o es) c)
 | .new A f es =>
  let c : M D := (opds C es).bnd fun ps => newF A f ps
  (c, tdef (.new A f es) c)
 | .comp k js tg ik ies cond elt =>
  let C' : Ctx := { C with lock := fun i => decide (k <= i) }
  let loop (items : List D) : M (List D) := Zai (asgT C'.lock tg) (tsts C' cond) (evb C' elt).1 items []
  let c : M D := (opds C ies).bnd fun ps => (Zw ps).bnd fun h => (lift (itW ik h.1)).bnd fun items => (Za3 k js (loop items)).bnd fun d => (Z8 h.2).bnd fun _ => M.ret d
  (c, tdef (.comp k js tg ik ies cond elt) c)
 | .fs es =>
  let c : M D := fss C es Str.empty
  (c, tdef (.fs es) c)
 | .dct1 k e =>
  let c : M D := (evb C e).1.bnd fun d => M.ret (.node (.dic [k]) true [d])
  (c, tdef (.dct1 k e) c)
noncomputable def fss (C : Ctx) : List E -> Str -> M D
 | [], acc => M.ret (.sc (.str acc))
 | e :: es, acc => (vdef e (evb C e).1).bnd fun w => (lift (fmtW acc w)).bnd fun acc' => fss C es acc'
noncomputable def opds (C : Ctx) : List E -> M (List Op)
 | [] => M.ret []
 | e :: es => (Zn e (evb C e).1).bnd fun p => (opds C es).bnd fun ps => M.ret (p :: ps)
noncomputable def evs (C : Ctx) : List E -> M (List D)
 | [] => M.ret []
 | e :: es => (evb C e).1.bnd fun p => (evs C es).bnd fun ps => M.ret (p :: ps)
noncomputable def tsts (C : Ctx) : List E -> M Bool
 | [] => M.ret true
 | e :: es => (evb C e).2.bnd fun b => if b then tsts C es else M.ret false
end
noncomputable abbrev ev (C : Ctx) (e : E) : M D := (evb C e).1
noncomputable abbrev tst (C : Ctx) (e : E) : M Bool := (evb C e).2
noncomputable def yev (C : Ctx) : YE -> M D
 | .meth A m f o es => (Zn o (evb C o).1).bnd fun p => (chkI A m p).bnd fun _ => (opds C es).bnd fun ps => ZaQ f (p :: ps)
inductive Fl where
 | nx | rt (d : D) | bk | ct
noncomputable def forL (asg : D -> M Unit) (body : M Fl) : List D -> M Fl
 | [] => M.ret .nx
 | d :: ds => (asg d).bnd fun _ => body.bnd fun f => match f with
  | .nx => forL asg body ds
  | .ct => forL asg body ds
  | .bk => M.ret .nx
  | .rt x => M.ret (.rt x)
noncomputable def movV (i : Nat) : M D := fun δ => match δ[i]? with
 | some (.sc v) => .ok (.sc v, δ)
 | some (.node k o ds) => .ok (.node k o ds, δ.set i .hole)
 | _ => .stuck
noncomputable def retV (C : Ctx) (e : E) : M D := match e with
 | .v i => if C.lock i then valV i else movV i
 | e => ev C e
noncomputable def seqL (c : M Fl) (r : M Fl) : M Fl := c.bnd fun f => match f with
 | .nx => r
 | f => M.ret f
noncomputable def finB (h : List (Nat × D)) : Rs (Fl × List D) -> Rs (Fl × List D)
 | .ok (f, δ) => ((Z8 h).bnd fun _ => M.ret f) δ
 | .exc x δ => (match Z8 h δ with
  | .ok (_, δ') => .exc x δ'
  | _ => .stuck)
 | .stuck => .stuck
noncomputable def hits (c : Str) : D -> Bool
 | .node (.exc ns false _) true _ => decide (c ∈ ns)
 | _ => false
noncomputable def Zia (i : Nat) : Rs (Fl × List D) -> Rs (Fl × List D)
 | .ok (f, δ) => .ok (f, δ.set i .hole)
 | .exc _ _ => .stuck
 | .stuck => .stuck
noncomputable def tryM (lock : Nat -> Bool) (body : M Fl) (c : Str) (nm : Option Nat) (suite : M Fl) : M Fl := fun δ => match body δ with
 | .ok r => .ok r
 | .stuck => .stuck
 | .exc x δ' => if hits c x then (match nm with
  | none => (match suite δ' with
   | .exc _ _ => .stuck
   | r => r)
  | some i => if i < δ'.length && !lock i then Zia i (suite (δ'.set i x)) else .stuck) else .stuck
mutual
noncomputable def ex (C : Ctx) : S -> M Fl
 | .asg i e => (ev C e).bnd fun d => (asgN C.lock i d).bnd fun _ => M.ret .nx
 | .sub i ps ix e => match ps with
  | [] => (ev C e).bnd fun d => (ZK i).bnd fun _ => (vdef ix (ev C ix)).bnd fun w => (modS i (ZhZ w d)).bnd fun _ => M.ret .nx
  | _ => stk
 | .attr i f e => (ev C e).bnd fun d => (ZK i).bnd fun _ => (modS i (putD C.fok f d)).bnd fun _ => M.ret .nx
 | .ex e => (ev C e).bnd fun _ => M.ret .nx
 | .ret e => (retV C e).bnd fun d => M.ret (.rt d)
 | .retN => M.ret (.rt (.sc .non))
 | .iff c a b => (tst C c).bnd fun t => if t then exs C a else exs C b
 | .for_ tg ik ies body =>
  let lk : Nat -> Bool := fun j => C.lock j || walked ies j
  (opds C ies).bnd fun ps => (Zw ps).bnd fun h => (lift (itW ik h.1)).bnd fun items => (forL (asgT lk tg) (exs { C with lock := lk } body) items).bnd fun f => (Z8 h.2).bnd fun _ => M.ret f
 | .pass => M.ret .nx
 | .brk => M.ret .bk
 | .cnt => M.ret .ct
 | .raise _ => stk
 | .asgY i y => (yev C y).bnd fun d => (asgN C.lock i d).bnd fun _ => M.ret .nx
 | .asgX i f es => ((opds C es).bnd fun ps => ZaQ f ps).bnd fun d => (asgN C.lock i d).bnd fun _ => M.ret .nx
 | .exX f es => ((opds C es).bnd fun ps => ZaQ f ps).bnd fun _ => M.ret .nx
 | .raiseI ns f es => ((opds C es).bnd fun ps => newX ns f ps).bnd ZbS
 | .attrX i f e => (ev C e).bnd fun d => (ZK i).bnd fun _ => (modS i (putX f d)).bnd fun _ => M.ret .nx
 | .forX tg ik ies body =>
  let lk : Nat -> Bool := fun j => C.lock j || walked ies j
  (opds C ies).bnd fun ps => (Zw ps).bnd fun h => (lift (itW ik h.1)).bnd fun items δ => finB h.2 (forL (asgT lk tg) (exs { C with lock := lk } body) items δ)
 | .try_ body c nm suite => tryM C.lock (exs C body) c nm (exs C suite)
noncomputable def exs (C : Ctx) : List S -> M Fl
 | [] => M.ret .nx
 | s :: r => seqL (ex C s) (exs C r)
end
noncomputable def Zbb (n : Nat) : Rs (Fl × List D) -> Rs (D × List D)
 | .ok (.rt d, δ) => .ok (d, δ.take n)
 | .ok (.nx, δ) => .ok (.sc .non, δ.take n)
 | .ok _ => .stuck
 | .exc x δ => .exc x (δ.take n)
 | .stuck => .stuck
noncomputable def Zr (C : Ctx) (n N : Nat) (body : List S) (ds : List D) : Rs (D × List D) :=
 if ds.length = n then Zbb n (exs { C with lock := fun i => decide (i < n) } body (ds ++ List.replicate (N - n) .hole)) else .stuck
inductive Sep {α : Type} (R : α -> D -> Bud -> Prop) : List α -> List D -> Bud -> Prop
 | nil (m : Bud) : Sep R [] [] m
 | cons {a : α} {d : D} {as : List α} {ds : List D} {m1 m2 m : Bud} : R a d m1 -> Sep R as ds m2 -> (∀ b, m1 b + m2 b <= m b) -> Sep R (a :: as) (d :: ds) m
theorem RepL.sep : ∀ {vs : List V} {ds : List D} {m : Bud}, RepL K H Hs vs ds m -> Sep (Rep K H Hs) vs ds m
 | _, _, _, .nil _ => .nil _
 | _, _, _, .cons a b c => .cons a b.sep c
theorem Sep.repL : ∀ {vs : List V} {ds : List D} {m : Bud}, Sep (Rep K H Hs) vs ds m -> RepL K H Hs vs ds m
 | _, _, _, .nil _ => .nil _
 | _, _, _, .cons a b c => .cons a b.repL c
section
variable {β : Type} {R R' : α -> D -> Bud -> Prop}
theorem Sep.length : ∀ {as : List α} {ds : List D} {m : Bud}, Sep R as ds m -> as.length = ds.length
 | _, _, _, .nil _ => rfl
 | _, _, _, .cons _ b _ => by rw [List.length_cons, List.length_cons, b.length]
theorem Sep.mono (h : Sep R as ds m) (l : ∀ b, m b <= m' b) : Sep R as ds m' := by
 cases h with
 | nil => exact .nil _
 | cons a b c => exact .cons a b fun x => Nat.le_trans (c x) (l x)
theorem Sep.imp : ∀ {as : List α} {ds : List D} {m : Bud}, (∀ a d m', (∀ b, m' b <= m b) -> R a d m' -> R' a d m') -> Sep R as ds m -> Sep R' as ds m
 | _, _, _, _, .nil _ => .nil _
 | _, _, m, f, .cons (m1 := m1) (m2 := m2) x y c => .cons (f _ _ _ (fun b => by have := c b; omega) x) (y.imp fun a d m' l => f a d m' fun b => by have := c b; have := l b; (try dsimp only at *); omega) c
theorem Sep.focus : ∀ {as : List α} {ds : List D} {m : Bud} {i : Nat} {d : D}, Sep R as ds m -> ds[i]? = some d -> ∃ (a : α) (m1 m2 : Bud), as[i]? = some a /\ R a d m1 /\ (∀ b, m1 b + m2 b <= m b) /\
 ∀ (R' : α -> D -> Bud -> Prop) (a' : α) (d' : D) (m' : Bud), (∀ a d m', (∀ b, m' b <= m2 b) -> R a d m' -> R' a d m') -> R' a' d' m' -> Sep R' (as.set i a') (ds.set i d') (fun b => m' b + m2 b)
 | _, _, _, _, _, .nil _, h => by simp at h
 | _, _, m, 0, _, .cons (a := a) (m1 := m1) (m2 := m2) x y c, h => by
  (simp only [List.getElem?_cons_zero, Option.some.injEq] at h)
  subst h
  exact ⟨a, m1, m2, rfl, x, c, fun R' a' d' m' f x' => .cons x' (y.imp f) fun b => Nat.le_refl _⟩
 | _, _, m, i + 1, d, .cons (a := a) (m1 := m1) (m2 := m2) x y c, h => by
  obtain ⟨a', n1, n2, e, r, l, f⟩ := Sep.focus (i := i) y (by simpa using h)
  refine ⟨a', n1, fun b => m1 b + n2 b, by simpa using e, r, fun b => by have := c b; have := l b; (try dsimp only at *); omega, fun R' a'' d'' m' g x' => ?_⟩
  have q := f R' a'' d'' m' (fun a d m' l' => g a d m' fun b => by have := l' b; (try dsimp only at *); omega) x'
  exact .cons (m2 := fun b => m' b + n2 b) (g _ _ _ (fun b => by (try dsimp only at *); omega) x) q fun b => by (try dsimp only at *); omega
theorem Sep.append : ∀ {as bs : List α} {ds es : List D} {m1 m2 : Bud}, Sep R as ds m1 -> Sep R bs es m2 -> Sep R (as ++ bs) (ds ++ es) (fun b => m1 b + m2 b)
 | _, _, _, _, _, _, .nil _, y => y.mono fun b => by (try dsimp only at *); omega
 | _, _, _, _, _, m2, .cons (m2 := n2) x y c, z => .cons (m2 := fun b => n2 b + m2 b) x (y.append z) fun b => by have := c b; omega
def Sep.get {as : List α} {m : Bud} {i : Nat} {d : D} (h : Sep R as ds m) (e : ds[i]? = some d) : ∃ (a : α) (m1 : Bud), as[i]? = some a /\ R a d m1 /\ ∀ b, m1 b <= m b := by
 obtain ⟨a, m1, m2, e, r, l, _⟩ := h.focus e
 exact ⟨a, m1, e, r, fun b => by have := l b; omega⟩
theorem Sep.split : ∀ {as : List α} {ds es : List D} {m : Bud}, Sep R as (ds ++ es) m -> ∃ (a1 a2 : List α) (m1 m2 : Bud), as = a1 ++ a2 /\ Sep R a1 ds m1 /\ Sep R a2 es m2 /\ ∀ b, m1 b + m2 b <= m b
 | as, [], es, m, h => ⟨[], as, fun _ => 0, m, rfl, .nil _, h, fun b => by (try dsimp only at *); omega⟩
 | _, d :: ds, es, m, .cons (a := a) (m1 := m1) x y c => by
  obtain ⟨a1, a2, n1, n2, e, p, q, l⟩ := Sep.split (ds := ds) (es := es) y
  subst e
  exact ⟨a :: a1, a2, fun b => m1 b + n1 b, n2, rfl, .cons x p fun b => Nat.le_refl _, q, fun b => by have := c b; have := l b; (try dsimp only at *); omega⟩
def Sep.take (h : Sep R as ds m) (n : Nat) : Sep R (as.take n) (ds.take n) m := by
 have e : ds.take n ++ ds.drop n = ds := List.take_append_drop n ds
 rw [<- e] at h
 obtain ⟨a1, a2, m1, m2, q, p, p', l⟩ := h.split
 have hl := p.length
 have hd := h.length
 subst q
 have : (a1 ++ a2).take n = a1 := by
  by_cases hn : n <= ds.length
  . rw [List.take_left' (by rw [hl, List.length_take]; omega)]
  . have e2 : a2 = [] := by
     have := p'.length
     rw [List.length_drop] at this
     exact List.length_eq_zero_iff.mp (by (try dsimp only at *); omega)
    rw [e2, List.append_nil]
    exact List.take_of_length_le (by rw [hl, List.length_take]; omega)
 rw [this]
 exact p.mono fun b => by have := l b; omega
def Sep.drop (h : Sep R as ds m) (n : Nat) : Sep R (as.drop n) (ds.drop n) m := by
 have e : ds.take n ++ ds.drop n = ds := List.take_append_drop n ds
 rw [<- e] at h
 obtain ⟨a1, a2, m1, m2, q, p, p', l⟩ := h.split
 have hl := p.length
 subst q
 have : (a1 ++ a2).drop n = a2 := by
  by_cases hn : n <= ds.length
  . rw [List.drop_left' (by rw [hl, List.length_take]; omega)]
  . have e2 : a2 = [] := by
     have := p'.length
     rw [List.length_drop] at this
     exact List.length_eq_zero_iff.mp (by (try dsimp only at *); omega)
    rw [e2, List.append_nil]
    exact List.drop_of_length_le (by rw [hl, List.length_take]; omega)
 rw [this]
 exact p'.mono fun b => by have := l b; omega
end
section
mutual
theorem Rep.share (g : Same Hs Hs') : ∀ {v : V} {d : D} {m : Bud}, (∀ b, m b ≥ 1 -> H b ≠ none -> Hs' b = H b) -> Rep K H Hs v d m -> Rep K H Hs' v (shr d) (fun _ => 0)
 | _, _, _, _, .sc v _ => .sc v _
 | _, _, _, _, .hole v _ => .hole v _
 | _, _, m, k, .own (a := a) (m' := m') n r h => by
  have h1 : m a ≥ 1 := by have := h a; simp only [one, if_pos] at this; omega
  refine .shd (Za2.r (n.eq (k a h1 n.at))) (RepL.share g (fun b hb => k b ?_) r)
  have := h b
  omega
 | _, _, _, _, .shd n r => .shd (n.same g) (RepL.share g (fun b hb => absurd hb (by simp)) r)
theorem RepL.share (g : Same Hs Hs') : ∀ {vs : List V} {ds : List D} {m : Bud}, (∀ b, m b ≥ 1 -> H b ≠ none -> Hs' b = H b) -> RepL K H Hs vs ds m -> RepL K H Hs' vs (shrL ds) (fun _ => 0)
 | _, _, _, _, .nil _ => .nil _
 | _, _, m, k, .cons x y h => by
  refine .cons (Rep.share g (fun b hb => k b ?_) x) (RepL.share g (fun b hb => k b ?_) y) fun b => Nat.le_refl _
  . have := h b; omega
  . have := h b; omega
end
noncomputable def shH (H Hs : Hp) (m : Bud) : Hp := fun b => if m b ≥ 1 then H b else Hs b
def Zbr {M : Bud} {m : Bud} (g : Good H Hs M) (l : ∀ b, m b <= M b) : Same Hs (shH H Hs m) := fun b o e => by
 unfold shH
 split
 . exact g.sub b o e
 . exact e
def Zdg : ∀ b, m b ≥ 1 -> H b ≠ none -> shH H Hs m b = H b := fun b h _ => if_pos h
def Good.share {m M : Bud} (g : Good H Hs (fun b => m b + M b)) : Good H (shH H Hs m) M where
 sub := fun b o e => by
  unfold shH at e
  split at e
  . exact e
  . exact g.sub b o e
 le := fun b => by have : m b + M b <= 1 := g.le b; omega
 ne := fun b h => by
  have : m b + M b <= 1 := g.le b
  unfold shH
  rw [if_neg (by (try dsimp only at *); omega)]
  exact g.ne b (by show m b + M b = 1; omega)
 has := fun b h => by
  have : m b + M b <= 1 := g.le b
  exact g.has b (by show m b + M b = 1; omega)
def Stp.share {m M : Bud} (g : Good H Hs (fun b => m b + M b)) : Stp H Hs (fun b => m b + M b) H (shH H Hs m) M where
 keep := fun _ _ h _ => h
 own := fun b h => .inl (by have : m b + M b <= 1 := g.le b; show m b + M b = 1; omega)
 grow := Zbr g fun b => by (try dsimp only at *); omega
 shr := fun b h h' => by
  unfold shH at h'
  split at h'
  . have : m b + M b <= 1 := g.le b
    exact .inl (by show m b + M b = 1; omega)
  . exact absurd h h'
 stay := fun _ h => h
end
def RepO (K : Fg) (H Hs : Hp) (o : Option V) (d : D) (m : Bud) : Prop := d = .hole \/ ∃ v, o = some v /\ Rep K H Hs v d m
abbrev RepS (K : Fg) (H Hs : Hp) (σ : St) (δ : List D) (m : Bud) : Prop := Sep (RepO K H Hs) σ δ m
section
def RepO.frame (g : Same Hs Hs') (k : ∀ b, m b ≥ 1 -> H b ≠ none -> H' b = H b) (h : RepO K H Hs o d m) : RepO K H' Hs' o d m := by
 rcases h with h | ⟨v, e, r⟩
 . exact .inl h
 . exact .inr ⟨v, e, r.frame g k⟩
def RepS.frame (g : Same Hs Hs') (k : ∀ b, m b ≥ 1 -> H b ≠ none -> H' b = H b) (h : RepS K H Hs σ δ m) : RepS K H' Hs' σ δ m :=
 h.imp fun a d m' l r => RepO.frame g (fun b hb => k b (Nat.le_trans hb (l b))) r
theorem RepL.slots : ∀ {vs : List V} {ds : List D} {m : Bud}, RepL K H Hs vs ds m -> RepS K H Hs (vs.map some) ds m
 | _, _, _, .nil _ => .nil _
 | _, _, _, .cons x y c => .cons (.inr ⟨_, rfl, x⟩) (RepL.slots y) c
theorem holes (o : Nat -> Option V) : ∀ (n : Nat) (m : Bud) (σ : St), σ.length = n -> RepS K H Hs σ (List.replicate n .hole) m
 | 0, m, [], _ => .nil _
 | n + 1, m, o :: σ, h => .cons (m1 := fun _ => 0) (.inl rfl) (holes (fun _ => none) n m σ (by simpa using h)) fun b => by (try dsimp only at *); omega
inductive SlotI (K : Fg) (H Hs : Hp) (σ : St) (δ : List D) (m : Bud) (i : Nat) (d : D) : Prop
 | mk (v : V) (m1 m2 : Bud) (h0 : σ[i]? = some (some v)) (h1 : Rep K H Hs v d m1) (h2 : ∀ b, m1 b + m2 b <= m b) (h3 : ∀ (H' Hs' : Hp) (o : Option V) (d' : D) (m' : Bud), Same Hs Hs' -> (∀ b, m2 b ≥ 1 -> H b ≠ none -> H' b = H b) -> RepO K H' Hs' o d' m' -> RepS K H' Hs' (σ.set i o) (δ.set i d') (fun b => m' b + m2 b)) : SlotI K H Hs σ δ m i d
def RepS.slot (h : RepS K H Hs σ δ m) (e : δ[i]? = some d) (hd : d ≠ .hole) : SlotI K H Hs σ δ m i d := by
 obtain ⟨o, m1, m2, e1, r, l, f⟩ := h.focus e
 rcases r with r | ⟨v, rfl, r⟩
 . exact absurd r hd
 . exact ⟨v, m1, m2, e1, r, l, fun H' Hs' o d' m' g k x => f _ o d' m' (fun a d m'' l' q => RepO.frame g (fun b hb => k b (Nat.le_trans hb (l' b))) q) x⟩
theorem Zaa : ∀ {l : List α} {i : Nat} {a : α}, l[i]? = some a -> l.set i a = l
 | [], _, _, h => by simp at h
 | b :: l, 0, a, h => by simp at h; subst h; rfl
 | b :: l, i + 1, a, h => by rw [List.set_cons_succ, Zaa (by simpa using h)]
end
open PySem.Spec
inductive BO {α β : Type} (c : M α) (f : α -> M β) (δ : List D) (r : β × List D) : Prop
 | mk (a : α) (δ' : List D) (h : c δ = .ok (a, δ')) (k : f a δ' = .ok r) : BO c f δ r
def Zb (h : c.bnd f δ = .ok r) : BO c f δ r := by
 unfold M.bnd at h
 split at h
 . rename_i a δ' e
   exact ⟨a, δ', e, h⟩
 . cases h
 . cases h
def Zg (h : M.ret a δ = .ok r) : r = (a, δ) := by
 unfold M.ret at h
 injection h with h
 exact h.symm
theorem ZE (h : lift o δ = .ok (a, δ')) : o = some a /\ δ' = δ := by
 cases o with
 | none => cases h
 | some x =>
  have := Zg h
  cases this
  exact ⟨rfl, rfl⟩
def RepP (K : Fg) (H Hs : Hp) (σ : St) (v : V) : Op -> Bud -> Prop
 | .late i, _ => σ[i]? = some (some v)
 | .tmp d, m => Rep K H Hs v d m
theorem RepP.frame (g : Same Hs Hs') (k : ∀ b, m b ≥ 1 -> H b ≠ none -> H' b = H b) (h : RepP K H Hs σ v p m) : RepP K H' Hs' σ v p m := by
 cases p with
 | late i => exact h
 | tmp d => exact Rep.frame g k h
inductive View (K : Fg) (H Hs : Hp) : V -> W -> Bud -> Prop
 | sc (v : V) (m : Bud) : View K H Hs v (.sc v) m
 | nd {a : Addr} {k : Kd} {vs : List V} {ds : List D} {m : Bud} : ZcM K H a vs k -> RepL K H Hs vs ds m -> View K H Hs (.ref a) (.nd k ds) m
theorem View.frame (g : Same Hs Hs') (h : View K H Hs v w m) : View K H Hs' v w m := by
 cases h with
 | sc v m => exact .sc v m
 | nd n r => exact .nd n (r.frame g fun _ _ _ => rfl)
section
variable {K : Fg} {M B m : Bud}
def Good.re (g : Good H Hs M) (l : ∀ b, M' b <= M b := by intro b; (try dsimp only); omega) : Good H Hs M' := g.drop l
theorem Zay (g : Good H Hs (fun b => B b + M b)) (s : RepS K H Hs σ δ M) (r : RepP K H Hs σ v p m) (e : view p δ = .ok (w, δ')) :
 ∃ Hs' M', Good H Hs' (fun b => B b + M' b) /\ Stp H Hs (fun b => B b + M b) H Hs' (fun b => B b + M' b) /\ View K H Hs' v w m /\ RepS K H Hs' σ δ' M' := by
 cases p with
 | tmp d =>
  cases d with
  | sc u =>
   have := Zg e
   cases this
   cases r
   exact ⟨Hs, M, g, Stp.refl _ _ _, .sc _ _, s⟩
  | hole => cases e
  | node k o ds =>
   have := Zg e
   cases this
   refine ⟨Hs, M, g, Stp.refl _ _ _, ?_, s⟩
   cases r with
   | own n q l => exact .nd n.r (q.mono fun b => by have := l b; omega)
   | shd n q => exact .nd (n.same g.sub) (q.mono fun b => Nat.zero_le _)
 | late i =>
  have r : σ[i]? = some (some v) := r
  unfold view at e
  dsimp only at e
  split at e
  . rename_i u hi
    cases e
    obtain ⟨v', m1, m2, e1, q, l, f⟩ := s.slot hi (by simp)
    rw [r] at e1
    cases e1
    cases q
    exact ⟨Hs, M, g, Stp.refl _ _ _, .sc _ _, s⟩
  . rename_i k ds hi
    cases e
    obtain ⟨v', m1, m2, e1, q, l, f⟩ := s.slot hi (by simp)
    rw [r] at e1
    cases e1
    cases q with
    | shd n q => exact ⟨Hs, M, g, Stp.refl _ _ _, .nd (n.same g.sub) (q.mono fun b => Nat.zero_le _), s⟩
  . rename_i k ds hi
    cases e
    obtain ⟨v', m1, m2, e1, q, l, f⟩ := s.slot hi (by simp)
    rw [r] at e1
    cases e1
    cases q with
    | @own a _ vs _ _ m' n q l' =>
     have g2 : Good H Hs (fun b => m' b + (B b + (one a b + m2 b))) := g.re fun b => by have := l b; have := l' b; omega
     have hsame := Zbr g2 (m := m') fun b => by omega
     have q2 := RepL.share hsame (Zdg (H := H) (Hs := Hs) (m := m')) q
     refine ⟨shH H Hs m', fun b => one a b + m2 b, g2.share, ?_, .nd n.r (q2.mono fun b => Nat.zero_le _), ?_⟩
     . have s1 := Stp.share g2
       exact ⟨fun b o h z => h, fun b h => by
        rcases s1.own b h with q | q
        . left
          have : B b + M b <= 1 := g.le b
          have h1 := l b
          have h2 := l' b
          have h3 : m' b + (B b + (one a b + m2 b)) = 1 := q
          show B b + M b = 1
          omega
        . exact .inr q, s1.grow, fun b h h' => by
        rcases s1.shr b h h' with q | q
        . left
          have : B b + M b <= 1 := g.le b
          have h1 := l b
          have h2 := l' b
          have h3 : m' b + (B b + (one a b + m2 b)) = 1 := q
          show B b + M b = 1
          omega
        . exact .inr q, fun b h => h⟩
     . have z := f H (shH H Hs m') (some (.ref a)) (.node k true (shrL ds)) (one a) hsame (fun _ _ _ => rfl) (.inr ⟨_, rfl, .own n q2 fun b => by simp⟩)
       rw [Zaa r] at z
       exact z
  . cases e
def Outs (K : Fg) (H Hs : Hp) (m : Bud) (d : D) (Q : VK) : Prop := ∀ (v : V) (H' : Hp) (m' : Bud), Same H H' -> (∀ b, m' b <= 1) -> (∀ b, m' b = 1 -> H' b ≠ none) -> (∀ b, H b ≠ none -> m' b <= m b) -> Rep K H' Hs v d m' -> Q v H'
def Outs.sc (h : Outs K H Hs m (.sc u) Q) : Q u H := h u H (fun _ => 0) (Same.refl _) (fun _ => Nat.zero_le _) (fun _ h => by simp at h) (fun _ _ => Nat.zero_le _) (.sc u _)
def Zdh (h : H p = none) : Same H (upd H p o) := fun b u e => by
 rw [Zk (ZX e h)]
 exact e
def Outs.new (h : Outs K H Hs m (.node k true ds) Q) (hm : ∀ b, m b <= 1) (hh : ∀ b, m b = 1 -> H b ≠ none) (hp : H p = none) (n : Za2 K (upd H p o) p vs k) (r : RepL K H Hs vs ds m) : Q (.ref p) (upd H p o) := by
 have hs := Zdh (o := o) hp
 have mp : m p = 0 := by
  have := hm p
  by_cases q : m p = 1
  . exact absurd hp (hh p q)
  . omega
 refine h (.ref p) (upd H p o) (fun b => one p b + m b) hs (fun b => ?_) (fun b q => ?_) (fun b q => ?_) (.own n (r.frame (Same.refl _) fun b hb hn => ?_) fun b => Nat.le_refl _)
 . unfold one
   have := hm b
   split
   . rename_i e; subst e; omega
   . omega
 . by_cases e : b = p
   . subst e; rw [Zl]; simp
   . rw [Zk e]
     exact hh b (by simp only [one, if_neg e] at q; omega)
 . have e : b ≠ p := fun e => by subst e; exact q hp
   simp only [one, if_neg e]
   omega
 . have e : b ≠ p := fun e => by subst e; exact hn hp
   rw [Zk e]
def ZbM (st : Stp H0 Hs0 M0 H Hs (fun b => B b + M b)) (g : Good H Hs (fun b => B b + M b)) (s : RepS K H Hs σ δ M)
 (q : ∀ (v : V) (H' Hs' : Hp) (m M' : Bud), Good H' Hs' (fun b => m b + M' b) -> Stp H0 Hs0 M0 H' Hs' (fun b => m b + M' b) -> Rep K H' Hs' v d m -> RepS K H' Hs' σ δ M' -> Q v H') : Outs K H Hs B d Q := by
 intro v H' m' hs h1 h2 h3 r
 have hz : ∀ b, H b = none -> M b = 0 /\ B b = 0 := fun b hb => by
  have := g.has b
  have l : B b + M b <= 1 := g.le b
  by_cases e : B b + M b = 1
  . exact absurd hb (this e)
  . omega
 have hst : ∀ b, H b ≠ none -> H' b ≠ none := fun b hb => by
  cases e : H b with
  | none => exact absurd e hb
  | some o => rw [hs b o e]; simp
 refine q v H' Hs m' M ⟨fun b o e => hs b o (g.sub b o e), fun b => ?_, fun b h => ?_, fun b h => ?_⟩ ⟨fun b o e z => hs b o (st.keep b o e z), fun b h => ?_, st.grow, st.shr, fun b h => hst b (st.stay b h)⟩ r (s.frame (Same.refl _) fun b hb hn => ?_)
 . have l : B b + M b <= 1 := g.le b
   have := h1 b
   by_cases e : H b = none
   . have := hz b e; show m' b + M b <= 1; omega
   . have := h3 b e; show m' b + M b <= 1; omega
 . have h : m' b + M b = 1 := h
   have l : B b + M b <= 1 := g.le b
   by_cases e : H b = none
   . cases q : Hs b with
     | none => rfl
     | some o => rw [g.sub b o q] at e; cases e
   . have := h3 b e
     exact g.ne b (by show B b + M b = 1; omega)
 . have h : m' b + M b = 1 := h
   have l : B b + M b <= 1 := g.le b
   by_cases e : m' b = 1
   . exact h2 b e
   . exact hst b (g.has b (by show B b + M b = 1; omega))
 . have h : m' b + M b = 1 := h
   have l : B b + M b <= 1 := g.le b
   by_cases e : H b = none
   . right
     cases w : H0 b with
     | none => rfl
     | some o => exact absurd e (st.stay b (by rw [w]; simp))
   . have := h3 b e
     exact st.own b (by show B b + M b = 1; omega)
 . cases e : H b with
   | none => exact absurd e hn
   | some o => exact hs b o e
def RepL.app (a : RepL K H Hs vs ds m1) (b : RepL K H Hs ws es m2) : RepL K H Hs (vs ++ ws) (ds ++ es) (fun b => m1 b + m2 b) := (a.sep.append b.sep).repL
def RepL.len (a : RepL K H Hs vs ds m) : vs.length = ds.length := a.sep.length
end
inductive tG {α : Type} (K : Fg) (c : M α) (R : Hp -> Hp -> St -> α -> V -> Bud -> Prop) (σ : St) (H : Hp) (Q : VK) : Prop
 | mk (δ : List D) (Hs : Hp) (M : Bud) (a : α) (δ' : List D) (h0 : Good H Hs M) (h1 : RepS K H Hs σ δ M) (h2 : c δ = .ok (a, δ')) (h3 : ∀ (v : V) (H' Hs' : Hp) (m M' : Bud), Good H' Hs' (fun b => m b + M' b) -> Stp H Hs M H' Hs' (fun b => m b + M' b) -> R H' Hs' σ a v m -> RepS K H' Hs' σ δ' M' -> Q v H') : tG K c R σ H Q
def tM (K : Fg) (c : M D) : TE := tG K c fun H Hs _ d v m => Rep K H Hs v d m
def tP (K : Fg) (c : M Op) : TE := tG K c fun H Hs σ p v m => RepP K H Hs σ v p m
inductive tT (K : Fg) (c : M Bool) (σ : St) (H : Hp) (Q : Bool -> Hp -> Prop) : Prop
 | mk (δ : List D) (Hs : Hp) (M : Bud) (b : Bool) (δ' : List D) (h0 : Good H Hs M) (h1 : RepS K H Hs σ δ M) (h2 : c δ = .ok (b, δ')) (h3 : ∀ (H' Hs' : Hp) (M' : Bud), Good H' Hs' M' -> Stp H Hs M H' Hs' M' -> RepS K H' Hs' σ δ' M' -> Q b H') : tT K c σ H Q
def ZaF (K : Fg) (H Hs : Hp) (σ : St) : List V -> List Op -> Bud -> Prop
 | [], [], _ => True
 | v :: vs, p :: ps, m => ∃ m1 m2 : Bud, RepP K H Hs σ v p m1 /\ ZaF K H Hs σ vs ps m2 /\ ∀ b, m1 b + m2 b <= m b
 | _, _, _ => False
theorem ZaF.frame (g : Same Hs Hs') : ∀ {vs : List V} {ps : List Op} {m : Bud}, (∀ b, m b ≥ 1 -> H b ≠ none -> H' b = H b) -> ZaF K H Hs σ vs ps m -> ZaF K H' Hs' σ vs ps m
 | [], [], _, _, h => h
 | v :: vs, p :: ps, m, k, ⟨m1, m2, a, b, l⟩ => ⟨m1, m2, a.frame g fun c hc => k c (by have := l c; omega), b.frame g fun c hc => k c (by have := l c; omega), l⟩
 | [], _ :: _, _, _, h => h.elim
 | _ :: _, [], _, _, h => h.elim
inductive tPs (K : Fg) (c : M (List Op)) (σ : St) (H : Hp) (Q : List V -> Hp -> Prop) : Prop
 | mk (δ : List D) (Hs : Hp) (M : Bud) (a : List Op) (δ' : List D) (h0 : Good H Hs M) (h1 : RepS K H Hs σ δ M) (h2 : c δ = .ok (a, δ')) (h3 : ∀ (vs : List V) (H' Hs' : Hp) (m M' : Bud), Good H' Hs' (fun b => m b + M' b) -> Stp H Hs M H' Hs' (fun b => m b + M' b) -> ZaF K H' Hs' σ vs a m -> RepS K H' Hs' σ δ' M' -> Q vs H') : tPs K c σ H Q
inductive tDs (K : Fg) (c : M (List D)) (σ : St) (H : Hp) (Q : List V -> Hp -> Prop) : Prop
 | mk (δ : List D) (Hs : Hp) (M : Bud) (a : List D) (δ' : List D) (h0 : Good H Hs M) (h1 : RepS K H Hs σ δ M) (h2 : c δ = .ok (a, δ')) (h3 : ∀ (vs : List V) (H' Hs' : Hp) (m M' : Bud), Good H' Hs' (fun b => m b + M' b) -> Stp H Hs M H' Hs' (fun b => m b + M' b) -> RepL K H' Hs' vs a m -> RepS K H' Hs' σ δ' M' -> Q vs H') : tDs K c σ H Q
section
variable {e a b : Expr} {es : List Expr}
def PE.imp (h : PE X e t) (w : ∀ σ H Q, t' σ H Q -> t σ H Q) : PE X e t' := fun pins s σ H Q I q => h pins s σ H Q I (w σ H Q q)
def PT.imp (h : PT X e t) (w : ∀ σ H Q, t' σ H Q -> t σ H Q) : PT X e t' := fun pins s σ H Q I q => h pins s σ H Q I (w σ H Q q)
def PA.imp (h : PA X es t) (w : ∀ σ H Q, t' σ H Q -> t σ H Q) : PA X es t' := fun pos pins s σ H Q I q => h pos pins s σ H Q I (w σ H Q q)
def Za4 {M : Bud} (g : Good H Hs M) : Good H Hs (fun b => (fun _ => 0) b + M b) := g.drop fun b => by simp
def stp0 (H Hs : Hp) (M : Bud) : Stp H Hs M H Hs (fun b => (fun _ => 0) b + M b) := by
 have e : (fun b => (fun _ => 0) b + M b) = M := by funext b; simp
 rw [e]
 exact Stp.refl H Hs M
def ok_k {v : V} (h : PE X e (tC v)) : PE X e (tM X.K (M.ret (.sc v))) := PE.imp h fun σ H Q z0 => by
 obtain ⟨δ, Hs, M, d, δ', g, r, e, q⟩ := z0
 have := Zg e
 cases this
 exact q v H Hs (fun _ => 0) M (Za4 g) (stp0 H Hs M) (.sc v _) r
def Zhi {i : Nat} (h : PE X e (tVar i)) : PE X e (tP X.K (ZK i)) := PE.imp h fun σ H Q z0 => by
 obtain ⟨δ, Hs, M, p, δ', g, r, e, q⟩ := z0
 have fin : ∀ {d : D}, δ[i]? = some d -> d ≠ .hole -> p = .late i -> δ' = δ -> tVar i σ H Q := fun hd hn e1 e2 => by
  subst e1 e2
  obtain ⟨v, m1, m2, e3, _⟩ := r.slot hd hn
  exact ⟨v, e3, q v H Hs (fun _ => 0) M (Za4 g) (stp0 H Hs M) e3 r⟩
 unfold ZK at e
 split at e
 . rename_i hd
   injection e with e
   cases e
   exact fin hd (by simp) rfl rfl
 . rename_i hd
   injection e with e
   cases e
   exact fin hd (by simp) rfl rfl
 . cases e
def ok_v {i : Nat} (h : PE X e (tVar i)) : PE X e (tM X.K (valV i)) := PE.imp h fun σ H Q z0 => by
 obtain ⟨δ, Hs, M, d, δ', g, s, e, q⟩ := z0
 unfold valV at e
 split at e
 . rename_i u hd
   injection e with e
   cases e
   obtain ⟨v, m1, m2, e3, r, _⟩ := s.slot hd (by simp)
   cases r
   exact ⟨u, e3, q u H Hs (fun _ => 0) M (Za4 g) (stp0 H Hs M) (.sc _ _) s⟩
 . rename_i k ds hd
   injection e with e
   cases e
   obtain ⟨v, m1, m2, e3, r, _⟩ := s.slot hd (by simp)
   cases r with
   | shd n r => exact ⟨_, e3, q _ H Hs (fun _ => 0) M (Za4 g) (stp0 H Hs M) (.shd n r) s⟩
 . rename_i k ds hd
   injection e with e
   cases e
   obtain ⟨v, m1, m2, e3, r, l, f⟩ := s.slot hd (by simp)
   refine ⟨v, e3, ?_⟩
   have g2 : Good H Hs (fun b => m1 b + m2 b) := g.re fun b => by have := l b; omega
   have hsame := Zbr g2 (m := m1) fun b => by omega
   have r2 := Rep.share hsame (Zdg (H := H) (Hs := Hs) (m := m1)) r
   have st := Stp.share g2
   refine q v H (shH H Hs m1) (fun _ => 0) m2 (Za4 g2.share) ⟨fun b o h _ => h, fun b h => ?_, st.grow, fun b h h' => ?_, fun b h => h⟩ r2 ?_
   . have h : (fun _ => 0) b + m2 b = 1 := h
     have := l b
     have := g.le b
     left; simp at h; omega
   . rcases st.shr b h h' with z | z
     . have z : m1 b + m2 b = 1 := z
       have := l b
       have := g.le b
       left; omega
     . exact .inr z
   . have z := f H (shH H Hs m1) (some v) (.node k false (shrL ds)) (fun _ => 0) hsame (fun _ _ _ => rfl) (.inr ⟨v, rfl, r2⟩)
     rw [Zaa e3] at z
     exact z.mono fun b => by simp
 . cases e
def Za (h : PE X e (tM X.K c)) : PE X e (tP X.K (c.bnd fun d => M.ret (.tmp d))) := PE.imp h fun σ H Q z0 => by
 obtain ⟨δ, Hs, M, p, δ', g, s, e, q⟩ := z0
 obtain ⟨d, δ1, e1, e2⟩ := Zb e
 have := Zg e2
 cases this
 exact ⟨δ, Hs, M, d, _, g, s, e1, fun v H' Hs' m M' g' st r s' => q v H' Hs' m M' g' st r s'⟩
def seq2 {K : Fg} {ca cb : M Op} {M : Bud} {p q : Op} {R : V -> V -> Hp -> Prop} (g : Good H Hs M) (s : RepS K H Hs σ δ M) (e1 : ca δ = .ok (p, δ1)) (e2 : cb δ1 = .ok (q, δ2))
 (h : ∀ (x y : V) (H2 Hs2 : Hp) (m1 m2 M2 : Bud), Good H2 Hs2 (fun b => (m1 b + m2 b) + M2 b) -> Stp H Hs M H2 Hs2 (fun b => (m1 b + m2 b) + M2 b) -> RepP K H2 Hs2 σ x p m1 -> RepP K H2 Hs2 σ y q m2 -> RepS K H2 Hs2 σ δ2 M2 -> R x y H2) :
 tP K ca σ H fun x H1 => tP K cb σ H1 fun y H2 => R x y H2 := by
 refine ⟨δ, Hs, M, p, δ1, g, s, e1, fun x H1 Hs1 m1 M1 g1 st1 r1 s1 => ⟨δ1, Hs1, M1, q, δ2, g1.re, s1, e2, fun y H2 Hs2 m2 M2 g2 st2 r2 s2 => ?_⟩⟩
 obtain ⟨G, S, k⟩ := Zq g g1 st1 g2 st2
 have le : ∀ b, m1 b + (m2 b + M2 b) <= 1 := G.le
 exact h x y H2 Hs2 m1 m2 M2 G.re (S.drop (fun b => by omega) le) (r1.frame st2.grow k) r2 s2
def Zib {K : Fg} {M : Bud} {p q : Op} {x y : V} (g : Good H Hs (fun b => (m1 b + m2 b) + M b)) (s : RepS K H Hs σ δ M) (r1 : RepP K H Hs σ x p m1) (r2 : RepP K H Hs σ y q m2)
 (e1 : view p δ = .ok (w1, δ1)) (e2 : view q δ1 = .ok (w2, δ2)) : ∃ Hs' M', Good H Hs' (fun b => (m1 b + m2 b) + M' b) /\ Stp H Hs (fun b => (m1 b + m2 b) + M b) H Hs' (fun b => (m1 b + m2 b) + M' b) /\ View K H Hs' x w1 m1 /\ View K H Hs' y w2 m2 /\ RepS K H Hs' σ δ2 M' := by
 obtain ⟨Hs1, M1, g1, st1, v1, s1⟩ := Zay (B := fun b => m1 b + m2 b) g s r1 e1
 obtain ⟨Hs2, M2, g2, st2, v2, s2⟩ := Zay (B := fun b => m1 b + m2 b) g1 s1 (r2.frame st1.grow fun _ _ _ => rfl) e2
 refine ⟨Hs2, M2, g2, ?_, v1.frame st2.grow, v2, s2⟩
 have z := Zq (m1 := fun _ => 0) g (g1.re fun b => by simp) (st1.drop (fun b => by simp) g1.le) g2 st2
 exact z.2.1.drop (fun b => by simp) z.1.le
inductive r2W (K : Fg) (f : W -> W -> Option D) (x y : V) (H : Hp) (Q : VK) : Prop
 | mk (Hs : Hp) (w1 w2 : W) (m1 m2 : Bud) (d : D) (h0 : Same Hs H) (h1 : (∀ b, m1 b + m2 b <= 1)) (h2 : (∀ b, m1 b + m2 b = 1 -> H b ≠ none)) (h3 : View K H Hs x w1 m1) (h4 : View K H Hs y w2 m2) (h5 : f w1 w2 = some d) (h6 : Outs K H Hs (fun b => m1 b + m2 b) d Q) : r2W K f x y H Q
def op2 (h : tM K (ca.bnd fun p => cb.bnd fun q => (view p).bnd fun x => (view q).bnd fun y => lift (f x y)) σ H Q) : tOp (r2W K f) (tP K ca) (tP K cb) σ H Q := by
 obtain ⟨δ, Hs, M, d, δ', g, s, e, q⟩ := h
 obtain ⟨p, δ1, e1, e⟩ := Zb e
 obtain ⟨p2, δ2, e2, e⟩ := Zb e
 obtain ⟨w1, δ3, e3, e⟩ := Zb e
 obtain ⟨w2, δ4, e4, e⟩ := Zb e
 obtain ⟨e5, rfl⟩ := ZE e
 refine seq2 g s e1 e2 fun x y H2 Hs2 m1 m2 M2 g2 st2 r1 r2 s2 => ?_
 obtain ⟨Hs3, M3, g3, st3, v1, v2, s3⟩ := Zib g2 s2 r1 r2 e3 e4
 have z := Zq (m1 := fun _ => 0) g (g2.re fun b => by simp) (st2.drop (fun b => by simp) g2.le) g3 st3
 have st : Stp H Hs M H2 Hs3 (fun b => (m1 b + m2 b) + M3 b) := z.2.1.drop (fun b => by simp) z.1.le
 exact ⟨Hs3, w1, w2, m1, m2, d, g3.sub, fun b => by have : (m1 b + m2 b) + M3 b <= 1 := g3.le b; omega, fun b hb => g3.has b (by have : (m1 b + m2 b) + M3 b <= 1 := g3.le b; show (m1 b + m2 b) + M3 b = 1; omega), v1, v2, e5, ZbM st g3 s3 q⟩
def Zn0 (ho : OpR X (binaryOp op) (r2W X.K (binW op))) (ha : PE X a (tP X.K ca)) (hb : PE X b (tP X.K cb)) :
 PE X (.BinOp a op b pos) (tM X.K (ca.bnd fun p => cb.bnd fun q => (view p).bnd fun x => (view q).bnd fun y => lift (binW op x y))) := PE.imp (Zpf ho ha hb) fun σ H Q h => op2 h
theorem ZdY : ∀ {ds : List D} {vs : List V} {m : Bud} {is : List Int}, RepL K H Hs vs ds m -> Zcz ds = some is -> vs = is.map V.int
 | [], _, _, is, .nil _, h => by simp only [Zcz, Option.some.injEq] at h; subst h; rfl
 | d :: ds, _, _, is, .cons x y _, h => by
  unfold Zcz at h
  split at h
  . rename_i hh; cases hh
  . rename_i i r hh
    injection hh with h1 h2
    subst h1 h2
    (simp only [Option.map_eq_some_iff] at h)
    obtain ⟨js, h, rfl⟩ := h
    cases x
    rw [ZdY y h]
    rfl
  . cases h
theorem Zek : ∀ (l : List Int), RepL K H Hs (l.map V.int) (l.map fun i => D.sc (.int i)) (fun _ => 0)
 | [] => .nil _
 | i :: l => .cons (m1 := fun _ => 0) (m2 := fun _ => 0) (.sc _ _) (Zek l) fun b => by simp
def ZjG (k : Nat) (is : List Int) : RepL K H Hs (List.replicate k (is.map V.int)).flatten ((List.replicate k is).flatten.map fun i => D.sc (.int i)) (fun _ => 0) := by
 have z := Zek (K := K) (H := H) (Hs := Hs) (List.replicate k is).flatten
 rw [List.map_flatten, List.map_replicate] at z
 exact z
theorem Zn1 (op : Operator) : OpR X (binaryOp op) (r2W X.K (binW op)) := by
 intro pins s σ H x y v u Q I rx ry h
 obtain ⟨Hs, w1, w2, m1, m2, d, hs, h1, h2, v1, v2, e, o⟩ := h
 cases op with
 | Add =>
  replace e : addW w1 w2 = some d := e
  unfold addW at e
  split at e
  . cases e; cases v1; cases v2; exact ZmV pins s σ H _ _ v u Q I rx ry ⟨_, _, rfl, rfl, o.sc⟩
  . split at e
    . rename_i hc; cases e; cases v1; cases v2; exact ZhC pins s σ H _ _ v u Q I rx ry ⟨_, _, rfl, rfl, hc, o.sc⟩
    . cases e
  . unfold newL at e
    split at e
    . rename_i hc
      cases e
      cases v1 with
      | nd n1 r1 => cases v2 with
       | nd n2 r2 =>
        have l1 := r1.len
        have l2 := r2.len
        rw [List.length_append] at hc
        exact Znh pins s σ H _ _ v u Q I rx ry ⟨_, _, _, _, rfl, rfl, n1, n2, by omega, fun p hp => o.new h1 h2 hp (show upd H p _ p = _ from Zl) (r1.app r2)⟩
    . cases e
  . cases e
 | Sub =>
  obtain ⟨i, j, rfl, rfl, e'⟩ := ZcN e
  cases e'; cases v1; cases v2; exact ZmW pins s σ H _ _ v u Q I rx ry ⟨_, _, rfl, rfl, o.sc⟩
 | Mult =>
  replace e : mulW w1 w2 = some d := e
  unfold mulW at e
  split at e
  . split at e
    . rename_i hc; cases e; cases v1; cases v2; exact ZmX pins s σ H _ _ v u Q I rx ry ⟨_, _, rfl, rfl, hc, o.sc⟩
    . cases e
  . split at e
    . rename_i hc
      simp only [Option.map_eq_some_iff] at e
      obtain ⟨is, ei, rfl⟩ := e
      cases v1 with
      | nd n1 r1 =>
       cases v2
       have hl := r1.len
       have ex := ZdY r1 ei
       subst ex
       refine Zni pins s σ H _ _ v u Q I rx ry ⟨_, _, _, rfl, rfl, n1, hc.1, hc.2.1, by rw [hl]; exact hc.2.2, fun p hp => o.new h1 h2 hp (show upd H p _ p = _ from Zl) ?_⟩
       exact (ZjG _ is).mono fun b => Nat.zero_le _
    . cases e
  . cases e
 | FloorDiv =>
  obtain ⟨i, j, rfl, rfl, e'⟩ := ZcN e
  split at e'
  . rename_i hc; cases e'; cases v1; cases v2; exact Zlc pins s σ H _ _ v u Q I rx ry ⟨_, _, rfl, rfl, hc, o.sc⟩
  . cases e'
 | Mod =>
  obtain ⟨i, j, rfl, rfl, e'⟩ := ZcN e
  split at e'
  . rename_i hc; cases e'; cases v1; cases v2; exact ZmY pins s σ H _ _ v u Q I rx ry ⟨_, _, rfl, rfl, hc, o.sc⟩
  . cases e'
 | Pow =>
  obtain ⟨i, j, rfl, rfl, e'⟩ := ZcN e
  split at e'
  . rename_i hc; cases e'; cases v1; cases v2; exact ZmZ pins s σ H _ _ v u Q I rx ry ⟨_, _, rfl, rfl, hc, o.sc⟩
  . cases e'
 | _ => cases e
end
mutual
theorem Rep.den (g : Same Hs H) : ∀ {v : V} {d : D} {m : Bud} {a : PyData}, Rep K H Hs v d m -> py d = some a -> Den K H v a
 | _, _, _, _, .sc .non _, h => by simp only [py, Option.some.injEq] at h; subst h; exact .non
 | _, _, _, _, .sc (.bl b) _, h => by simp only [py, Option.some.injEq] at h; subst h; exact .bl b
 | _, _, _, _, .sc (.int b) _, h => by simp only [py, Option.some.injEq] at h; subst h; exact .int b
 | _, _, _, _, .sc (.str b) _, h => by simp only [py, Option.some.injEq] at h; subst h; exact .str b
 | _, _, _, _, .sc (.byt b) _, h => by simp [py] at h
 | _, _, _, _, .sc (.flt b) _, h => by simp [py] at h
 | _, _, _, _, .sc (.ref b) _, h => by simp [py] at h
 | _, _, _, _, .sc (.ty b) _, h => by simp [py] at h
 | _, _, _, _, .hole v _, h => by simp [py] at h
 | _, _, _, _, .own (k := .lst) n r _, h => by
  simp only [py, Option.map_eq_some_iff] at h
  obtain ⟨x, h, rfl⟩ := h
  exact .lst (.inl (.inl n)) (RepL.den g r h)
 | _, _, _, _, .own (k := .frl) n r _, h => n.elim
 | _, _, _, _, .own (k := .tup) n r _, h => by
  simp only [py, Option.map_eq_some_iff] at h
  obtain ⟨x, h, rfl⟩ := h
  exact .tup (.inl (.inl n)) (RepL.den g r h)
 | _, _, _, _, .own (k := .ftp) n r _, h => n.elim
 | _, _, _, _, .own (k := .dic _) n r _, h => by simp [py] at h
 | _, _, _, _, .own (k := .ins _ _) n r _, h => by simp [py] at h
 | _, _, _, _, .own (k := .exc _ _ _) n r _, h => by simp [py] at h
 | _, _, _, _, .shd (k := .lst) n r, h => by
  simp only [py, Option.map_eq_some_iff] at h
  obtain ⟨x, h, rfl⟩ := h
  exact .lst (.inl (.inl (g _ _ n))) (RepL.den g r h)
 | _, _, _, _, .shd (k := .frl) n r, h => by
  simp only [py, Option.map_eq_some_iff] at h
  obtain ⟨x, h, rfl⟩ := h
  exact .lst (g.seq n) (RepL.den g r h)
 | _, _, _, _, .shd (k := .tup) n r, h => by
  simp only [py, Option.map_eq_some_iff] at h
  obtain ⟨x, h, rfl⟩ := h
  exact .tup (.inl (.inl (g _ _ n))) (RepL.den g r h)
 | _, _, _, _, .shd (k := .ftp) n r, h => by
  simp only [py, Option.map_eq_some_iff] at h
  obtain ⟨x, h, rfl⟩ := h
  exact .tup (Same.tupq' g n) (RepL.den g r h)
 | _, _, _, _, .shd (k := .dic _) n r, h => by simp [py] at h
 | _, _, _, _, .shd (k := .ins _ _) n r, h => by simp [py] at h
 | _, _, _, _, .shd (k := .exc _ _ _) n r, h => by simp [py] at h
theorem RepL.den (g : Same Hs H) : ∀ {vs : List V} {ds : List D} {m : Bud} {as : List PyData}, RepL K H Hs vs ds m -> pyL ds = some as -> DenL K H vs as
 | _, _, _, _, .nil _, h => by simp only [pyL, Option.some.injEq] at h; subst h; exact .nil
 | _, _, _, _, .cons x y _, h => by
  simp only [pyL, Option.bind_eq_some_iff, Option.map_eq_some_iff] at h
  obtain ⟨a, h1, as, h2, rfl⟩ := h
  exact .cons (Rep.den g x h1) (RepL.den g y h2)
end
theorem View.den (g : Same Hs H) (h : View K H Hs v w m) (e : py (toD w) = some a) : Den K H v a := by
 cases h with
 | sc v m => exact Rep.den g (.sc v m) e
 | @nd ad k vs ds m n r =>
  cases k with
  | lst =>
   simp only [toD, py, Option.map_eq_some_iff] at e
   obtain ⟨x, e, rfl⟩ := e
   exact .lst (.inl (.inl n)) (r.den g e)
  | frl =>
   simp only [toD, py, Option.map_eq_some_iff] at e
   obtain ⟨x, e, rfl⟩ := e
   exact .lst n (r.den g e)
  | tup =>
   simp only [toD, py, Option.map_eq_some_iff] at e
   obtain ⟨x, e, rfl⟩ := e
   exact .tup (.inl (.inl n)) (r.den g e)
  | ftp =>
   simp only [toD, py, Option.map_eq_some_iff] at e
   obtain ⟨x, e, rfl⟩ := e
   exact .tup n (r.den g e)
  | dic ks => simp [toD, py] at e
  | ins C fs => simp [toD, py] at e
  | exc ns fr fs => simp [toD, py] at e
section
variable {e a b c : Expr} {es rest : List Expr}
def Zl8 {a b : PyData} {t : Bool} (h : eqPy a b = some t) : SeqAt.shaped a = true /\ SeqAt.shaped b = true /\ PyData.eqv a b = t := by
 unfold eqPy at h
 split at h
 . rename_i q
   exact ⟨q.1, q.2, Option.some.inj h⟩
 . cases h
theorem ZiH {K : Fg} (g : Same Hs H) {x y : V} {t : Bool} (v1 : View K H Hs x w1 m1) (v2 : View K H Hs y w2 m2) (h : eqW w1 w2 = some t) :
 (scal x y = true /\ decide (x = y) = t) \/ ∃ d e, Den K H x d /\ Den K H y e /\ SeqAt.shaped d = true /\ SeqAt.shaped e = true /\ PyData.eqv d e = t := by
 have go : ((py (toD w1)).bind fun a => (py (toD w2)).bind fun b => eqPy a b) = some t -> ∃ d e, Den K H x d /\ Den K H y e /\ SeqAt.shaped d = true /\ SeqAt.shaped e = true /\ PyData.eqv d e = t := fun q => by
  simp only [Option.bind_eq_some_iff] at q
  obtain ⟨d, q1, e, q2, q3⟩ := q
  obtain ⟨s1, s2, s3⟩ := Zl8 q3
  exact ⟨d, e, v1.den g q1, v2.den g q2, s1, s2, s3⟩
 cases v1 with
 | sc u _ => cases v2 with
  | sc v _ =>
   have h : (if scal x y = true then some (decide (x = y)) else (py (.sc x)).bind fun a => (py (.sc y)).bind fun b => eqPy a b) = some t := h
   by_cases q : scal x y = true
   . rw [if_pos q] at h
     exact .inl ⟨q, Option.some.inj h⟩
   . rw [if_neg q] at h
     exact .inr (go h)
  | nd n r => exact .inr (go h)
 | nd n r => exact .inr (go h)
theorem ZjH {c : M D} {r : Bool × List D} (h : ZbH c δ = .ok r) : c δ = .ok (.sc (.bl r.1), r.2) := by
 obtain ⟨d, δ1, e1, e2⟩ := Zb h
 obtain ⟨b, δ2⟩ := r
 obtain ⟨e3, rfl⟩ := ZE e2
 cases d with
 | sc v => cases v with
  | bl t => cases e3; exact e1
  | _ => cases e3
 | _ => cases e3
def Zhj {c : M D} {Q : Bool -> Hp -> Prop} {K : Fg} (h : tT K (ZbH c) σ H Q) : tM K c σ H fun x H' => ∃ k, x = .bl k /\ Q k H' := by
 obtain ⟨δ, Hs, M, b, δ', g, s, e, q⟩ := h
 refine ⟨δ, Hs, M, .sc (.bl b), δ', g, s, ZjH e, fun v H' Hs' m M' g' st r s' => ?_⟩
 cases r
 exact ⟨b, rfl, q H' Hs' M' g'.re (st.drop (fun b => by omega) g'.le) s'⟩
def op1 {K : Fg} {ca : M Op} {f : W -> Option D} {Q : VK} {r : V -> Hp -> VK -> Prop} (h : tM K ((ca.bnd view).bnd fun x => lift (f x)) σ H Q)
 (hr : ∀ (x : V) (H Hs : Hp) (w : W) (m : Bud) (d : D), Same Hs H -> (∀ b, m b <= 1) -> (∀ b, m b = 1 -> H b ≠ none) -> View K H Hs x w m -> f w = some d -> Outs K H Hs m d Q -> r x H Q) : tUn r (tP K ca) σ H Q := by
 obtain ⟨δ, Hs, M, d, δ', g, s, e, q⟩ := h
 obtain ⟨w, δ2, e, e5⟩ := Zb e
 obtain ⟨p, δ1, e1, e3⟩ := Zb e
 obtain ⟨e6, rfl⟩ := ZE e5
 refine ⟨δ, Hs, M, p, δ1, g, s, e1, fun x H2 Hs2 m1 M2 g2 st2 r1 s2 => ?_⟩
 obtain ⟨Hs3, M3, g3, st3, v1, s3⟩ := Zay (B := m1) g2 s2 r1 e3
 have z := Zq (m1 := fun _ => 0) g (g2.re fun b => by simp) (st2.drop (fun b => by simp) g2.le) g3 st3
 have st : Stp H Hs M H2 Hs3 (fun b => m1 b + M3 b) := z.2.1.drop (fun b => by simp) z.1.le
 exact hr x H2 Hs3 w m1 d g3.sub (fun b => by have : m1 b + M3 b <= 1 := g3.le b; omega) (fun b hb => g3.has b (by have : m1 b + M3 b <= 1 := g3.le b; show m1 b + M3 b = 1; omega)) v1 e6 (ZbM st g3 s3 q)
def Zc0 (ha : PE X a (tP X.K ca)) : PE X (.UnaryOp .USub a pos) (tM X.K ((ca.bnd view).bnd fun x => lift (negW x))) :=
 PE.imp (Zpg Zna ha) fun σ H Q h => op1 h fun x H Hs w m d g h1 h2 v e o => by
  unfold negW at e
  split at e
  . cases e; cases v; exact ⟨_, rfl, o.sc⟩
  . cases e
theorem Zn2 (h : View K H Hs v w m) (e : truW w = some t) : TruV K v H t := by
 cases h with
 | sc v m =>
  cases v with
  | bl b => cases e; rfl
  | int i => cases e; show decide (i ≠ 0) = (i != 0); rw [Bool.eq_iff_iff]; simp
  | str x =>
   have e : (if x.length <= sizeLine then some (decide (x.length ≠ 0)) else none) = some t := e
   split at e
   . rename_i q
     cases e
     exact ⟨q, by rw [Bool.eq_iff_iff]; simp⟩
   . cases e
  | non => cases e; rfl
  | _ => cases e
 | @nd a k vs ds m n r =>
  have l : (!vs.isEmpty) = !ds.isEmpty := by
   have := r.len
   cases vs <;> cases ds <;> simp at this ⊢
  cases k with
  | lst => cases e; exact .inl ⟨vs, .inl (.inl n), by rw [l]⟩
  | frl => cases e; exact .inl ⟨vs, n, by rw [l]⟩
  | tup => cases e; exact .inr (.inl ⟨vs, .inl (.inl n), by rw [l]⟩)
  | ftp => cases e; exact .inr (.inl ⟨vs, n, by rw [l]⟩)
  | dic ks =>
   cases e
   obtain ⟨hl, n⟩ := n
   refine .inr (.inr ⟨_, n, ?_⟩)
   rw [<- l]
   cases ks <;> cases vs <;> simp at hl ⊢
  | ins C fs => cases e
  | exc ns fr fs => cases e
def ZbT (ha : PE X e (tP X.K ca)) (he : ∀ whole, isTrue e X.env whole = (do let v <- whole; standAt e.pos; holding [v] (truthy v)) := by intro _; rfl) :
 PT X e (tT X.K (ca.bnd fun p => (view p).bnd fun w => lift (truW w))) := PT.imp (Zjm ha he) fun σ H Q h => by
 obtain ⟨δ, Hs, M, t, δ', g, s, e, q⟩ := h
 obtain ⟨p, δ1, e1, e⟩ := Zb e
 obtain ⟨w, δ2, e3, e5⟩ := Zb e
 obtain ⟨e6, rfl⟩ := ZE e5
 refine ⟨δ, Hs, M, p, δ1, g, s, e1, fun x H2 Hs2 m1 M2 g2 st2 r1 s2 => ?_⟩
 obtain ⟨Hs3, M3, g3, st3, v1, s3⟩ := Zay (B := m1) g2 s2 r1 e3
 have z := Zq (m1 := fun _ => 0) g (g2.re fun b => by simp) (st2.drop (fun b => by simp) g2.le) g3 st3
 exact ⟨t, Zn2 v1 e6, q H2 Hs3 M3 g3.re (z.2.1.drop (fun b => by simp) z.1.le) s3⟩
end
section
variable {e a b c : Expr} {es rest : List Expr}
def PW.imp (h : PW X e t) (w : ∀ σ H Q, t' σ H Q -> t σ H Q) : PW X e t' := fun wh pins s σ H Q I q => h wh pins s σ H Q I (w σ H Q q)
def ZiI (h : tT K (ca.bnd f) σ H Q) : tT K ca σ H fun t H1 => tT K (f t) σ H1 Q := by
 obtain ⟨δ, Hs, M, b, δ', g, s, e, q⟩ := h
 obtain ⟨t, δ1, e1, e2⟩ := Zb e
 refine ⟨δ, Hs, M, t, δ1, g, s, e1, fun H1 Hs1 M1 g1 st1 s1 => ⟨δ1, Hs1, M1, b, δ', g1, s1, e2, fun H2 Hs2 M2 g2 st2 s2 => ?_⟩⟩
 have z := Zq (m1 := fun _ => 0) g (g1.re fun b => by simp) (st1.drop (fun b => by simp) g1.le) g2 st2
 exact q H2 Hs2 M2 g2 (z.2.1.drop (fun b => by simp) z.1.le) s2
def ZfM (h : tT K (M.ret t) σ H Q) : Q t H := by
 obtain ⟨δ, Hs, M, b, δ', g, s, e, q⟩ := h
 have := Zg e
 cases this
 exact q H Hs M g (Stp.refl _ _ _) s
def Zn3 (h : tM K (ca.bnd f) σ H Q) : tT K ca σ H fun t H1 => tM K (f t) σ H1 Q := by
 obtain ⟨δ, Hs, M, b, δ', g, s, e, q⟩ := h
 obtain ⟨t, δ1, e1, e2⟩ := Zb e
 refine ⟨δ, Hs, M, t, δ1, g, s, e1, fun H1 Hs1 M1 g1 st1 s1 => ⟨δ1, Hs1, M1, b, δ', g1, s1, e2, fun v H2 Hs2 m2 M2 g2 st2 r2 s2 => ?_⟩⟩
 have z := Zq (m1 := fun _ => 0) g (g1.re fun b => by simp) (st1.drop (fun b => by simp) g1.le) g2 st2
 exact q v H2 Hs2 m2 M2 g2 (z.2.1.drop (fun b => by simp) z.1.le) r2 s2
def Zc1 (ha : PT X a (tT X.K ca)) : PW X (.BoolOp .Or [a] pos) (tT X.K ca) := ZmK ha
def Zb7 (ha : PT X a (tT X.K ca)) (hb : PW X (.BoolOp .Or (b :: rest) pos) (tT X.K cb)) : PW X (.BoolOp .Or (a :: b :: rest) pos) (tT X.K (ca.bnd fun t => if t then M.ret true else cb)) :=
 PW.imp (ZoV ha hb) fun σ H Q h => by
  obtain ⟨δ, Hs, M, t, δ', g, s, e, q⟩ := ZiI h
  refine ⟨δ, Hs, M, t, δ', g, s, e, fun H' Hs' M' g' st s' => ?_⟩
  have z := q H' Hs' M' g' st s'
  cases t with
  | false => exact z
  | true => exact ZfM z
def Zc2 (ha : PT X a (tT X.K ca)) : PT X (.UnaryOp .Not a pos) (tT X.K (ca.bnd fun t => M.ret (!t))) :=
 PT.imp (ZmL ha) fun σ H Q h => by
  obtain ⟨δ, Hs, M, t, δ', g, s, e, q⟩ := ZiI h
  exact ⟨δ, Hs, M, t, δ', g, s, e, fun H' Hs' M' g' st s' => ZfM (q H' Hs' M' g' st s')⟩
def Zn4 (hc : PT X c (tT X.K ct)) (ha : PE X a (tM X.K ca)) (hb : PE X b (tM X.K cb)) : PE X (.IfExp c a b pos) (tM X.K (ct.bnd fun t => if t then ca else cb)) :=
 PE.imp (Zji hc ha hb) fun σ H Q h => by
  obtain ⟨δ, Hs, M, t, δ', g, s, e, q⟩ := Zn3 h
  refine ⟨δ, Hs, M, t, δ', g, s, e, fun H' Hs' M' g' st s' => ?_⟩
  have z := q H' Hs' M' g' st s'
  cases t with
  | true => exact z
  | false => exact z
def ZfN (h : tM K ((ca.bnd view).bnd f) σ H Q) : tP K ca σ H fun x H1 => ∃ (Hs : Hp) (w : W) (m : Bud), View K H1 Hs x w m /\ tM K (f w) σ H1 Q := by
 obtain ⟨δ, Hs, M, d, δ', g, s, e, q⟩ := h
 obtain ⟨w, δ2, e, e5⟩ := Zb e
 obtain ⟨p, δ1, e1, e3⟩ := Zb e
 refine ⟨δ, Hs, M, p, δ1, g, s, e1, fun x H2 Hs2 m1 M2 g2 st2 r1 s2 => ?_⟩
 obtain ⟨Hs3, M3, g3, st3, v1, s3⟩ := Zay (B := m1) g2 s2 r1 e3
 refine ⟨Hs3, w, m1, v1, δ2, Hs3, M3, d, δ', g3.re, s3, e5, fun v H4 Hs4 m4 M4 g4 st4 r4 s4 => ?_⟩
 have z := Zq (m1 := fun _ => 0) g (g2.re fun b => by simp) (st2.drop (fun b => by simp) g2.le) g3 st3
 have st : Stp H Hs M H2 Hs3 (fun b => m1 b + M3 b) := z.2.1.drop (fun b => by simp) z.1.le
 have z := Zq (m1 := m1) (M1 := M3) g g3 st g4 st4
 exact q v H4 Hs4 m4 M4 g4 (z.2.1.drop (fun b => by omega) z.1.le) r4 s4
def ZfO (h : tM K (M.ret (.sc v)) σ H Q) : Q v H := by
 obtain ⟨δ, Hs, M, b, δ', g, s, e, q⟩ := h
 have := Zg e
 cases this
 exact q v H Hs (fun _ => 0) M (Za4 g) (stp0 _ _ _) (.sc v _) s
def Zc3 (h : tM K stk σ H Q) : False := by
 obtain ⟨δ, Hs, M, b, δ', g, s, e, q⟩ := h
 cases e
def ZfP {op} (ha : PE X a (tM X.K ca)) : PE X (.BoolOp op [a] pos) (tM X.K ca) := ZmM ha
def Zhk (ha : PE X a (tP X.K ca)) (hb : PE X (.BoolOp .And (b :: rest) pos) (tM X.K cb)) : PE X (.BoolOp .And (a :: b :: rest) pos) (tM X.K ((ca.bnd view).bnd (andM cb))) :=
 PE.imp (ZmN ha hb) fun σ H Q h => by
  obtain ⟨δ, Hs, M, t, δ', g, s, e, q⟩ := ZfN h
  refine ⟨δ, Hs, M, t, δ', g, s, e, fun v H' Hs' m M' g' st r s' => ?_⟩
  obtain ⟨Hs2, w, m2, v2, z⟩ := q v H' Hs' m M' g' st r s'
  cases v2 with
  | sc u _ => cases v with
   | bl t => cases t with
    | true => exact ⟨true, rfl, z⟩
    | false => exact ⟨false, rfl, ZfO z⟩
   | _ => exact (Zc3 z).elim
  | nd n r => exact (Zc3 z).elim
def Zn5 (ha : PE X a (tP X.K ca)) (hb : PE X (.BoolOp .Or (b :: rest) pos) (tM X.K cb)) : PE X (.BoolOp .Or (a :: b :: rest) pos) (tM X.K ((ca.bnd view).bnd (orM cb))) :=
 PE.imp (ZoY ha hb) fun σ H Q h => by
  obtain ⟨δ, Hs, M, t, δ', g, s, e, q⟩ := ZfN h
  refine ⟨δ, Hs, M, t, δ', g, s, e, fun v H' Hs' m M' g' st r s' => ?_⟩
  obtain ⟨Hs2, w, m2, v2, z⟩ := q v H' Hs' m M' g' st r s'
  cases v2 with
  | sc u _ => cases v with
   | bl t => cases t with
    | false => exact ⟨false, rfl, z⟩
    | true => exact ⟨true, rfl, ZfO z⟩
   | _ => exact (Zc3 z).elim
  | nd n r => exact (Zc3 z).elim
def Zhl (ha : PE X a (tP X.K ca)) : PE X (.UnaryOp .Not a pos) (tM X.K ((ca.bnd view).bnd fun w => lift (notW w))) :=
 PE.imp (ZmO ha) fun σ H Q h => by
  obtain ⟨δ, Hs, M, t, δ', g, s, e, q⟩ := ZfN h
  refine ⟨δ, Hs, M, t, δ', g, s, e, fun v H' Hs' m M' g' st r s' => ?_⟩
  obtain ⟨Hs2, w, m2, v2, z⟩ := q v H' Hs' m M' g' st r s'
  cases v2 with
  | sc u _ => cases v with
   | bl t => exact ⟨t, rfl, ZfO z⟩
   | _ => exact (Zc3 z).elim
  | nd n r => exact (Zc3 z).elim
def RepL.at {K : Fg} {m : Bud} {d : D} (r : RepL K H Hs vs ds m) (e : ds[j]? = some d) : ∃ (v : V) (m1 : Bud), vs[j]? = some v /\ Rep K H Hs v d m1 /\ ∀ b, m1 b <= m b := r.sep.get e
def Outs.part (h : Outs K H Hs m d Q) (hm : ∀ b, m b <= 1) (hh : ∀ b, m b = 1 -> H b ≠ none) (l : ∀ b, m1 b <= m b) (r : Rep K H Hs v d m1) : Q v H :=
 h v H m1 (Same.refl _) (fun b => Nat.le_trans (l b) (hm b)) (fun b e => hh b (by have := l b; have := hm b; omega)) (fun b _ => l b) r
def Zn6 (n : Nat) (i : Int) : ixN' n i = ixN n i := rfl
def Zp5 : IxR X (r2W X.K ixW) := by
 intro value slice pins s σ H x y v u Q I rx ry h hsl
 obtain ⟨Hs, w1, w2, m1, m2, d, hs, h1, h2, v1, v2, e, o⟩ := h
 have fin : ∀ {ds : List D} {vs : List V} {i : Int}, RepL X.K H Hs vs ds m1 -> ((ixN' ds.length i).bind fun j => ds[j]?) = some d -> ∃ z, atI vs i = some z /\ Q z H := fun {ds vs i} r e => by
  simp only [Option.bind_eq_some_iff] at e
  obtain ⟨j, e1, e2⟩ := e
  obtain ⟨z, m3, e3, rz, l⟩ := r.at e2
  refine ⟨z, ?_, o.part h1 h2 (fun b => by have := l b; omega) rz⟩
  unfold atI
  rw [r.len, <- Zn6, e1]
  exact e3
 unfold ixW at e
 split at e
 . cases v1 with
   | nd n r => cases v2; obtain ⟨z, e1, q⟩ := fin r e; exact Zhe value slice pins s σ H _ _ v u Q I rx ry ⟨_, _, _, z, rfl, rfl, .inl (.inl n), e1, q⟩ hsl
 . cases v1 with
   | nd n r => cases v2; obtain ⟨z, e1, q⟩ := fin r e; exact Zhe value slice pins s σ H _ _ v u Q I rx ry ⟨_, _, _, z, rfl, rfl, n, e1, q⟩ hsl
 . cases v1 with
   | nd n r => cases v2; obtain ⟨z, e1, q⟩ := fin r e; exact Zi3 value slice pins s σ H _ _ v u Q I rx ry ⟨_, _, _, z, rfl, rfl, .inl (.inl n), e1, q⟩ hsl
 . cases v1 with
   | nd n r => cases v2; obtain ⟨z, e1, q⟩ := fin r e; exact Zi3 value slice pins s σ H _ _ v u Q I rx ry ⟨_, _, _, z, rfl, rfl, n, e1, q⟩ hsl
 . split at e
   . rename_i z i hz
     cases v1; cases v2
     simp only [Option.map_eq_some_iff] at e
     obtain ⟨c, e, rfl⟩ := e
     exact Znf value slice pins s σ H _ _ v u Q I rx ry ⟨_, _, c, rfl, rfl, hz, e, o.sc⟩ hsl
   . cases e
 . cases e
end
section
variable {e a b c : Expr} {es rest : List Expr}
def tG.mono {K : Fg} {c : M α} {R : Hp -> Hp -> St -> α -> V -> Bud -> Prop} {Q Q' : VK} (h : tG K c R σ H Q) (w : ∀ v H', Q v H' -> Q' v H') : tG K c R σ H Q' := by
 obtain ⟨δ, Hs, M, a, δ', g, s, e, q⟩ := h
 exact ⟨δ, Hs, M, a, δ', g, s, e, fun v H' Hs' m M' g' st r s' => w v H' (q v H' Hs' m M' g' st r s')⟩
def RepL.take (r : RepL K H Hs vs ds m) (n : Nat) : RepL K H Hs (vs.take n) (ds.take n) m := (r.sep.take n).repL
def RepL.drop (r : RepL K H Hs vs ds m) (n : Nat) : RepL K H Hs (vs.drop n) (ds.drop n) m := (r.sep.drop n).repL
def rSlW (K : Fg) : V -> Option Int -> Option Int -> Hp -> VK -> Prop := fun x lo hi H Q => ∃ (Hs : Hp) (w : W) (m : Bud) (d : D), Same Hs H /\ (∀ b, m b <= 1) /\ (∀ b, m b = 1 -> H b ≠ none) /\ View K H Hs x w m /\ slD w lo hi = some d /\ Outs K H Hs m d Q
def Zp6 : SlR X (rSlW X.K) := by
 intro pins s σ H x v vl vu lo hi sl Q I rx hsl pl pu h
 obtain ⟨Hs, w, m, d, hs, h1, h2, v1, e, o⟩ := h
 have go : ∀ {a : Addr} {vs : List V} {ds : List D}, RepL X.K H Hs vs ds m -> d = .node .lst true (cutD ds lo hi) -> ∀ p, H p = none -> Q (.ref p) (upd H p (.lst (cutV vs lo hi))) := fun {a vs ds} r e p hp => by
  subst e
  refine o.new h1 h2 hp (vs := cutV vs lo hi) Zl ?_
  unfold cutV cutD
  rw [r.len]
  exact (r.drop _).take _
 unfold slD at e
 split at e
 . cases v1 with
   | nd n r => exact Zhf pins s σ H _ v vl vu lo hi sl Q I rx hsl pl pu ⟨_, _, rfl, .inl (.inl n), go (a := 0) r (Option.some.inj e).symm⟩
 . cases v1 with
   | nd n r => exact Zhf pins s σ H _ v vl vu lo hi sl Q I rx hsl pl pu ⟨_, _, rfl, n, go (a := 0) r (Option.some.inj e).symm⟩
 . split at e
   . rename_i hz
     cases e
     cases v1
     exact Znw pins s σ H _ v vl vu lo hi sl Q I rx hsl pl pu ⟨_, rfl, hz, o.sc⟩
   . cases e
 . cases e
inductive tW (K : Fg) (c : M (Option Int)) (σ : St) (H : Hp) (Q : Option Int -> Hp -> Prop) : Prop
 | mk (δ : List D) (Hs : Hp) (M : Bud) (l : Option Int) (δ' : List D) (h0 : Good H Hs M) (h1 : RepS K H Hs σ δ M) (h2 : c δ = .ok (l, δ')) (h3 : ∀ (H' Hs' : Hp) (M' : Bud), Good H' Hs' M' -> Stp H Hs M H' Hs' M' -> RepS K H' Hs' σ δ' M' -> Q l H') : tW K c σ H Q
def PO.imp (h : PO X o t) (w : ∀ σ H Q, t' σ H Q -> t σ H Q) : PO X o t' := fun pins s σ H Q I q => h pins s σ H Q I (w σ H Q q)
def Zbx : PO X none (tW X.K (M.ret none)) := PO.imp Zll fun σ H Q h => by
 obtain ⟨δ, Hs, M, b, δ', g, s, e, q⟩ := h
 have := Zg e
 cases this
 exact q H Hs M g (Stp.refl _ _ _) s
theorem Zak (ha : PE X a (tP X.K ca)) : PO X (some a) (tW X.K ((ca.bnd view).bnd fun w => lift (intP w))) := PO.imp (Zlm ha) fun σ H Q h => by
 obtain ⟨δ, Hs, M, l, δ', g, s, e, q⟩ := h
 obtain ⟨w, δ2, e, e5⟩ := Zb e
 obtain ⟨p, δ1, e1, e3⟩ := Zb e
 obtain ⟨e6, rfl⟩ := ZE e5
 refine ⟨δ, Hs, M, p, δ1, g, s, e1, fun x H2 Hs2 m1 M2 g2 st2 r1 s2 => ?_⟩
 obtain ⟨Hs3, M3, g3, st3, v1, s3⟩ := Zay (B := m1) g2 s2 r1 e3
 have z := Zq (m1 := fun _ => 0) g (g2.re fun b => by simp) (st2.drop (fun b => by simp) g2.le) g3 st3
 have fin := q H2 Hs3 M3 g3.re (z.2.1.drop (fun b => by simp) z.1.le) s3
 cases v1 with
 | sc u _ => cases x with
  | int i => cases e6; exact ⟨i, rfl, fin⟩
  | _ => cases e6
 | nd n r => cases e6
variable {lo hi : Option Expr} {ca : M Op} {cl ch : M (Option Int)} {p2 : Pos}
def Zbc (ha : PE X a (tP X.K ca)) (hl : PO X lo (tW X.K cl)) (hh : PO X hi (tW X.K ch)) :
 PE X (.Subscript a (.Slice lo hi none p2) pos) (tM X.K (ca.bnd fun p => cl.bnd fun l => ch.bnd fun h => (view p).bnd fun x => lift (slD x l h))) :=
 PE.imp (Zjq Zp6 ha hl hh) fun σ H Q h => by
  obtain ⟨δ, Hs, M, d, δ', g, s, e, q⟩ := h
  obtain ⟨p, δ1, e1, e⟩ := Zb e
  obtain ⟨l, δ2, e2, e⟩ := Zb e
  obtain ⟨u, δ3, e3, e⟩ := Zb e
  obtain ⟨w, δ4, e4, e⟩ := Zb e
  obtain ⟨e7, rfl⟩ := ZE e
  refine ⟨δ, Hs, M, p, δ1, g, s, e1, fun x H1 Hs1 m1 M1 g1 st1 r1 s1 => ⟨δ1, Hs1, M1, l, δ2, g1.re, s1, e2, fun H2 Hs2 M2 g2 st2 s2 => ⟨δ2, Hs2, M2, u, δ3, g2, s2, e3, fun H3 Hs3 M3 g3 st3 s3 => ?_⟩⟩⟩
  obtain ⟨G2, S2, k2⟩ := Zq g g1 st1 g2 st2
  obtain ⟨G3, S3, k3⟩ := Zq g G2 S2 g3 st3
  have r2 := RepP.frame st2.grow k2 r1
  have r3 := RepP.frame st3.grow (fun b hb hn => k3 b hb hn) r2
  obtain ⟨Hs4, M4, g4, st4, v4, s4⟩ := Zay (B := m1) G3 s3 r3 e4
  have z := Zq (m1 := fun _ => 0) g (G3.re fun b => by simp) (S3.drop (fun b => by simp) G3.le) g4 st4
  have S4 : Stp H Hs M H3 Hs4 (fun b => m1 b + M4 b) := z.2.1.drop (fun b => by simp) z.1.le
  have le : ∀ b, m1 b + M4 b <= 1 := g4.le
  exact ⟨Hs4, w, m1, d, g4.sub, fun b => by have := le b; omega, fun b hb => g4.has b (by have := le b; show m1 b + M4 b = 1; omega), v4, e7, ZbM S4 g4 s4 q⟩
theorem ZeI : ∀ {fs : List Str} {vs : List V} {ds : List D} {m : Bud} {d : D}, RepL K H Hs vs ds m -> fs.length = vs.length -> Zcj f fs ds = some d -> ∃ (v : V) (m1 : Bud), (fs.zip vs).lookup f = some v /\ Rep K H Hs v d m1 /\ ∀ b, m1 b <= m b
 | [], _, _, _, _, _, _, h => by simp [Zcj] at h
 | _ :: _, _, _, _, _, .nil _, hl, h => by simp at hl
 | g :: fs, v :: vs, d' :: ds, m, d, .cons (m1 := m1) (m2 := m2) x y c, hl, h => by
  simp only [Zcj] at h
  by_cases e : g = f
  . rw [if_pos e] at h
    cases h
    refine ⟨v, m1, ?_, x, fun b => by have := c b; omega⟩
    subst e
    simp [List.lookup]
  . rw [if_neg e] at h
    obtain ⟨v', m', h1, h2, h3⟩ := ZeI y (by simpa using hl) h
    refine ⟨v', m', ?_, h2, fun b => by have := c b; have := h3 b; omega⟩
    rw [List.zip_cons_cons]
    have hb : (f == g) = false := beq_eq_false_iff_ne.mpr (fun q => e q.symm)
    simp only [List.lookup, hb]
    exact h1
def ZfQ (hf : ∀ C f, ok C f = true -> Cls X.K C /\ ZJ X.K C f) (ha : PE X a (tP X.K ca)) (hb : attributeBase a f X.env (eval a X.env) = eval a X.env := by rfl) :
 PE X (.Attribute a f pos) (tM X.K ((ca.bnd view).bnd fun x => lift (fldW ok f x))) :=
 PE.imp (Znc ha hb) fun σ H Q h => op1 (r := fun x H1 Q => ∃ a C dx fs v, x = .ref a /\ H1 a = some (.ins C dx fs) /\ Cls X.K C /\ ZJ X.K C f /\ fs.lookup f = some v /\ Q v H1) h fun x H Hs w m d g h1 h2 v e o => by
  unfold fldW at e
  split at e
  . split at e
    . rename_i C fs ds hok
      cases v with
      | nd n r =>
       obtain ⟨hl, dx, n⟩ := n
       obtain ⟨z, m1, e1, rz, l⟩ := ZeI r hl e
       exact ⟨_, C, dx, _, z, rfl, n, (hf C f hok).1, (hf C f hok).2, e1, o.part h1 h2 l rz⟩
    . cases e
  . cases e
def Zi : PA X [] (tPs X.K (M.ret [])) := PA.imp ZaX fun σ H Q h => by
 obtain ⟨δ, Hs, M, b, δ', g, s, e, q⟩ := h
 have := Zg e
 cases this
 exact q [] H Hs (fun _ => 0) M (Za4 g) (stp0 _ _ _) trivial s
def Zd (ha : PE X e (tP X.K ca)) (hr : PA X es (tPs X.K cs)) (hs : SE X e es := by rfl) :
 PA X (e :: es) (tPs X.K (ca.bnd fun p => cs.bnd fun ps => M.ret (p :: ps))) := PA.imp (Zaf ha hr hs) fun σ H Q h => by
 obtain ⟨δ, Hs, M, b, δ', g, s, e, q⟩ := h
 obtain ⟨p, δ1, e1, e⟩ := Zb e
 obtain ⟨ps, δ2, e2, e⟩ := Zb e
 have := Zg e
 cases this
 refine ⟨δ, Hs, M, p, δ1, g, s, e1, fun x H1 Hs1 m1 M1 g1 st1 r1 s1 => ⟨δ1, Hs1, M1, ps, _, g1.re, s1, e2, fun xs H2 Hs2 m2 M2 g2 st2 r2 s2 => ?_⟩⟩
 obtain ⟨G2, S2, k2⟩ := Zq g g1 st1 g2 st2
 exact q (x :: xs) H2 Hs2 (fun b => m1 b + m2 b) M2 (G2.re fun b => by omega) (S2.drop (fun b => by omega) G2.le) ⟨m1, m2, r1.frame st2.grow k2, r2, fun b => Nat.le_refl _⟩ s2
def Zu : PA X [] (tDs X.K (M.ret [])) := PA.imp ZaX fun σ H Q h => by
 obtain ⟨δ, Hs, M, b, δ', g, s, e, q⟩ := h
 have := Zg e
 cases this
 exact q [] H Hs (fun _ => 0) M (Za4 g) (stp0 _ _ _) (.nil _) s
def Zj {c : M D} {cs : M (List D)} (ha : PE X e (tM X.K c)) (hr : PA X es (tDs X.K cs)) (hs : SE X e es := by rfl) :
 PA X (e :: es) (tDs X.K (c.bnd fun p => cs.bnd fun ps => M.ret (p :: ps))) := PA.imp (Zaf ha hr hs) fun σ H Q h => by
 obtain ⟨δ, Hs, M, b, δ', g, s, e, q⟩ := h
 obtain ⟨p, δ1, e1, e⟩ := Zb e
 obtain ⟨ps, δ2, e2, e⟩ := Zb e
 have := Zg e
 cases this
 refine ⟨δ, Hs, M, p, δ1, g, s, e1, fun x H1 Hs1 m1 M1 g1 st1 r1 s1 => ⟨δ1, Hs1, M1, ps, _, g1.re, s1, e2, fun xs H2 Hs2 m2 M2 g2 st2 r2 s2 => ?_⟩⟩
 obtain ⟨G2, S2, k2⟩ := Zq g g1 st1 g2 st2
 exact q (x :: xs) H2 Hs2 (fun b => m1 b + m2 b) M2 (G2.re fun b => by omega) (S2.drop (fun b => by omega) G2.le) (.cons (r1.frame st2.grow k2) r2 fun b => Nat.le_refl _) s2
def Zhm {K : Fg} {cs : M (List D)} {f : List D -> Option D} {Q : VK} (h : tM K (cs.bnd fun ds => lift (f ds)) σ H Q) : tDs K cs σ H fun vs H1 => ∃ (Hs : Hp) (m : Bud) (ds : List D) (d : D), (∀ b, m b <= 1) /\ (∀ b, m b = 1 -> H1 b ≠ none) /\ RepL K H1 Hs vs ds m /\ f ds = some d /\ Outs K H1 Hs m d Q := by
 obtain ⟨δ, Hs, M, b, δ', g, s, e, q⟩ := h
 obtain ⟨ds, δ1, e1, e⟩ := Zb e
 obtain ⟨e2, rfl⟩ := ZE e
 refine ⟨δ, Hs, M, ds, _, g, s, e1, fun vs H1 Hs1 m1 M1 g1 st1 r1 s1 => ⟨Hs1, m1, ds, b, fun b => by have : m1 b + M1 b <= 1 := g1.le b; omega, fun b hb => g1.has b (by have : m1 b + M1 b <= 1 := g1.le b; show m1 b + M1 b = 1; omega), r1, e2, ZbM st1 g1 s1 q⟩⟩
def ZY (h : PA X es (tDs X.K cs)) : PE X (.List es pos) (tM X.K (cs.bnd fun ds => lift (newL ds))) := PE.imp (Zi0 h) fun σ H Q hq => by
 obtain ⟨δ, Hs, M, ds, δ', g, s, e, q⟩ := Zhm hq
 refine ⟨δ, Hs, M, ds, δ', g, s, e, fun vs H1 Hs1 m1 M1 g1 st1 r1 s1 => ?_⟩
 obtain ⟨Hs2, m, ds, d, h1, h2, r, e, o⟩ := q vs H1 Hs1 m1 M1 g1 st1 r1 s1
 unfold newL at e
 split at e
 . rename_i hl
   cases e
   exact ⟨by rw [r.len]; exact hl, fun p hp => o.new h1 h2 hp (vs := vs) Zl r⟩
 . cases e
def ZF (h : PA X es (tDs X.K cs)) : PE X (.Tuple es k pos) (tM X.K (cs.bnd fun ds => lift (newT ds))) := PE.imp (Zne h) fun σ H Q hq => by
 obtain ⟨δ, Hs, M, ds, δ', g, s, e, q⟩ := Zhm hq
 refine ⟨δ, Hs, M, ds, δ', g, s, e, fun vs H1 Hs1 m1 M1 g1 st1 r1 s1 => ?_⟩
 obtain ⟨Hs2, m, ds, d, h1, h2, r, e, o⟩ := q vs H1 Hs1 m1 M1 g1 st1 r1 s1
 unfold newT at e
 split at e
 . rename_i hl
   cases e
   exact ⟨by rw [r.len]; exact hl, fun p hp => o.new h1 h2 hp (vs := vs) Zl r⟩
 . cases e
end
def Views (K : Fg) (H Hs : Hp) : List V -> List W -> Bud -> Prop
 | [], [], _ => True
 | v :: vs, w :: ws, m => ∃ m1 m2 : Bud, View K H Hs v w m1 /\ Views K H Hs vs ws m2 /\ ∀ b, m1 b + m2 b <= m b
 | _, _, _ => False
theorem ZfR {K : Fg} {B : Bud} : ∀ {ps : List Op} {vs : List V} {Hs : Hp} {δ δ' : List D} {M m : Bud} {ws : List W}, Good H Hs (fun b => B b + M b) -> RepS K H Hs σ δ M -> ZaF K H Hs σ vs ps m -> views ps δ = .ok (ws, δ') ->
 ∃ Hs' M', Good H Hs' (fun b => B b + M' b) /\ Stp H Hs (fun b => B b + M b) H Hs' (fun b => B b + M' b) /\ Views K H Hs' vs ws m /\ RepS K H Hs' σ δ' M'
 | [], [], Hs, δ, δ', M, m, ws, g, s, r, e => by
  have := Zg e
  cases this
  exact ⟨Hs, M, g, Stp.refl _ _ _, trivial, s⟩
 | [], _ :: _, _, _, _, _, _, _, _, _, r, _ => r.elim
 | _ :: _, [], _, _, _, _, _, _, _, _, r, _ => r.elim
 | p :: ps, v :: vs, Hs, δ, δ', M, m, ws, g, s, ⟨m1, m2, r1, r2, l⟩, e => by
  obtain ⟨w, δ1, e1, e⟩ := Zb e
  obtain ⟨ws', δ2, e2, e⟩ := Zb e
  have := Zg e
  cases this
  obtain ⟨Hs1, M1, g1, st1, v1, s1⟩ := Zay g s r1 e1
  obtain ⟨Hs2, M2, g2, st2, v2, s2⟩ := ZfR g1 s1 (r2.frame st1.grow fun _ _ _ => rfl) e2
  have z := Zq (m1 := fun _ => 0) g (g1.re fun b => by simp) (st1.drop (fun b => by simp) g1.le) g2 st2
  exact ⟨Hs2, M2, g2, z.2.1.drop (fun b => by simp) z.1.le, ⟨m1, m2, v1.frame st2.grow, v2, l⟩, s2⟩
inductive rNW (K : Fg) (f : List W -> Option D) (vs : List V) (H : Hp) (Q : VK) : Prop
 | mk (Hs : Hp) (ws : List W) (m : Bud) (d : D) (h0 : Same Hs H) (h1 : (∀ b, m b <= 1)) (h2 : (∀ b, m b = 1 -> H b ≠ none)) (h3 : Views K H Hs vs ws m) (h4 : f ws = some d) (h5 : Outs K H Hs m d Q) : rNW K f vs H Q
def opN (h : tM K (cs.bnd fun ps => (views ps).bnd fun ws => lift (f ws)) σ H Q) : tPs K cs σ H fun vs H1 => rNW K f vs H1 Q := by
 obtain ⟨δ, Hs, M, d, δ', g, s, e, q⟩ := h
 obtain ⟨ps, δ1, e1, e⟩ := Zb e
 obtain ⟨ws, δ2, e2, e⟩ := Zb e
 obtain ⟨e3, rfl⟩ := ZE e
 refine ⟨δ, Hs, M, ps, δ1, g, s, e1, fun vs H1 Hs1 m1 M1 g1 st1 r1 s1 => ?_⟩
 obtain ⟨Hs2, M2, g2, st2, v2, s2⟩ := ZfR (B := m1) g1 s1 r1 e2
 have z := Zq (m1 := fun _ => 0) g (g1.re fun b => by simp) (st1.drop (fun b => by simp) g1.le) g2 st2
 have S : Stp H Hs M H1 Hs2 (fun b => m1 b + M2 b) := z.2.1.drop (fun b => by simp) z.1.le
 have le : ∀ b, m1 b + M2 b <= 1 := g2.le
 exact ⟨Hs2, ws, m1, d, g2.sub, fun b => by have := le b; omega, fun b hb => g2.has b (by have := le b; show m1 b + M2 b = 1; omega), v2, e3, ZbM S g2 s2 q⟩
theorem Views.one (h : Views K H Hs vs [w] m) : ∃ (v : V) (m1 : Bud), vs = [v] /\ View K H Hs v w m1 /\ ∀ b, m1 b <= m b := by
 cases vs with
 | nil => exact h.elim
 | cons v vs =>
  obtain ⟨m1, m2, h1, h2, l⟩ := h
  cases vs with
  | nil => exact ⟨v, m1, rfl, h1, fun b => by have := l b; omega⟩
  | cons _ _ => exact h2.elim
theorem Views.two (h : Views K H Hs vs [w, w'] m) : ∃ (v v' : V) (m1 m2 : Bud), vs = [v, v'] /\ View K H Hs v w m1 /\ View K H Hs v' w' m2 /\ ∀ b, m1 b + m2 b <= m b := by
 cases vs with
 | nil => exact h.elim
 | cons v vs =>
  obtain ⟨m1, m2, h1, h2, l⟩ := h
  obtain ⟨v', m3, rfl, h3, l'⟩ := Views.one h2
  exact ⟨v, v', m1, m3, rfl, h1, h3, fun b => by have := l b; have := l' b; omega⟩
section
variable {e : Expr} {es : List Expr} {p : Pos} {x : Str} {id ty : String} {f : BF} {cs : M (List Op)}
def ZB (hc : ZI X (.builtin id) (rNW X.K (bfW f))) (hm : X.mg x = none) (hv : bootBuiltins x = some (.builtin id)) (ha : PA X (e :: es) (tPs X.K cs)) (hz : glOk X.env.scope x = true := by kernel_rfl) (he : SE X e es := by rfl) (hpl : SFx X pos es := by rfl) :
 PE X (.Call (.Name x p) (e :: es) [] pos) (tM X.K (cs.bnd fun ps => (views ps).bnd fun ws => lift (bfW f ws))) := PE.imp (ZcI hc (glk hz) hm hv ha (nmk hz) (dbk hz) he hpl) fun σ H Q h => opN h
def ZbU (hc : ZI X (.type ty) (rNW X.K (bfW f))) (hm : X.mg x = none) (hv : bootBuiltins x = some (.type ty)) (ha : PA X (e :: es) (tPs X.K cs)) (hz : glOk X.env.scope x = true := by kernel_rfl) (he : SE X e es := by rfl) (hpl : SFx X pos es := by rfl) :
 PE X (.Call (.Name x p) (e :: es) [] pos) (tM X.K (cs.bnd fun ps => (views ps).bnd fun ws => lift (bfW f ws))) := PE.imp (Zi2 hc (glk hz) hm hv ha (nmk hz) (dbk hz) he hpl) fun σ H Q h => opN h
def ZL : ZI X (.builtin "len") (rNW X.K (bfW .len)) := by
 intro pins s σ H xs us Q I r h
 obtain ⟨Hs, ws, m, d, hs, h1, h2, v, e, o⟩ := h
 replace e : lenB _ = _ := e
 unfold lenB at e
 split at e <;> first | (rename_i z; cases z; done) | skip
 all_goals first
  | (obtain ⟨y, m1, rfl, v, l⟩ := v.one
     cases v with
     | nd n r' =>
      have hl := r'.len
      cases e
      first
      | exact ZaY pins s σ H _ us Q I r ⟨_, _, rfl, .inl (.inl (.inl n)), by rw [hl]; exact o.sc⟩
      | exact ZaY pins s σ H _ us Q I r ⟨_, _, rfl, .inl n, by rw [hl]; exact o.sc⟩
      | exact ZaY pins s σ H _ us Q I r ⟨_, _, rfl, .inr n, by rw [hl]; exact o.sc⟩
      | exact ZaY pins s σ H _ us Q I r ⟨_, _, rfl, .inr (.inl (.inl n)), by rw [hl]; exact o.sc⟩
      | (obtain ⟨n1, n2⟩ := n
         exact Zi9 pins s σ H _ us Q I r ⟨_, _, rfl, n2, by rw [List.length_zip, n1, Nat.min_self, hl]; exact o.sc⟩))
  | (obtain ⟨y, m1, rfl, v, l⟩ := v.one
     split at e
     . rename_i hz
       cases e
       cases v
       exact ZfB pins s σ H _ us Q I r ⟨_, rfl, hz, o.sc⟩
     . cases e)
  | cases e
def ZfS : ZI X (.type "str") (rNW X.K (bfW .str)) := by
 intro pins s σ H xs us Q I r h
 obtain ⟨Hs, ws, m, d, hs, h1, h2, v, e, o⟩ := h
 replace e : strB _ = _ := e
 unfold strB at e
 split at e <;> first | (rename_i z; cases z; done) | skip
 all_goals first
  | (obtain ⟨y, m1, rfl, v, l⟩ := v.one
     split at e
     . rename_i hz
       cases v
       cases e
       exact Zf8 pins s σ H _ us Q I r ⟨_, rfl, hz, o.sc⟩
     . cases e)
  | cases e
def ZfT : ZI X (.type "int") (rNW X.K (bfW .int)) := by
 intro pins s σ H xs us Q I r h
 obtain ⟨Hs, ws, m, d, hs, h1, h2, v, e, o⟩ := h
 replace e : intB _ = _ := e
 unfold intB at e
 split at e <;> first | (rename_i z; cases z; done) | skip
 all_goals first
  | (obtain ⟨y, m1, rfl, v, l⟩ := v.one
     cases v
     cases e
     first
     | exact ZeW pins s σ H _ us Q I r (.inl ⟨_, rfl, o.sc⟩)
     | exact ZeW pins s σ H _ us Q I r (.inr ⟨_, rfl, o.sc⟩))
  | (obtain ⟨y, m1, rfl, v, l⟩ := v.one
     cases v
     split at e
     . rename_i n hz
       split at e
       . rename_i hl
         cases e
         exact ZfJ pins s σ H _ us Q I r ⟨_, n, rfl, hz, hl, o.sc⟩
       . cases e
     . cases e)
  | cases e
def Zl9 : ZI X (.type "list") (rNW X.K (bfW .list)) := by
 intro pins s σ H xs us Q I r h
 obtain ⟨Hs, ws, m, d, hs, h1, h2, v, e, o⟩ := h
 replace e : ZhS _ = _ := e
 unfold ZhS at e
 split at e <;> first | (rename_i z; cases z; done) | skip
 all_goals first
  | (obtain ⟨y, m1, rfl, v, l⟩ := v.one
     cases v with
     | nd n r' =>
      cases e
      have go : ∀ p, H p = none -> Q (.ref p) (upd H p (.lst _)) := fun p hp => o.new h1 h2 hp Zl (r'.mono l)
      first
      | exact ZaZ pins s σ H _ us Q I r ⟨_, _, rfl, .inl (.inl (.inl n)), go⟩
      | exact ZaZ pins s σ H _ us Q I r ⟨_, _, rfl, .inl n, go⟩
      | exact ZaZ pins s σ H _ us Q I r ⟨_, _, rfl, .inr n, go⟩
      | exact ZaZ pins s σ H _ us Q I r ⟨_, _, rfl, .inr (.inl (.inl n)), go⟩)
  | cases e
theorem Zdi : ∀ {ds : List D} {vs : List V} {m : Bud} {is : List Bool}, RepL K H Hs vs ds m -> ZaC ds = some is -> vs = is.map V.bl
 | [], _, _, is, .nil _, h => by simp only [ZaC, Option.some.injEq] at h; subst h; rfl
 | d :: ds, _, _, is, .cons x y _, h => by
  unfold ZaC at h
  split at h
  . rename_i hh; cases hh
  . rename_i i r hh
    injection hh with h1 h2
    subst h1 h2
    (simp only [Option.map_eq_some_iff] at h)
    obtain ⟨js, h, rfl⟩ := h
    cases x
    rw [Zdi y h]
    rfl
  . cases h
def Zn7 (hc : X.calm = true) : ZI X (.builtin "all") (rNW X.K (bfW .all)) := by
 intro pins s σ H xs us Q I r h
 obtain ⟨Hs, ws, m, d, hs, h1, h2, v, e, o⟩ := h
 replace e : allB _ = _ := e
 unfold allB at e
 split at e <;> first | (rename_i z; cases z; done) | skip
 all_goals first
  | (obtain ⟨y, m1, rfl, v, l⟩ := v.one
     cases v with
     | nd n r' =>
      simp only [Option.map_eq_some_iff] at e
      obtain ⟨is, e, rfl⟩ := e
      have ei := Zdi r' e
      subst ei
      exact ZjB hc pins s σ H _ us Q I r ⟨_, _, rfl, .inl (.inl n), o.sc⟩)
  | cases e
def Zn8 (hc : X.calm = true) : ZI X (.builtin "any") (rNW X.K (bfW .any)) := by
 intro pins s σ H xs us Q I r h
 obtain ⟨Hs, ws, m, d, hs, h1, h2, v, e, o⟩ := h
 replace e : anyB _ = _ := e
 unfold anyB at e
 split at e <;> first | (rename_i z; cases z; done) | skip
 all_goals first
  | (obtain ⟨y, m1, rfl, v, l⟩ := v.one
     cases v with
     | nd n r' =>
      simp only [Option.map_eq_some_iff] at e
      obtain ⟨is, e, rfl⟩ := e
      have ei := Zdi r' e
      subst ei
      exact ZjC hc pins s σ H _ us Q I r ⟨_, _, rfl, .inl (.inl n), o.sc⟩)
  | cases e
end
noncomputable def kitB (a b : String) : Option Bool := if (Value.type a == Value.type b) = true then some true else if PySem.W.kitMeta b = true then (PySem.fastBuiltinMro a).map (·.contains (.type b)) else none
def ZbN (K : Fg) (a b : String) : PySem.W.kitOne K (.type a) (.type b) = kitB a b := rfl
noncomputable def tyS : Ty -> Option String
 | .int => some "int" | .bool => some "bool" | .str => some "str" | .list => some "list" | .tuple => some "tuple" | .dict => some "dict" | .own _ => none
def Zp7 : kitB "int" "int" = some true := by decide +kernel
def Zp8 : kitB "bool" "int" = some true := by decide +kernel
def Zp9 : kitB "str" "int" = some false := by decide +kernel
def ZpA : kitB "NoneType" "int" = some false := by decide +kernel
def ZpB : kitB "list" "int" = some false := by decide +kernel
def ZpC : kitB "tuple" "int" = some false := by decide +kernel
def ZpD : kitB "bool" "bool" = some true := by decide +kernel
def ZpE : kitB "int" "bool" = some false := by decide +kernel
def ZpF : kitB "str" "bool" = some false := by decide +kernel
def ZpG : kitB "NoneType" "bool" = some false := by decide +kernel
def ZpH : kitB "list" "bool" = some false := by decide +kernel
def ZpI : kitB "tuple" "bool" = some false := by decide +kernel
def ZpJ : kitB "str" "str" = some true := by decide +kernel
def ZpK : kitB "int" "str" = some false := by decide +kernel
def ZpL : kitB "bool" "str" = some false := by decide +kernel
def ZpM : kitB "NoneType" "str" = some false := by decide +kernel
def ZpN : kitB "list" "str" = some false := by decide +kernel
def ZpO : kitB "tuple" "str" = some false := by decide +kernel
def ZpP : kitB "list" "list" = some true := by decide +kernel
def ZpQ : kitB "tuple" "list" = some false := by decide +kernel
def ZpR : kitB "int" "list" = some false := by decide +kernel
def ZpS : kitB "bool" "list" = some false := by decide +kernel
def ZpT : kitB "str" "list" = some false := by decide +kernel
def ZpU : kitB "NoneType" "list" = some false := by decide +kernel
def ZpV : kitB "tuple" "tuple" = some true := by decide +kernel
def ZpW : kitB "list" "tuple" = some false := by decide +kernel
def ZpX : kitB "int" "tuple" = some false := by decide +kernel
def ZpY : kitB "bool" "tuple" = some false := by decide +kernel
def ZpZ : kitB "str" "tuple" = some false := by decide +kernel
def Zqa : kitB "NoneType" "tuple" = some false := by decide +kernel
theorem Zqb (hn : tyS t = some n) (hv : View K H Hs v w m) (h : tyW t w = some b) : ∃ tv, TyOf K H v tv /\ PySem.W.kitOne K tv (.type n) = some b := by
 cases hv with
 | sc v _ =>
  cases t <;> cases hn <;> cases v <;> cases h <;> first
   | exact ⟨_, .int _, by rw [ZbN]; first | exact Zp7 | exact ZpE | exact ZpK | exact ZpR | exact ZpX⟩
   | exact ⟨_, .bl _, by rw [ZbN]; first | exact Zp8 | exact ZpD | exact ZpL | exact ZpS | exact ZpY⟩
   | exact ⟨_, .str _, by rw [ZbN]; first | exact Zp9 | exact ZpF | exact ZpJ | exact ZpT | exact ZpZ⟩
   | exact ⟨_, .non, by rw [ZbN]; first | exact ZpA | exact ZpG | exact ZpM | exact ZpU | exact Zqa⟩
 | @nd a k vs ds m n r =>
  cases t <;> cases hn <;> cases k <;> cases h <;> first
   | exact ⟨_, .lst n, by rw [ZbN]; first | exact ZpB | exact ZpH | exact ZpN | exact ZpP | exact ZpW⟩
   | exact ⟨_, .tup n, by rw [ZbN]; first | exact ZpC | exact ZpI | exact ZpO | exact ZpQ | exact ZpV⟩
section
def Zn9 (hn : tyS t = some n) (hg : Gl X "isinstance") (hm : X.mg "isinstance" = none) (ha : PE X a (tP X.K ca)) (hc : PE X c (tC (.ty n))) (hs : starEach [a, c] X.env = [(false, eval a X.env), (false, eval c X.env)] := by rfl)
 (hs1 : starEach [c] X.env = [(false, eval c X.env)] := by rfl) :
 PE X (.Call (.Name "isinstance" p) [a, c] [] pos) (tM X.K ((ca.bnd fun p => (M.ret ([] : List Op)).bnd fun ps => M.ret (p :: ps)).bnd fun ps => (views ps).bnd fun ws => lift (bfW (.isi t) ws))) :=
 PE.imp (ZcI (ZjA (.ty n) (.type n) rfl fun u h => h) hg hm ZbR (Zaf ha (Zaf hc ZaX (by show _ = _; rw [hs1]; rfl)) (by show _ = _; rw [hs, hs1])) (by decide) (by decide) (by show _ = _; rw [hs, hs1]) (by show _ = _; rw [hs1]; rfl)) fun σ H Q h => by
  have h2 : tM X.K ((ca.bnd view).bnd fun w => lift (bfW (.isi t) [w])) σ H Q := by
   obtain ⟨δ, Hs, M, d, δ', g, s, e, q⟩ := h
   refine ⟨δ, Hs, M, d, δ', g, s, ?_, q⟩
   obtain ⟨ps, δ1, e1, e⟩ := Zb e
   obtain ⟨pp, δ2, e2, e3⟩ := Zb e1
   obtain ⟨z, δ3, e4, e5⟩ := Zb e3
   have := Zg e4
   cases this
   have := Zg e5
   cases this
   obtain ⟨ws, δ4, e6, e⟩ := Zb e
   obtain ⟨w, δ5, e7, e8⟩ := Zb e6
   obtain ⟨z, δ6, e9, e10⟩ := Zb e8
   have := Zg e9
   cases this
   have := Zg e10
   cases this
   show T.M.bnd (ca.bnd view) _ δ = _
   unfold T.M.bnd
   rw [e2]
   dsimp only
   rw [e7]
   exact e
  refine op1 (r := fun x H1 Q => ∃ x' t' b, [x, V.ty n] = [x', V.ty n] /\ TyOf X.K H1 x' t' /\ PySem.W.kitOne X.K t' (.type n) = some b /\ Q (.bl b) H1) h2 fun x H Hs w m d g h1 h2 v e o => ?_
  simp only [bfW, isiB, Option.map_eq_some_iff] at e
  obtain ⟨b, e, rfl⟩ := e
  obtain ⟨tv, h3, h4⟩ := Zqb hn v e
  exact ⟨x, tv, b, rfl, h3, h4, o.sc⟩
end
inductive spF (K : Fg) (F : List D -> Rs (D × List D)) (vs : List V) (H : Hp) (Q : VK) (E : XK) : Prop
 | mk (ds : List D) (Hs : Hp) (m : Bud) (d : D) (ds' : List D) (h0 : Good H Hs m) (h1 : RepL K H Hs vs ds m) (h2 : F ds = .ok (d, ds')) (h3 : ∀ (v : V) (H' Hs' : Hp) (m1 m' : Bud), Good H' Hs' (fun b => m1 b + m' b) -> Stp H Hs m H' Hs' (fun b => m1 b + m' b) -> Rep K H' Hs' v d m1 -> RepL K H' Hs' vs ds' m' -> Q v H') : spF K F vs H Q E
theorem ZlA {K : Fg} {B m M : Bud} {p : Op} {v : V} {d : D} (g : Good H Hs (fun b => B b + (m b + M b))) (s : RepS K H Hs σ δ M) (r : RepP K H Hs σ v p m) (e : takeA lend p δ = .ok (d, δ')) :
 ∃ Hs' m' M', Good H Hs' (fun b => B b + (m' b + M' b)) /\ Stp H Hs (fun b => B b + (m b + M b)) H Hs' (fun b => B b + (m' b + M' b)) /\ Rep K H Hs' v d m' /\ RepS K H Hs' σ δ' M' /\ ∀ b, m' b + M' b <= m b + M b := by
 cases p with
 | tmp d' =>
  have := Zg e
  cases this
  exact ⟨Hs, m, M, g, Stp.refl _ _ _, r, s, fun b => Nat.le_refl _⟩
 | late i =>
  have r : σ[i]? = some (some v) := r
  have same : ∀ {d : D}, δ[i]? = some d -> d ≠ .hole -> (∀ m1, Rep K H Hs v d m1 -> Rep K H Hs v d (fun _ => 0)) -> ∃ Hs' m' M', Good H Hs' (fun b => B b + (m' b + M' b)) /\ Stp H Hs (fun b => B b + (m b + M b)) H Hs' (fun b => B b + (m' b + M' b)) /\ Rep K H Hs' v d m' /\ RepS K H Hs' σ δ M' /\ ∀ b, m' b + M' b <= m b + M b := fun {d} hi hn hz => by
   obtain ⟨v', m1, m2, e1, q, l, f⟩ := s.slot hi hn
   rw [r] at e1
   cases e1
   exact ⟨Hs, fun _ => 0, M, g.re fun b => by (try simp); (try omega), (Stp.refl H Hs _).drop (fun b => by (try simp); (try omega)) g.le, hz _ q, s, fun b => by (try simp); (try omega)⟩
  unfold takeA at e
  dsimp only at e
  split at e
  . rename_i u hi
    cases e
    exact same hi (by simp) fun m1 q => by cases q; exact .sc _ _
  . rename_i k ds hi
    cases e
    exact same hi (by simp) fun m1 q => by cases q with | shd n q => exact .shd n q
  . rename_i k ds hi
    obtain ⟨v', m1, m2, e1, q, l, f⟩ := s.slot hi (by simp)
    rw [r] at e1
    cases e1
    split at e
    . cases e
      refine ⟨Hs, m1, m2, g.re fun b => by have := l b; omega, (Stp.refl H Hs _).drop (fun b => by have := l b; omega) g.le, q, ?_, fun b => by have := l b; omega⟩
      have z := f H Hs (some v) .hole (fun _ => 0) (Same.refl _) (fun _ _ _ => rfl) (.inl rfl)
      rw [Zaa r] at z
      exact z.mono fun b => by simp
    . cases e
      have g2 : Good H Hs (fun b => m1 b + (B b + m2 b)) := g.re fun b => by have := l b; omega
      have hsame := Zbr g2 (m := m1) fun b => by omega
      have r2 := Rep.share hsame (Zdg (H := H) (Hs := Hs) (m := m1)) q
      have st := Stp.share g2
      refine ⟨shH H Hs m1, fun _ => 0, m2, g2.share.re fun b => by simp, ⟨fun b o h _ => h, fun b h => ?_, st.grow, fun b h h' => ?_, fun b h => h⟩, r2, ?_, fun b => by have := l b; simp; omega⟩
      . have h : B b + (0 + m2 b) = 1 := h
        have l0 : B b + (m b + M b) <= 1 := g.le b
        have := l b
        left
        show B b + (m b + M b) = 1
        omega
      . rcases st.shr b h h' with z | z
        . have z : m1 b + (B b + m2 b) = 1 := z
          have l0 : B b + (m b + M b) <= 1 := g.le b
          have := l b
          left
          show B b + (m b + M b) = 1
          omega
        . exact .inr z
      . have z := f H (shH H Hs m1) (some v) (.node k false (shrL ds)) (fun _ => 0) hsame (fun _ _ _ => rfl) (.inr ⟨v, rfl, r2⟩)
        rw [Zaa r] at z
        exact z.mono fun b => by simp
  . cases e
theorem ZbV {K : Fg} : ∀ {ps : List Op} {vs : List V} {Hs : Hp} {δ δ' : List D} {B M m : Bud} {ds : List D}, Good H Hs (fun b => B b + (m b + M b)) -> RepS K H Hs σ δ M -> ZaF K H Hs σ vs ps m -> Zab lend ps δ = .ok (ds, δ') ->
 ∃ Hs' m' M', Good H Hs' (fun b => B b + (m' b + M' b)) /\ Stp H Hs (fun b => B b + (m b + M b)) H Hs' (fun b => B b + (m' b + M' b)) /\ RepL K H Hs' vs ds m' /\ RepS K H Hs' σ δ' M'
 | [], [], Hs, δ, δ', B, M, m, ds, g, s, r, e => by
  have := Zg e
  cases this
  exact ⟨Hs, m, M, g, Stp.refl _ _ _, .nil _, s⟩
 | [], _ :: _, _, _, _, _, _, _, _, _, _, r, _ => r.elim
 | _ :: _, [], _, _, _, _, _, _, _, _, _, r, _ => r.elim
 | p :: ps, v :: vs, Hs, δ, δ', B, M, m, ds, g, s, ⟨n1, n2, r1, r2, l⟩, e => by
  obtain ⟨d, δ1, e1, e⟩ := Zb e
  obtain ⟨ds', δ2, e2, e⟩ := Zb e
  have := Zg e
  cases this
  have g0 : Good H Hs (fun b => (B b + n2 b) + (n1 b + M b)) := g.re fun b => by have := l b; omega
  obtain ⟨Hs1, m1, M1, g1, st1, q1, s1, l1⟩ := ZlA g0 s r1 e1
  have g1' : Good H Hs1 (fun b => (B b + m1 b) + (n2 b + M1 b)) := g1.re fun b => by omega
  obtain ⟨Hs2, m2, M2, g2, st2, q2, s2⟩ := ZbV g1' s1 (r2.frame st1.grow fun _ _ _ => rfl) e2
  have S0 : Stp H Hs (fun b => B b + (m b + M b)) H Hs1 (fun b => (B b + m1 b) + (n2 b + M1 b)) := by
   refine ⟨fun b o h _ => h, fun b h => ?_, st1.grow, fun b h h' => ?_, fun b h => h⟩
   . have h : (B b + m1 b) + (n2 b + M1 b) = 1 := h
     rcases st1.own b (show (B b + n2 b) + (m1 b + M1 b) = 1 by omega) with z | z
     . have z : (B b + n2 b) + (n1 b + M b) = 1 := z
       have l0 : B b + (m b + M b) <= 1 := g.le b
       have := l b
       left
       show B b + (m b + M b) = 1
       omega
     . exact .inr z
   . rcases st1.shr b h h' with z | z
     . have z : (B b + n2 b) + (n1 b + M b) = 1 := z
       have l0 : B b + (m b + M b) <= 1 := g.le b
       have := l b
       left
       show B b + (m b + M b) = 1
       omega
     . exact .inr z
  have z := Zq (m1 := fun _ => 0) g (g1'.re fun b => by simp) (S0.drop (fun b => by simp) g1'.le) g2 st2
  have S : Stp H Hs (fun b => B b + (m b + M b)) H Hs2 (fun b => (B b + m1 b) + (m2 b + M2 b)) := z.2.1.drop (fun b => by simp) z.1.le
  exact ⟨Hs2, fun b => m1 b + m2 b, M2, g2.re fun b => by dsimp only; omega, S.drop (fun b => by dsimp only; omega) g2.le, .cons (q1.frame st2.grow fun _ _ _ => rfl) q2 fun b => Nat.le_refl _, s2⟩
theorem Zbs : ∀ {ps : List Op} {vs : List V} {δ δ' : List D} {M m : Bud} {ds : List D} {u : Unit}, RepS K H Hs σ δ M -> RepL K H Hs vs ds m -> (∀ i v, (.late i, v) ∈ ps.zip vs -> σ[i]? = some (some v)) -> Z4 ps ds δ = .ok (u, δ') -> RepS K H Hs σ δ' (fun b => m b + M b)
 | [], vs, δ, δ', M, m, ds, u, s, r, hl, e => by
  have := Zg (show T.M.ret () δ = Rs.ok (u, δ') by unfold Z4 at e; exact e)
  cases this
  exact s.mono fun b => by omega
 | p :: ps, [], δ, δ', M, m, ds, u, s, r, hl, e => by
  cases r
  have := Zg (show T.M.ret () δ = Rs.ok (u, δ') by unfold Z4 at e; exact e)
  cases this
  exact s.mono fun b => by omega
 | p :: ps, v :: vs, δ, δ', M, m, ds, u, s, r, hl, e => by
  cases r with
  | @cons _ d _ ds' m1 m2 _ x y l =>
   unfold Z4 at e
   obtain ⟨_, δ1, e1, e2⟩ := Zb e
   have hl' : ∀ i v, (.late i, v) ∈ ps.zip vs -> σ[i]? = some (some v) := fun i v h => hl i v (by rw [List.zip_cons_cons]; exact List.mem_cons_of_mem _ h)
   have go : ∀ {M1 : Bud}, RepS K H Hs σ δ1 M1 -> (∀ b, M1 b <= m1 b + M b) -> RepS K H Hs σ δ' (fun b => m b + M b) := fun {M1} s1 l1 =>
    (Zbs s1 y hl' e2).mono fun b => by have := l b; have := l1 b; omega
   cases p with
   | tmp d' =>
    have := Zg e1
    cases this
    exact go s fun b => by omega
   | late i =>
    have hi := hl i v (by rw [List.zip_cons_cons]; exact List.mem_cons_self)
    unfold giveA at e1
    dsimp only at e1
    split at e1
    . rename_i hh
      cases e1
      obtain ⟨o, n1, n2, q1, q2, q3, f⟩ := s.focus hh
      have z := f (RepO K H Hs) (some v) d m1 (fun a d m' _ q => q) (.inr ⟨v, rfl, x⟩)
      rw [Zaa hi] at z
      exact go z fun b => by have := q3 b; omega
    . cases e1
      exact go s fun b => by omega
theorem lates : ∀ {ps : List Op} {vs : List V} {m : Bud}, ZaF K H Hs σ vs ps m -> ∀ i v, (.late i, v) ∈ ps.zip vs -> σ[i]? = some (some v)
 | [], [], _, _, i, v, h => by simp at h
 | [], _ :: _, _, r, _, _, _ => r.elim
 | _ :: _, [], _, r, _, _, _ => r.elim
 | p :: ps, w :: vs, _, ⟨m1, m2, r1, r2, _⟩, i, v, h => by
  rw [List.zip_cons_cons] at h
  rcases List.mem_cons.mp h with e | e
  . injection e with e1 e2
    subst e1 e2
    exact r1
  . exact lates r2 i v e
theorem ZfU {K : Fg} {M M1 : Bud} {d : D} {ps : List Op} {Q : VK} {E : XK} (g : Good H Hs M) (g1 : Good H1 Hs1 (fun b => m1 b + M1 b)) (st1 : Stp H Hs M H1 Hs1 (fun b => m1 b + M1 b))
 (r1 : ZaF K H1 Hs1 σ vs ps m1) (s1 : RepS K H1 Hs1 σ δ1 M1) (e : ZaD fi ps δ1 = .ok (d, δ'))
 (q : ∀ (v : V) (H' Hs' : Hp) (m M' : Bud), Good H' Hs' (fun b => m b + M' b) -> Stp H Hs M H' Hs' (fun b => m b + M' b) -> Rep K H' Hs' v d m -> RepS K H' Hs' σ δ' M' -> Q v H') : spF K fi.run vs H1 Q E := by
 unfold ZaD at e
 obtain ⟨ds, δ2, e2, e⟩ := Zb e
 cases hF : fi.run ds with
 | ok r =>
  obtain ⟨d', ds'⟩ := r
  rw [hF] at e
  dsimp only at e
  obtain ⟨u, δ3, e3, e⟩ := Zb e
  have := Zg e
  cases this
  obtain ⟨Hs2, m2, M2, g2, st2, q2, s2⟩ := ZbV (B := fun _ => 0) (g1.re fun b => by simp) s1 r1 e2
  have z0 := Zq (m1 := fun _ => 0) g (g1.re fun b => by simp) (st1.drop (fun b => by simp) g1.le) (g2.re fun b => by simp) (M1 := fun b => m1 b + M1 b) (M2 := fun b => m2 b + M2 b) (by
   have := st2
   exact ⟨fun b o h z => this.keep b o h (by simpa using z), fun b h => by have := this.own b (by simpa using h); simpa using this, this.grow, fun b h h' => by have := this.shr b h h'; simpa using this, this.stay⟩)
  have G2 : Good H1 Hs2 (fun b => M2 b + m2 b) := g2.re fun b => by simp; omega
  have S2 : Stp H Hs M H1 Hs2 (fun b => M2 b + m2 b) := z0.2.1.drop (fun b => by simp; omega) z0.1.le
  refine ⟨ds, Hs2, m2, _, ds', G2.re fun b => by omega, q2, hF, fun v H3 Hs3 n1 n2 g3 st3 r3 r4 => ?_⟩
  obtain ⟨G, S, k⟩ := Zq g G2 S2 g3 st3
  have s3 := RepS.frame st3.grow k s2
  have fin := Zbs s3 r4 (lates r1) e3
  exact q v H3 Hs3 n1 (fun b => n2 b + M2 b) (G.re fun b => by (try dsimp only); omega) (S.drop (fun b => by (try dsimp only); omega) G.le) r3 fin
 | exc x y => rw [hF] at e; cases e
 | stuck => rw [hF] at e; cases e
def ZlB {K : Fg} {cs : M (List Op)} {Q : VK} {E : XK} (h : tM K (cs.bnd fun ps => ZaD fi ps) σ H Q) : tPs K cs σ H fun vs H1 => spF K fi.run vs H1 Q E := by
 obtain ⟨δ, Hs, M, d, δ', g, s, e, q⟩ := h
 obtain ⟨ps, δ1, e1, e⟩ := Zb e
 exact ⟨δ, Hs, M, ps, δ1, g, s, e1, fun vs H1 Hs1 m1 M1 g1 st1 r1 s1 => ZfU g g1 st1 r1 s1 e q⟩
section
variable {a e c : Expr} {es : List Expr} {p : Pos} {x : Str} {n : Nat} {ps : List Str} {cs : M (List Op)}
def Z3 (G : FnAt X.prog X.w X.K X.mg X.base x j ps (spF X.K fi.run)) (hr : Room n X.A) (ha : PA X (e :: es) (tPs X.K cs)) (hj : j <= n := by decide) (hz : glOk X.env.scope x = true := by kernel_rfl) (he : SE X e es := by rfl) (hpl : SFx X pos es := by rfl) :
 PE X (.Call (.Name x p) (e :: es) [] pos) (tM X.K (cs.bnd fun ps => ZaD fi ps)) := PE.imp (Zp0 G hr ha hj (glk hz) (dbk hz) he hpl) fun σ H Q h => by
 obtain ⟨δ, Hs, M, a, δ', g, s, e, q⟩ := ZlB (E := E0) h
 refine ⟨δ, Hs, M, a, δ', g, s, e, fun vs H' Hs' m M' g' st r s' => ?_⟩
 show spF X.K fi.run (vs ++ []) H' Q E0
 rw [List.append_nil]
 exact q vs H' Hs' m M' g' st r s'
end
theorem modL {K : Fg} {B M : Bud} {i : Nat} {k : Kd} (g : Good H Hs (fun b => B b + M b)) (s : RepS K H Hs σ δ M) (hi : δ[i]? = some (.node k true ds)) :
 ∃ (p : Addr) (vs : List V) (m' m2 : Bud), σ[i]? = some (some (.ref p)) /\ Za2 K H p vs k /\ RepL K H Hs vs ds m' /\ (∀ b, one p b + m' b + m2 b <= M b) /\
  ∀ (o' : HO) (k' : Kd) (vs' : List V) (ds' : List D) (n' nr : Bud) (rv : V) (r : D), (∀ b, n' b + nr b <= m' b + B b) -> Za2 K (upd H p o') p vs' k' -> RepL K H Hs vs' ds' n' -> Rep K H Hs rv r nr ->
   Good (upd H p o') Hs (fun b => nr b + (one p b + n' b + m2 b)) /\ Stp H Hs (fun b => B b + M b) (upd H p o') Hs (fun b => nr b + (one p b + n' b + m2 b)) /\ Rep K (upd H p o') Hs rv r nr /\
   RepS K (upd H p o') Hs σ (δ.set i (.node k' true ds')) (fun b => one p b + n' b + m2 b) := by
 obtain ⟨v, m1, m2, e1, q, l, f⟩ := s.slot hi (by simp)
 cases q with
 | @own p _ vs _ _ m' n r l' =>
  have le : ∀ b, one p b + m' b + m2 b <= M b := fun b => by have := l b; have := l' b; omega
  refine ⟨p, vs, m', m2, e1, n, r, le, fun o' k' vs' ds' n' nr rv rd h1 hn hr hq => ?_⟩
  have one_p : one p p = 1 := by simp [one]
  have tot : ∀ b, nr b + (one p b + n' b + m2 b) <= B b + M b := fun b => by have := le b; have := h1 b; omega
  have zp : m' p = 0 /\ B p = 0 /\ m2 p = 0 := by
   have := le p
   have := g.le p
   try dsimp only at this
   omega
  have zp2 : n' p = 0 /\ nr p = 0 := by have := h1 p; omega
  have Hp : H p ≠ none := n.at
  have eqH : ∀ b, b ≠ p -> upd H p o' b = H b := fun b hb => Zk hb
  have hs2 : Hs p = none := g.ne p (by have := le p; have := g.le p; (try dsimp only at this ⊢); omega)
  refine ⟨⟨fun b o e => ?_, fun b => ?_, fun b h => ?_, fun b h => ?_⟩, ⟨fun b o e z => ?_, fun b h => ?_, Same.refl _, fun b h h' => absurd h h', fun b h => ?_⟩, ?_, ?_⟩
  . have hb : b ≠ p := fun q => by subst q; rw [hs2] at e; cases e
    rw [eqH b hb]
    exact g.sub b o e
  . have := g.le b
    have := tot b
    (try dsimp only at *)
    omega
  . have := g.le b
    have := tot b
    exact g.ne b (by (try dsimp only at *); omega)
  . by_cases hb : b = p
    . subst hb; rw [Zl]; simp
    . rw [eqH b hb]
      have := g.le b
      have := tot b
      exact g.has b (by (try dsimp only at *); omega)
  . have hb : b ≠ p := fun q => by
     subst q
     have := le b
     have := g.le b
     (try dsimp only at *)
     omega
    rw [eqH b hb]
    exact e
  . have := g.le b
    have := tot b
    left
    (try dsimp only at *)
    omega
  . by_cases hb : b = p
    . subst hb; rw [Zl]; simp
    . rw [eqH b hb]; exact h
  . exact hq.frame (Same.refl _) fun b hb hn' => eqH b fun q => by subst q; omega
  . have r' : RepL K (upd H p o') Hs vs' ds' n' := hr.frame (Same.refl _) fun b hb hn' => eqH b fun q => by subst q; omega
    have z := f (upd H p o') Hs (some (.ref p)) (.node k' true ds') (fun b => one p b + n' b) (Same.refl _) (fun b hb hn' => eqH b fun q => by subst q; omega) (.inr ⟨_, rfl, .own hn r' fun b => Nat.le_refl _⟩)
    rw [Zaa e1] at z
    exact z.mono fun b => by (try dsimp only); omega
def ZdC (h : modS i f δ = .ok (d, δ')) : ∃ k ds k' ds', δ[i]? = some (.node k true ds) /\ f k ds = some (d, k', ds') /\ δ' = δ.set i (.node k' true ds') := by
 unfold modS at h
 split at h
 . rename_i k ds hi
   split at h
   . rename_i r k' ds' hf
     cases h
     exact ⟨k, ds, k', ds', hi, hf, rfl⟩
   . cases h
 . cases h
section
variable {o e : Expr} {es : List Expr} {cpos apos : Pos} {i : Nat} {name : Str} {id : String}
def ZnA {K : Fg} {M : Bud} {u : Unit} (g : Good H Hs M) (s : RepS K H Hs σ δ M) (h : chkL i δ = .ok (u, δ')) : δ' = δ /\ ∃ p, σ[i]? = some (some (.ref p)) /\ tyV K "list" (.ref p) H := by
 unfold chkL at h
 split at h
 . rename_i oo ds hi
   cases h
   obtain ⟨v, m1, m2, e1, q, l, f⟩ := s.slot hi (by simp)
   refine ⟨rfl, ?_⟩
   cases q with
   | own n r _ => exact ⟨_, e1, .inl ⟨rfl, _, .inl (.inl n)⟩⟩
   | shd n r => exact ⟨_, e1, .inl ⟨rfl, _, .inl (.inl (g.sub _ _ n))⟩⟩
 . cases h
def Zck (ho : PE X o (tVar i)) (ha : PA X [e] (tDs X.K cs))
 (hbase : attributeBase o "append" X.env (eval o X.env) = eval o X.env := by rfl)
 (hfew : ((backTo cpos (starEach [e] X.env)).all (fun x => !x.1) && (backToKw cpos (keywordEach [] X.env)).all (fun x => x.1.isSome)
  && decide ([e].length + ([] : List Keyword).length + (if ([] : List Keyword).isEmpty then 0 else 1) < 30)) = true := by rfl)
 (hline : (apos.endLine == cpos.line) = true := by rfl) (hs : starEach [e] X.env = (false, eval e X.env) :: starEach [] X.env := by rfl) (hplain : (backTo cpos (starEach [] X.env)).any (·.1) = false := by rfl) :
 PE X (.Call (.Attribute o "append" apos) [e] [] cpos) (tM X.K ((chkL i).bnd fun _ => cs.bnd fun ds => appM i ds)) :=
 PE.imp (ZhI PySem.F.plainAttrs_list PySem.F.slot_list_append PySem.F.type_list_append Zff ho ha hbase hfew hline hs hplain) fun σ H Q h => by
  obtain ⟨δ, Hs, M, d, δ', g, s, ea, q⟩ := h
  obtain ⟨u, δ0, e0, eb⟩ := Zb ea
  obtain ⟨ds, δ1, e1, ec⟩ := Zb eb
  obtain ⟨rfl, p0, h1, h2⟩ := ZnA g s e0
  refine ⟨_, h1, h2, δ0, Hs, M, ds, δ1, g, s, e1, fun vs H1 Hs1 m1 M1 g1 st1 r1 s1 => ?_⟩
  unfold appM at ec
  split at ec
  . rename_i x
    obtain ⟨k, ds0, k', ds', hi, hf, rfl⟩ := ZdC ec
    unfold appD at hf
    split at hf
    . split at hf
      . rename_i hl
        cases hf
        cases r1 with
        | @cons y _ _ _ a1 a2 _ rx r2 la =>
         cases r2
         obtain ⟨p, ws, m', m2, e2, n, rl, le, fin⟩ := modL g1 s1 hi
         have e3 : some (some (V.ref p)) = some (some (V.ref p0)) := by rw [<- e2, h1]
         cases e3
         obtain ⟨G, S, R, SS⟩ := fin (.lst (ws ++ [y])) .lst (ws ++ [y]) (ds0 ++ [x]) (fun b => m' b + a1 b) (fun _ => 0) .non (.sc .non) (fun b => by have := la b; (try dsimp only); omega) Zl (rl.app (.cons rx (.nil (fun _ => 0)) fun b => by simp)) (.sc _ _)
         have z := Zq (m1 := fun _ => 0) g (g1.re fun b => by simp) (st1.drop (fun b => by simp) g1.le) G S
         exact ⟨_, ws, y, rfl, rfl, n, by rw [rl.len]; exact hl, q _ _ Hs1 _ _ G (z.2.1.drop (fun b => by simp) z.1.le) R SS⟩
      . cases hf
    . cases hf
  . cases ec
end
end T
namespace L2
open PySem PySem.Spec PyProof.Rows
section
theorem ZkC (ne : a ≠ it) : ∀ (m j : Nat) (s : Shared) (Q : List Value -> Shared -> Prop), s.heap.IsListIter it a j -> s.heap.IsList a us -> j + m <= us.size ->
 (∀ g, Heap.IsListIter g it a (j + m) -> Heap.SameBut it s.heap g -> Q ((us.toList.drop j).take m) { s with heap := g }) -> wpAny (model prog w) A (draw (.ref it) m) Q E s
 | 0, j, s, Q, st, _, _, q => wpAny_pure (by simpa using q s.heap st (Heap.SameBut.refl ..))
 | m + 1, j, s, Q, st, hl, le, q => by
  have lt : j < us.size := by omega
  refine wpAny_bind (wpAny_pyNext_list_item st hl (x := us[j]) (by simp [lt]) fun g1 st1 k1 => ?_)
  refine wpAny_bind (wpAny_holding (ZkC ne m (j + 1) _ _ st1 (hl.extBut k1.extBut ne) (by omega) fun g2 st2 k2 => wpAny_pure ?_))
  have z := q g2 (by rw [show j + (m + 1) = j + 1 + m by omega]; exact st2) (k1.trans k2)
  rw [show us.toList.drop j = us[j] :: us.toList.drop (j + 1) by simp [List.drop_eq_getElem_cons, lt], List.take_succ_cons] at z
  exact z
def ZlC (hh : A.handled = none) (hl : s.heap.IsList a us)
 (q : ∀ g, Heap.ExtBut s.heap.objs.size s.heap g -> Q us.toList { s with heap := g }) : wpAny (model prog w) A (unpackItems (.ref a) us.size none) Q E s := by
 have ne : a ≠ s.heap.objs.size := Nat.ne_of_lt (by obtain ⟨o, e, _⟩ := hl; exact Heap.lt_size e)
 unfold unpackItems
 refine wpAny_bind (?_ : wpAny _ _ _ _ _ _)
 unfold notIterableAtAll
 refine wpAny_bind (wpAny_specialOf hl.typeIs slot_list_iter.lookup (wpAny_pure ?_))
 simp only [if_false, Bool.false_eq_true]
 refine wpAny_bind (wpAny_holding (wpAny_pyIter_list hl (wpAny_bind (wpAny_holding (ZkC ne us.size 0 _ _ ⟨_, Heap.get?_push_size _ rfl, rfl, rfl⟩ (hl.push _) (by omega) fun g1 st1 k1 => ?_)))))
 rw [show List.take us.size (List.drop 0 us.toList) = us.toList from by rw [List.drop_zero, List.take_of_length_le (by simp)], if_neg (by simp)]
 refine wpAny_bind (wpAny_holding (wpAny_pyNext_list_end hh st1 ((hl.push _).extBut k1.extBut ne) (by simp) fun g2 k2 => ?_))
 simp only [if_false, Bool.false_eq_true, Option.isSome_none]
 exact wpAny_pure (q g2 fun b o hb e => k2 b o hb (k1.extBut b o hb (Heap.get?_push_of_some _ e)))
def ZlD (hh : A.handled = none) (hl : s.heap.IsList a us) (hn : (assignEach es env).length = us.size) (hst : (assignEach es env).findIdx? (·.1) = none)
 (q : ∀ g, Heap.ExtBut s.heap.objs.size s.heap g -> wpAny (model prog w) A (assignInOrder ((assignEach es env).map (·.2)) us.toList) Q E { s with heap := g }) : wpAny (model prog w) A (assign (.Tuple es k p) env (.ref a)) Q E s := by
 rw [assign_Tuple]
 refine wpAny_bind (wpAny_standAt ?_)
 unfold unpack
 rw [hn, hst]
 exact wpAny_bind (wpAny_holding (ZlC hh hl q))
end
noncomputable def gSeq (K : Fg) (n : Nat) (t : TGs) : TG := fun v σ H Q => ∃ a xs, v = .ref a /\ (SqT K H a xs \/ SqL K H a xs) /\ xs.length = n /\ t xs σ H Q
def ZnB (hc : X.calm = true) (h : PGs X es t)
 (hn : (assignEach es X.env).length = n := by rfl) (hst : (assignEach es X.env).findIdx? (·.1) = none := by rfl) : PG X (.Tuple es k pos) (gSeq X.K n t) := by
 intro pins s σ H v u Q I r hw
 obtain ⟨a, xs, e1, hq, hl, hw⟩ := hw
 rcases hq with hq | hq
 . exact ZmQ hc h hn hst pins s σ H v u Q I r ⟨a, xs, e1, hq, hl, hw⟩
 . subst e1
   cases r
   obtain ⟨its, rv, ht, hz⟩ := I.list hq
   refine ZlD (I.ok.hd hc) ht.isList (by simp [hn, <- hl, rv.length]) hst fun h' hx => ?_
   have I1 : Inv X pins σ H { s with heap := h' } := I.kept (t' := s.toks) fun b o e => hx b o (Nat.ne_of_lt (Heap.lt_size e)) e
   exact h pins _ σ H xs _ Q I1 (by simpa using rv) hw
end L2
namespace T
open PySem PySem.Spec L2
variable {H Hs H' Hs' H0 Hs0 : Hp} {σ : St} {δ' δ : List D} {lk : Nat -> Bool} {X : Cx} {pos pos' : Pos} {j : Nat} {M0 : Bud}
def Keeps (lk : Nat -> Bool) (σ σ' : St) : Prop := ∀ i, lk i = true -> σ'[i]? = σ[i]?
def Keeps.refl (lk : Nat -> Bool) (σ : St) : Keeps lk σ σ := fun _ _ => rfl
def Keeps.trans (a : Keeps lk σ σ1) (b : Keeps lk σ1 σ2) : Keeps lk σ σ2 := fun i h => (b i h).trans (a i h)
def Post (K : Fg) (lk : Nat -> Bool) (E : Ends) (σ : St) (H Hs : Hp) (M : Bud) (f : Fl) (δ' : List D) : Prop := match f with
 | .nx => ∀ (σ' : St) (H' Hs' : Hp) (M' : Bud), Keeps lk σ σ' -> Good H' Hs' M' -> Stp H Hs M H' Hs' M' -> RepS K H' Hs' σ' δ' M' -> E.nx σ' H'
 | .bk => ∀ (σ' : St) (H' Hs' : Hp) (M' : Bud), Keeps lk σ σ' -> Good H' Hs' M' -> Stp H Hs M H' Hs' M' -> RepS K H' Hs' σ' δ' M' -> E.bk σ' H'
 | .ct => ∀ (σ' : St) (H' Hs' : Hp) (M' : Bud), Keeps lk σ σ' -> Good H' Hs' M' -> Stp H Hs M H' Hs' M' -> RepS K H' Hs' σ' δ' M' -> E.ct σ' H'
 | .rt d => ∀ (v : V) (σ' : St) (H' Hs' : Hp) (m M' : Bud), Keeps lk σ σ' -> Good H' Hs' (fun b => m b + M' b) -> Stp H Hs M H' Hs' (fun b => m b + M' b) -> Rep K H' Hs' v d m -> RepS K H' Hs' σ' δ' M' -> E.rt v H'
inductive tS (K : Fg) (lk : Nat -> Bool) (c : M Fl) (E : Ends) (σ : St) (H : Hp) : Prop
 | mk (δ : List D) (Hs : Hp) (M : Bud) (f : Fl) (δ' : List D) (h0 : Good H Hs M) (h1 : RepS K H Hs σ δ M) (h2 : c δ = .ok (f, δ')) (h3 : Post K lk E σ H Hs M f δ') : tS K lk c E σ H
theorem Post.ahead {K : Fg} {E : Ends} {σ1 : St} {H1 Hs1 : Hp} {M M1 : Bud} {f : Fl} (k : Keeps lk σ σ1) (g : Good H Hs M) (g1 : Good H1 Hs1 M1) (st : Stp H Hs M H1 Hs1 M1) (h : Post K lk E σ H Hs M f δ') : Post K lk E σ1 H1 Hs1 M1 f δ' := by
 have tr : ∀ {H' Hs' : Hp} {M' : Bud}, Good H' Hs' M' -> Stp H1 Hs1 M1 H' Hs' M' -> Stp H Hs M H' Hs' M' := fun {H' Hs' M'} g' st' => by
  have z := Zq (m1 := fun _ => 0) g (g1.re fun b => by simp) (st.drop (fun b => by simp) g1.le) g' st'
  exact z.2.1.drop (fun b => by simp) z.1.le
 cases f with
 | nx => exact fun σ' H' Hs' M' k' g' st' r => h σ' H' Hs' M' (k.trans k') g' (tr g' st') r
 | bk => exact fun σ' H' Hs' M' k' g' st' r => h σ' H' Hs' M' (k.trans k') g' (tr g' st') r
 | ct => exact fun σ' H' Hs' M' k' g' st' r => h σ' H' Hs' M' (k.trans k') g' (tr g' st') r
 | rt d => exact fun v σ' H' Hs' m M' k' g' st' rv r => h v σ' H' Hs' m M' (k.trans k') g' (tr g' st') rv r
section
variable {e a b c o : Expr} {st : Stmt} {rest : List Stmt} {i : Nat} {x : Str}
def PS.imp (h : PS X st t) (w : ∀ E σ H, t' E σ H -> t E σ H) : PS X st t' := fun pins s σ H E I q => h pins s σ H E I (w E σ H q)
def PSs.imp (h : PSs X rest t) (w : ∀ E σ H, t' E σ H -> t E σ H) : PSs X rest t' := fun pins s σ H E I q => h pins s σ H E I (w E σ H q)
def Zh : PSs X [] (tS X.K lk (M.ret .nx)) := PSs.imp ZkZ fun E σ H h => by
 obtain ⟨δ, Hs, M, f, δ', g, s, e, q⟩ := h
 have := Zg e
 cases this
 exact q σ H Hs M (Keeps.refl _ _) g (Stp.refl _ _ _) s
theorem Zc {c r : M Fl} (h1 : PS X st (tS X.K lk c)) (h2 : PSs X rest (tS X.K lk r)) : PSs X (st :: rest) (tS X.K lk (seqL c r)) := PSs.imp (Zjj h1 h2) fun E σ H h => by
 obtain ⟨δ, Hs, M, f, δ', g, s, e, q⟩ := h
 obtain ⟨f1, δ1, e1, e2⟩ := Zb e
 refine ⟨δ, Hs, M, f1, δ1, g, s, e1, ?_⟩
 cases f1 with
 | nx => exact fun σ' H' Hs' M' k g' st' r => ⟨δ1, Hs', M', f, δ', g', r, e2, q.ahead k g g' st'⟩
 | bk => have := Zg e2; cases this; exact q
 | ct => have := Zg e2; cases this; exact q
 | rt d => have := Zg e2; cases this; exact q
def ZbW : PS X st (tS X.K lk stk) := fun pins s σ H E I z0 => by obtain ⟨δ, Hs, M, f, δ', g, _, e, q⟩ := z0; cases e
def Zbt {c : M D} (he : PE X e (tM X.K c)) (hs : swapsWith e none pos.line X.env = pure false := by rfl) : PS X (.Expr e pos) (tS X.K lk (c.bnd fun _ => M.ret .nx)) := PS.imp (Zla he hs) fun E σ H h => by
 obtain ⟨δ, Hs, M, f, δ', g, s, e, q⟩ := h
 obtain ⟨d, δ1, e1, e2⟩ := Zb e
 have := Zg e2
 cases this
 exact ⟨δ, Hs, M, d, _, g, s, e1, fun v H' Hs' m M' g' st' r s' => q σ H' Hs' M' (Keeps.refl _ _) g'.re (st'.drop (fun b => by omega) g'.le) s'⟩
def Zx {c : M D} (he : PE X e (tM X.K c)) : PS X (.Return (some e) pos) (tS X.K lk (c.bnd fun d => M.ret (.rt d))) := PS.imp (ZmP he) fun E σ H h => by
 obtain ⟨δ, Hs, M, f, δ', g, s, e, q⟩ := h
 obtain ⟨d, δ1, e1, e2⟩ := Zb e
 have := Zg e2
 cases this
 exact ⟨δ, Hs, M, d, _, g, s, e1, fun v H' Hs' m M' g' st' r s' => q v σ H' Hs' m M' (Keeps.refl _ _) g' st' r s'⟩
def Zdj (h : PE X e (tVar i)) : PE X e (tM X.K (movV i)) := PE.imp h fun σ H Q z0 => by
 obtain ⟨δ, Hs, M, d, δ', g, s, e, q⟩ := z0
 unfold movV at e
 split at e
 . rename_i u hd
   cases e
   obtain ⟨v, m1, m2, e3, r, _⟩ := s.slot hd (by simp)
   cases r
   exact ⟨u, e3, q u H Hs (fun _ => 0) M (Za4 g) (stp0 H Hs M) (.sc _ _) s⟩
 . rename_i k oo ds hd
   cases e
   obtain ⟨v, m1, m2, e3, r, l, f⟩ := s.slot hd (by simp)
   have z := f H Hs (some v) .hole (fun _ => 0) (Same.refl _) (fun _ _ _ => rfl) (.inl rfl)
   rw [Zaa e3] at z
   exact ⟨v, e3, q v H Hs m1 m2 (g.re fun b => by have := l b; omega) ((Stp.refl H Hs M).drop (fun b => by have := l b; omega) g.le) r (z.mono fun b => by simp)⟩
 . cases e
theorem ZM (hc : PT X c (tT X.K cc)) (ha : PSs X A (tS X.K lk ca)) (hb : PSs X B (tS X.K lk cb)) : PS X (.If c A B pos) (tS X.K lk (cc.bnd fun t => if t then ca else cb)) := PS.imp (Zpb hc ha hb) fun E σ H h => by
 obtain ⟨δ, Hs, M, f, δ', g, s, e, q⟩ := h
 obtain ⟨t, δ1, e1, e2⟩ := Zb e
 refine ⟨δ, Hs, M, t, δ1, g, s, e1, fun H' Hs' M' g' st' s' => ?_⟩
 cases t with
 | true => exact ⟨δ1, Hs', M', f, δ', g', s', e2, q.ahead (Keeps.refl _ _) g g' st'⟩
 | false => exact ⟨δ1, Hs', M', f, δ', g', s', e2, q.ahead (Keeps.refl _ _) g g' st'⟩
def ZaT {K : Fg} {m M : Bud} {v : V} {d : D} (s : RepS K H Hs σ δ M) (hi : i < δ.length) (r : Rep K H Hs v d m) : RepS K H Hs (σ.set i (some v)) (δ.set i d) (fun b => m b + M b) := by
 obtain ⟨o, m1, m2, e1, q, l, f⟩ := s.focus (List.getElem?_eq_getElem hi)
 exact (f (RepO K H Hs) (some v) d m (fun a d m' _ q => q) (.inr ⟨v, rfl, r⟩)).mono fun b => by have := l b; (try dsimp only); omega
def Zc4 (h : asgN lk i d δ = .ok (u, δ')) : i < δ.length /\ lk i = false /\ δ' = δ.set i d := by
 unfold asgN at h
 split at h
 . rename_i hc
   simp only [Bool.and_eq_true, decide_eq_true_eq, Bool.not_eq_true'] at hc
   cases h
   exact ⟨hc.1, hc.2, rfl⟩
 . cases h
def Za6 (h : lk i = false) : Keeps lk σ (σ.set i v) := fun j hj => by
 have : i ≠ j := fun q => by subst q; rw [h] at hj; cases hj
 rw [List.getElem?_set_ne this]
def ZnC {c : M D} (hN : X.N.Nodup) (hi : X.N[i]? = some x) (hx : Loc X.env.scope x) (he : PE X e (tM X.K c)) (hs : swapsWith e (some (.Name x pos')) pos.line X.env = pure false := by rfl)
 (hf : X.fn x = true \/ X.env.scope.names.lookup x = some .local := by first | exact .inl rfl | exact .inr rfl | assumption) :
 PS X (.Assign [.Name x pos'] e pos) (tS X.K lk (c.bnd fun d => (asgN lk i d).bnd fun _ => M.ret .nx)) := PS.imp (ZmT hN hi hx he hs hf) fun E σ H h => by
 obtain ⟨δ, Hs, M, f, δ', g, s, e, q⟩ := h
 obtain ⟨d, δ1, e1, e2⟩ := Zb e
 obtain ⟨u, δ2, e3, e4⟩ := Zb e2
 have := Zg e4
 cases this
 obtain ⟨h1, h2, rfl⟩ := Zc4 e3
 exact ⟨δ, Hs, M, d, δ1, g, s, e1, fun v H' Hs' m M' g' st' r s' => q _ H' Hs' _ (Za6 h2) g' st' (ZaT s' h1 r)⟩
end
noncomputable def gNs : List Nat -> TGs
 | [] => gNil
 | i :: is => Zky (Zcf i) (gNs is)
theorem Zhn : ∀ {is : List Nat} {ds : List D} {vs : List V} {σ : St} {δ δ' : List D} {m M : Bud} {u : Unit} {Q : St -> Hp -> Prop}, ZbG lk is ds δ = .ok (u, δ') -> RepL K H Hs vs ds m -> RepS K H Hs σ δ M ->
 (∀ σ', Keeps lk σ σ' -> RepS K H Hs σ' δ' (fun b => m b + M b) -> Q σ' H) -> vs.length = is.length /\ gNs is vs σ H Q
 | [], [], _, σ, δ, δ', m, M, u, Q, e, .nil _, s, q => by
  have := Zg e
  cases this
  exact ⟨rfl, rfl, q σ (Keeps.refl _ _) (s.mono fun b => by omega)⟩
 | [], _ :: _, _, _, _, _, _, _, _, _, e, _, _, _ => by cases e
 | _ :: _, [], _, _, _, _, _, _, _, _, e, _, _, _ => by cases e
 | i :: is, d :: ds, _, σ, δ, δ', m, M, u, Q, e, .cons (v := v) (vs := vs) (m1 := m1) (m2 := m2) x y l, s, q => by
  obtain ⟨u1, δ1, e1, e2⟩ := Zb e
  obtain ⟨h1, h2, rfl⟩ := Zc4 e1
  obtain ⟨hl, hq⟩ := Zhn (Q := Q) e2 y (ZaT s h1 x) fun σ' k r => q σ' ((Za6 h2).trans k) (r.mono fun b => by have := l b; (try dsimp only); omega)
  exact ⟨by rw [List.length_cons, List.length_cons, hl], v, vs, rfl, hq⟩
section
variable {e o k : Expr} {es : List Expr} {i : Nat} {is : List Nat} {x : Str}
def ZkD : PGs X [] (gNs []) := Zlb
def ok_g (hN : X.N.Nodup) (hi : X.N[i]? = some x) (hx : Loc X.env.scope x) (hr : PGs X es (gNs is)) (hf : X.fn x = true \/ X.env.scope.names.lookup x = some .local := by first | exact .inl rfl | exact .inr rfl | assumption)
 (hs : (assignEach (.Name x pos :: es) X.env).map (·.2) = assign (.Name x pos) X.env :: (assignEach es X.env).map (·.2) := by rfl) : PGs X (.Name x pos :: es) (gNs (i :: is)) := Zjk (ZgV hN hi hx hf) hr hs
def RepL.set (r : RepL K H Hs vs ds m) (hn : ds[n]? = some d0) (x : Rep K H Hs v d m1) : RepL K H Hs (vs.set n v) (ds.set n d) (fun b => m b + m1 b) := by
 obtain ⟨a, n1, n2, e1, q, l, f⟩ := r.sep.focus hn
 exact ((f (Rep K H Hs) v d m1 (fun a d m' _ q => q) x).mono fun b => by have := l b; (try dsimp only); omega).repL
def ZeJ {K : Fg} {M : Bud} {p : Op} (s : RepS K H Hs σ δ M) (h : ZK i δ = .ok (p, δ')) : δ' = δ /\ ∃ v, σ[i]? = some (some v) := by
 unfold ZK at h
 split at h
 . rename_i hd
   cases h
   obtain ⟨v, _, _, e, _⟩ := s.slot hd (by simp)
   exact ⟨rfl, v, e⟩
 . rename_i hd
   cases h
   obtain ⟨v, _, _, e, _⟩ := s.slot hd (by simp)
   exact ⟨rfl, v, e⟩
 . cases h
end
structure WalkV (J : It) (vs : List V) (B : Bud) (Pp : Hp -> Hp -> Prop) : Prop where
 stay : ∀ {H Hs H' Hs' : Hp}, Pp H Hs -> Same Hs Hs' -> (∀ b, B b ≥ 1 -> H b ≠ none -> H' b = H b) -> Pp H' Hs'
 go : ∀ {H Hs : Hp} {i : Nat} {v : V}, Same Hs H -> Pp H Hs -> vs[i]? = some v -> J.go i H
 yld : ∀ {H Hs H' : Hp} {i : Nat} {x v : V}, Same Hs H -> Pp H Hs -> vs[i]? = some v -> J.yld i H x H' -> H' = H /\ x = v
 stop : ∀ {H Hs : Hp} {i : Nat}, Same Hs H -> Pp H Hs -> vs.length <= i -> J.stop i H
def Grow (H Hs H' Hs' : Hp) : Prop := (H' = H /\ Hs' = Hs) \/ ∃ A o, H A = none /\ H' = upd H A o /\ Hs' = upd Hs A o
def Grow.same (w : Grow H Hs H' Hs') (g : Same Hs H) : Same Hs Hs' /\ (∀ b, H b ≠ none -> H' b = H b) /\ Same Hs' H' := by
 rcases w with ⟨rfl, rfl⟩ | ⟨A, o, h, rfl, rfl⟩
 . exact ⟨Same.refl _, fun _ _ => rfl, g⟩
 . have hs : Hs A = none := by
    cases q : Hs A with
    | none => rfl
    | some u => rw [g A u q] at h; cases h
   have ne : ∀ b u, Hs b = some u -> b ≠ A := fun b u e z => by subst z; rw [hs] at e; cases e
   refine ⟨fun b u e => ?_, fun b n => Zk fun z => n (by rw [z]; exact h), fun b u e => ?_⟩
   . rw [Zk (ne b u e)]; exact e
   . by_cases z : b = A
     . subst z; rw [Zl] at e ⊢; exact e
     . rw [Zk z] at e ⊢; exact g b u e
def Grow.good {M : Bud} (w : Grow H Hs H' Hs') (g : Good H Hs M) : Good H' Hs' M := by
 obtain ⟨s1, s2, s3⟩ := w.same g.sub
 refine ⟨s3, g.le, fun b h => ?_, fun b h => ?_⟩
 . rcases w with ⟨rfl, rfl⟩ | ⟨A, o, n, rfl, rfl⟩
   . exact g.ne b h
   . rw [Zk fun z => g.has b h (by rw [z]; exact n)]; exact g.ne b h
 . rw [s2 b (g.has b h)]; exact g.has b h
def Grow.stp {M : Bud} (w : Grow H Hs H' Hs') (g : Good H Hs M) (t : Stp H0 Hs0 M0 H Hs M) : Stp H0 Hs0 M0 H' Hs' M := by
 obtain ⟨s1, s2, s3⟩ := w.same g.sub
 refine ⟨fun b o e z => ?_, t.own, t.grow.trans s1, fun b n n' => ?_, fun b n => ?_⟩
 . have e1 := t.keep b o e z
   rw [s2 b (by rw [e1]; simp)]; exact e1
 . by_cases q : Hs b = none
   . rcases w with ⟨rfl, rfl⟩ | ⟨A, o, h, rfl, rfl⟩
     . exact absurd q n'
     . by_cases z : b = A
       . subst z
         cases y : H0 b with
         | none => exact .inr rfl
         | some u => exact absurd h (t.stay b (by rw [y]; simp))
       . rw [Zk z] at n'; exact absurd q n'
   . exact t.shr b n q
 . have := t.stay b n
   rw [s2 b this]; exact this
structure Walk (K : Fg) (J : It) (items : List D) (B : Bud) (Pp : Hp -> Hp -> Prop) : Prop where
 stay : ∀ {H Hs H' Hs' : Hp}, Pp H Hs -> Same Hs Hs' -> (∀ b, B b ≥ 1 -> H b ≠ none -> H' b = H b) -> Pp H' Hs'
 go : ∀ {H Hs : Hp} {i : Nat}, Same Hs H -> Pp H Hs -> i < items.length -> J.go i H
 yld : ∀ {H Hs H' : Hp} {i : Nat} {x : V} {d : D}, Same Hs H -> Pp H Hs -> items[i]? = some d -> J.yld i H x H' -> ∃ Hs', Grow H Hs H' Hs' /\ Rep K H' Hs' x d (fun _ => 0)
 stop : ∀ {H Hs : Hp} {i : Nat}, Same Hs H -> Pp H Hs -> items.length <= i -> J.stop i H
def WalkV.w (w : WalkV J vs B Pp) : Walk K J items B (fun H Hs => Pp H Hs /\ RepL K H Hs vs items (fun _ => 0)) where
 stay := fun h g k => ⟨w.stay h.1 g k, h.2.frame g fun b hb => absurd hb (by simp)⟩
 go := fun {H Hs i} g h l => by
  have e := h.2.len
  exact w.go g h.1 (List.getElem?_eq_getElem (show i < vs.length by omega))
 yld := fun {H Hs H' i x d} g h e y => by
  obtain ⟨v, m1, ev, rv, lv⟩ := h.2.at e
  obtain ⟨rfl, rfl⟩ := w.yld g h.1 ev y
  exact ⟨Hs, .inl ⟨rfl, rfl⟩, rv.mono lv⟩
 stop := fun {H Hs i} g h l => w.stop g h.1 (by have := h.2.len; omega)
def Held (K : Fg) (H Hs : Hp) (σ : St) : List (Nat × D) -> Bud -> Prop
 | [], _ => True
 | (i, d) :: r, m => ∃ (v : V) (m1 m2 : Bud), σ[i]? = some (some v) /\ Rep K H Hs v d m1 /\ Held K H Hs σ r m2 /\ ∀ b, m1 b + m2 b <= m b
theorem Held.frame (g : Same Hs Hs') : ∀ {hs : List (Nat × D)} {m : Bud}, (∀ b, m b ≥ 1 -> H b ≠ none -> H' b = H b) -> Held K H Hs σ hs m -> Held K H' Hs' σ hs m
 | [], _, _, h => h
 | (i, d) :: r, m, k, ⟨v, m1, m2, e, x, y, l⟩ => ⟨v, m1, m2, e, x.frame g fun b hb => k b (by have := l b; omega), y.frame g fun b hb => k b (by have := l b; omega), l⟩
theorem Held.keeps (k : Keeps lk σ σ') : ∀ {hs : List (Nat × D)} {m : Bud}, (∀ p ∈ hs, lk p.1 = true) -> Held K H Hs σ hs m -> Held K H Hs σ' hs m
 | [], _, _, h => h
 | (i, d) :: r, m, hl, ⟨v, m1, m2, e, x, y, l⟩ => ⟨v, m1, m2, (k i (hl (i, d) List.mem_cons_self)).trans e, x, y.keeps k fun p hp => hl p (List.mem_cons_of_mem _ hp), l⟩
theorem Za7 : ∀ {hs : List (Nat × D)} {m M : Bud} {δ δ' : List D} {u : Unit}, Z8 hs δ = .ok (u, δ') -> Held K H Hs σ hs m -> RepS K H Hs σ δ M -> RepS K H Hs σ δ' (fun b => m b + M b)
 | [], m, M, δ, δ', u, e, h, s => by
  have := Zg e
  cases this
  exact s.mono fun b => by omega
 | (i, d) :: r, m, M, δ, δ', u, e, ⟨v, m1, m2, e1, x, y, l⟩, s => by
  have hi : i < δ.length := by
   have := s.length
   have := (List.getElem?_eq_some_iff.mp e1).1
   omega
  have z := ZaT s hi x
  rw [Zaa e1] at z
  exact (Za7 (show Z8 r (δ.set i d) = _ from e) y z).mono fun b => by have := l b; (try dsimp only); omega
inductive tI (K : Fg) (ik : IK) (cs : M (List Op)) (σ : St) (H : Hp) (R : It -> Hp -> Prop) : Prop
 | mk (δ : List D) (Hs : Hp) (M : Bud) (h : List W × List (Nat × D)) (items : List D) (δ' : List D) (h0 : Good H Hs M) (h1 : RepS K H Hs σ δ M) (h2 : (cs.bnd Zw) δ = .ok (h, δ')) (h3 : itW ik h.1 = some items) (h4 : ∀ (J : It) (Pp : Hp -> Hp -> Prop) (H' Hs' : Hp) (B M' : Bud), Good H' Hs' (fun b => B b + M' b) -> Stp H Hs M H' Hs' (fun b => B b + M' b) -> RepS K H' Hs' σ δ' M' -> Held K H' Hs' σ h.2 B -> Walk K J items B Pp -> Pp H' Hs' -> R J H') : tI K ik cs σ H R
def PI.imp (h : PI X tg it w) (q : ∀ σ H R, w' σ H R -> w σ H R) : PI X tg it w' := fun pins s σ H R I z => h pins s σ H R I (q σ H R z)
def HW (K : Fg) (H Hs : Hp) (B : Bud) (v : V) : W -> Prop
 | .sc u => v = u
 | .nd k ds => ∃ a vs, v = .ref a /\ RepL K H Hs vs ds (fun _ => 0) /\ (ZcM K Hs a vs k \/ (Za2 K H a vs k /\ B a ≥ 1))
theorem Zc5 {K : Fg} {m M : Bud} {p : Op} {v : V} {w : W × Option (Nat × D)} (g : Good H Hs (fun b => m b + M b)) (s : RepS K H Hs σ δ M) (r : RepP K H Hs σ v p m) (e : holdV p δ = .ok (w, δ')) :
 ∃ Hs' B M', Good H Hs' (fun b => B b + M' b) /\ Stp H Hs (fun b => m b + M b) H Hs' (fun b => B b + M' b) /\ RepS K H Hs' σ δ' M' /\ Held K H Hs' σ w.2.toList B /\ HW K H Hs' B v w.1 := by
 have dropM : ∀ {Hs' : Hp} {M' : Bud}, Good H Hs' M' -> Good H Hs' (fun b => (fun _ => 0) b + M' b) := fun g => g.re fun b => by simp
 cases p with
 | tmp d =>
  cases d with
  | hole => cases e
  | sc u =>
   have := Zg e
   cases this
   cases r
   exact ⟨Hs, fun _ => 0, M, g.re fun b => by simp, (Stp.refl H Hs _).drop (fun b => by simp) g.le, s, trivial, rfl⟩
  | node k o ds =>
   have := Zg e
   cases this
   have hsame := Zbr g (m := m) fun b => by omega
   have r2 := Rep.share hsame (Zdg (H := H) (Hs := Hs) (m := m)) r
   refine ⟨shH H Hs m, fun _ => 0, M, dropM g.share, (Stp.share g).drop (fun b => by simp) g.share.le, s.frame hsame fun _ _ _ => rfl, trivial, ?_⟩
   simp only [shr] at r2
   cases r2 with
   | shd n r3 => exact ⟨_, _, rfl, r3, .inl n⟩
 | late i =>
  have r : σ[i]? = some (some v) := r
  unfold holdV at e
  dsimp only at e
  split at e
  . rename_i u hi
    cases e
    obtain ⟨v', m1, m2, e1, q, l, f⟩ := s.slot hi (by simp)
    rw [r] at e1
    cases e1
    cases q
    exact ⟨Hs, fun _ => 0, M, g.re fun b => by simp, (Stp.refl H Hs _).drop (fun b => by simp) g.le, s, trivial, rfl⟩
  . rename_i k ds hi
    cases e
    obtain ⟨v', m1, m2, e1, q, l, f⟩ := s.slot hi (by simp)
    rw [r] at e1
    cases e1
    cases q with
    | shd n q => exact ⟨Hs, fun _ => 0, M, g.re fun b => by simp, (Stp.refl H Hs _).drop (fun b => by simp) g.le, s, trivial, _, _, rfl, q, .inl n⟩
  . rename_i k ds hi
    cases e
    obtain ⟨v', m1, m2, e1, q, l, f⟩ := s.slot hi (by simp)
    rw [r] at e1
    cases e1
    cases q with
    | @own a _ vs _ _ m' n q l' =>
     have g2 : Good H Hs (fun b => m' b + (one a b + m2 b)) := g.re fun b => by have := l b; have := l' b; omega
     have hsame := Zbr g2 (m := m') fun b => by omega
     have q2 := RepL.share hsame (Zdg (H := H) (Hs := Hs) (m := m')) q
     have st := Stp.share g2
     have z := f H (shH H Hs m') (some (.ref a)) .hole (fun _ => 0) hsame (fun _ _ _ => rfl) (.inl rfl)
     rw [Zaa r] at z
     refine ⟨shH H Hs m', one a, m2, g2.share, ⟨fun b o h _ => h, fun b h => ?_, st.grow, fun b h h' => ?_, fun b h => h⟩, z.mono fun b => by simp, ⟨_, one a, fun _ => 0, r, .own n q2 fun b => by simp, trivial, fun b => by simp⟩, _, _, rfl, q2, .inr ⟨n, by simp [one]⟩⟩
     . have h : one a b + m2 b = 1 := h
       have l0 : m b + M b <= 1 := g.le b
       have := l b
       have := l' b
       left
       show m b + M b = 1
       omega
     . rcases st.shr b h h' with z | z
       . have z : m' b + (one a b + m2 b) = 1 := z
         have l0 : m b + M b <= 1 := g.le b
         have := l b
         have := l' b
         left
         show m b + M b = 1
         omega
       . exact .inr z
  . cases e
def Zel (lo : Int) (n : Nat) (B : Bud) : WalkV (Itr lo n) ((List.range n).map fun (k : Nat) => V.int (lo + k)) B (fun _ _ => True) where
 stay := fun _ _ _ => trivial
 go := fun {H Hs i v} _ _ h => by
  have := (List.getElem?_eq_some_iff.mp h).1
  simp only [List.length_map, List.length_range] at this
  exact this
 yld := fun {H Hs H' i x v} _ _ h y => by
  obtain ⟨e, y⟩ := y
  have := (List.getElem?_eq_some_iff.mp h).1
  simp only [List.length_map, List.length_range] at this
  rw [List.getElem?_map, List.getElem?_range this] at h
  simp only [Option.map_some, Option.some.injEq] at h
  exact ⟨e, y.trans h⟩
 stop := fun {H Hs i} _ _ h => by
  simp only [List.length_map, List.length_range] at h
  exact h
def Zfl : WalkV (Itl K a) vs B (fun H Hs => SqL K Hs a vs \/ (H a = some (.lst vs) /\ B a ≥ 1)) := by
 have sq : ∀ {H Hs : Hp}, Same Hs H -> (SqL K Hs a vs \/ (H a = some (.lst vs) /\ B a ≥ 1)) -> SqL K H a vs := fun g h => by
  rcases h with h | h
  . exact g.seq h
  . exact .inl (.inl h.1)
 refine ⟨fun h g k => ?_, fun g h e => ⟨vs, _, sq g h, e⟩, fun g h e y => ?_, fun g h e => ⟨vs, sq g h, e⟩⟩
 . rcases h with h | ⟨h, hb⟩
   . exact .inl (g.seq h)
   . exact .inr ⟨(k a hb (by rw [h]; simp)).trans h, hb⟩
 . obtain ⟨e1, y⟩ := y
   have := y vs (sq g h)
   rw [e] at this
   exact ⟨e1, (Option.some.inj this).symm⟩
def ZfV : WalkV (Itt K a) vs B (fun H Hs => SqT K Hs a vs \/ (H a = some (.tup vs) /\ B a ≥ 1)) := by
 have sq : ∀ {H Hs : Hp}, Same Hs H -> (SqT K Hs a vs \/ (H a = some (.tup vs) /\ B a ≥ 1)) -> SqT K H a vs := fun g h => by
  rcases h with h | h
  . exact Same.tupq' g h
  . exact .inl (.inl h.1)
 refine ⟨fun h g k => ?_, fun g h e => ⟨vs, _, sq g h, e⟩, fun g h e y => ?_, fun g h e => ⟨vs, sq g h, e⟩⟩
 . rcases h with h | ⟨h, hb⟩
   . exact .inl (Same.tupq' g h)
   . exact .inr ⟨(k a hb (by rw [h]; simp)).trans h, hb⟩
 . obtain ⟨e1, y⟩ := y
   have := y vs (sq g h)
   rw [e] at this
   exact ⟨e1, (Option.some.inj this).symm⟩
section
variable {tg a b l : Expr} {ca cb : M Op} {p : Pos}
def Zic {c : M Op} {h : List W × List (Nat × D)} (e : ((c.bnd fun p => (M.ret ([] : List Op)).bnd fun ps => M.ret (p :: ps)).bnd Zw) δ = .ok (h, δ')) : ∃ p δ1 w, c δ = .ok (p, δ1) /\ holdV p δ1 = .ok (w, δ') /\ h = ([w.1], w.2.toList) := by
 obtain ⟨ps, δ1, e1, e2⟩ := Zb e
 obtain ⟨p, δ2, e3, e4⟩ := Zb e1
 obtain ⟨z, δ3, e5, e6⟩ := Zb e4
 have := Zg e5
 cases this
 have := Zg e6
 cases this
 obtain ⟨w, δ4, e7, e8⟩ := Zb e2
 obtain ⟨z, δ5, e9, e10⟩ := Zb e8
 have := Zg e9
 cases this
 have := Zg e10
 cases this
 exact ⟨p, δ1, w, e3, e7, by simp⟩
theorem Zdk : ∀ (l : List Int), RepL K H Hs (l.map V.int) (l.map fun i => D.sc (.int i)) (fun _ => 0)
 | [] => .nil _
 | i :: l => .cons (m1 := fun _ => 0) (m2 := fun _ => 0) (.sc _ _) (Zdk l) fun b => by simp
def Zho (lo hi : Int) : RepL K H Hs ((List.range (hi - lo).toNat).map fun (k : Nat) => V.int (lo + k)) (rng lo hi) (fun _ => 0) := by
 have z := Zdk (K := K) (H := H) (Hs := Hs) ((List.range (hi - lo).toNat).map fun (k : Nat) => lo + k)
 rw [List.map_map, List.map_map] at z
 exact z
def ZbO (hm : X.mg "range" = none) (ha : PE X a (tP X.K ca)) (hz : glOk X.env.scope "range" = true := by kernel_rfl) (hs : starEach [a] X.env = [(false, eval a X.env)] := by rfl) :
 PI X tg (.Call (.Name "range" p) [a] [] pos) (tI X.K .rng1 (ca.bnd fun p => (M.ret ([] : List Op)).bnd fun ps => M.ret (p :: ps))) := PI.imp (Ziu (glk hz) hm (Zaf ha ZaX (by show _ = _; rw [hs]; rfl)) hs) fun σ H R h => by
 obtain ⟨δ, Hs, M, h, items, δ', g, s, e, ei, q⟩ := h
 obtain ⟨p, δ1, w, e1, e2, rfl⟩ := Zic e
 refine ⟨δ, Hs, M, p, δ1, g, s, e1, fun x H2 Hs2 m1 M2 g2 st2 r1 s2 => ?_⟩
 obtain ⟨Hs3, B, M3, g3, st3, s3, hh, hw⟩ := Zc5 g2 s2 r1 e2
 have z := Zq (m1 := fun _ => 0) g (g2.re fun b => by simp) (st2.drop (fun b => by simp) g2.le) g3 st3
 obtain ⟨w1, w2⟩ := w
 replace ei : ZhX _ = _ := ei
 unfold ZhX at ei
 split at ei
 rotate_left
 . cases ei
 rename_i n hx
 cases hx
 split at ei
 . rename_i hok
   cases ei
   obtain rfl := hw
   simp only [okR, Bool.and_eq_true, decide_eq_true_eq] at hok
   have hz : (n - 0).toNat = n.toNat := by omega
   refine ⟨n, rfl, hok.1, hok.2, ?_⟩
   have := Zho (K := X.K) (H := H2) (Hs := Hs3) 0 n
   rw [hz] at this
   exact q _ _ H2 Hs3 B M3 g3 (z.2.1.drop (fun b => by simp) z.1.le) s3 hh (Zel 0 n.toNat B).w ⟨trivial, this⟩
 . cases ei
def Zqc (e : ((ca.bnd fun p => (cb.bnd fun p => (M.ret ([] : List Op)).bnd fun ps => M.ret (p :: ps)).bnd fun ps => M.ret (p :: ps)).bnd Zw) δ = .ok (h, δ')) : ∃ p1 δ1 p2 δ2 w1 δ3 w2, ca δ = .ok (p1, δ1) /\ cb δ1 = .ok (p2, δ2) /\ holdV p1 δ2 = .ok (w1, δ3) /\ holdV p2 δ3 = .ok (w2, δ') /\ h = ([w1.1, w2.1], w1.2.toList ++ (w2.2.toList ++ [])) := by
 obtain ⟨ps, δ1, e1, e2⟩ := Zb e
 obtain ⟨p1, δ2, e3, e4⟩ := Zb e1
 obtain ⟨qs, δ3, e5, e6⟩ := Zb e4
 obtain ⟨p2, δ4, e7, e8⟩ := Zb e5
 obtain ⟨z, δ5, e9, e10⟩ := Zb e8
 clear e e1 e4 e5 e8
 have := Zg e9
 cases this
 have := Zg e10
 cases this
 have := Zg e6
 cases this
 obtain ⟨w1, δ6, e11, e12⟩ := Zb e2
 obtain ⟨ws, δ7, e13, e14⟩ := Zb e12
 obtain ⟨w2, δ8, e15, e16⟩ := Zb e13
 obtain ⟨z, δ9, e17, e18⟩ := Zb e16
 clear e2 e12 e13 e16
 have := Zg e17
 cases this
 have := Zg e18
 cases this
 have := Zg e14
 cases this
 exact ⟨p1, δ2, p2, _, w1, _, w2, e3, e7, e11, e15, rfl⟩
theorem Zhp {p : Op} {v : V} {h : Option (Nat × D)} (e : holdV p δ = .ok ((.sc v, h), δ')) : h = none := by
 cases p with
 | tmp d => cases d with
  | sc u => cases e; rfl
  | hole => cases e
  | node k o ds => cases e
 | late i =>
  unfold holdV at e
  dsimp only at e
  split at e <;> cases e
  rfl
def ZlE (hm : X.mg "range" = none) (ha : PE X a (tP X.K ca)) (hb : PE X b (tP X.K cb)) (hz : glOk X.env.scope "range" = true := by kernel_rfl) (hs : starEach [a, b] X.env = [(false, eval a X.env), (false, eval b X.env)] := by rfl) (hs2 : starEach [b] X.env = [(false, eval b X.env)] := by rfl) :
 PI X tg (.Call (.Name "range" p) [a, b] [] pos) (tI X.K .rng2 (ca.bnd fun p => (cb.bnd fun p => (M.ret ([] : List Op)).bnd fun ps => M.ret (p :: ps)).bnd fun ps => M.ret (p :: ps))) := PI.imp (Ziv (glk hz) hm (Zaf ha (Zaf hb ZaX (by show _ = _; rw [hs2]; rfl)) (by show _ = _; rw [hs, hs2])) hs hs2) fun σ H R h => by
 obtain ⟨δ, Hs, M, h, items, δ', g, s, e, ei, q⟩ := h
 obtain ⟨p1, δ2, p2, δ4, w1, δ6, w2, e3, e7, e11, e15, rfl⟩ := Zqc e
 obtain ⟨w1, h1⟩ := w1
 obtain ⟨w2, h2⟩ := w2
 replace ei : ZhY _ = _ := ei
 unfold ZhY at ei
 split at ei
 rotate_left
 . cases ei
 rename_i lo hi hx
 cases hx
 split at ei
 . rename_i hok
   cases ei
   simp only [okR, Bool.and_eq_true, decide_eq_true_eq] at hok
   refine ⟨δ, Hs, M, p1, δ2, g, s, e3, fun x H1 Hs1 m1 M1 g1 st1 r1 s1 => ⟨δ2, Hs1, M1, p2, _, g1.re, s1, e7, fun y H2 Hs2 m2 M2 g2 st2 r2 s2 => ?_⟩⟩
   obtain ⟨G2, S2, k2⟩ := Zq g g1 st1 g2 st2
   have r1' := RepP.frame st2.grow k2 r1
   have r2b : RepP X.K H2 Hs2 σ x p1 (fun b => m1 b + m2 b) := by
    cases p1 with
    | late i => exact r1'
    | tmp d => exact Rep.mono r1' fun b => by omega
   obtain ⟨Hs3, B3, M3, g3, st3, s3, hh3, hw3⟩ := Zc5 (m := fun b => m1 b + m2 b) (G2.re fun b => by (try dsimp only); omega) s2 r2b e11
   obtain rfl := hw3
   have r2' : RepP X.K H2 Hs3 σ y p2 (fun _ => 0) := by
    cases p2 with
    | late i => exact r2
    | tmp d =>
     cases d with
     | sc u => cases r2; exact .sc _ _
     | hole => cases e15
     | node k o ds => cases e15
   have nh1 : h1 = none := Zhp e11
   have nh2 : h2 = none := Zhp e15
   subst nh1 nh2
   obtain ⟨Hs4, B4, M4, g4, st4, s4, hh4, hw4⟩ := Zc5 (m := fun _ => 0) (g3.re fun b => by simp) s3 r2' e15
   obtain rfl := hw4
   have S2' : Stp H Hs M H2 Hs2 (fun b => m1 b + m2 b + M2 b) := S2.drop (fun b => by omega) G2.le
   have G2' : Good H2 Hs2 (fun b => m1 b + m2 b + M2 b) := G2.re fun b => by omega
   have z3 := Zq (m1 := fun _ => 0) g (G2'.re fun b => by simp) (S2'.drop (fun b => by simp) G2'.le) g3 st3
   have S3 : Stp H Hs M H2 Hs3 (fun b => B3 b + M3 b) := z3.2.1.drop (fun b => by simp) z3.1.le
   have st4' : Stp H2 Hs3 (fun b => B3 b + M3 b) H2 Hs4 (fun b => B4 b + M4 b) := ⟨fun b o h _ => h, fun b h => by
    rcases st4.own b h with z | z
    . have z : 0 + M3 b = 1 := z
      have : B3 b + M3 b <= 1 := g3.le b
      left; show B3 b + M3 b = 1; omega
    . exact .inr z, st4.grow, fun b h h' => by
    rcases st4.shr b h h' with z | z
    . have z : 0 + M3 b = 1 := z
      have : B3 b + M3 b <= 1 := g3.le b
      left; show B3 b + M3 b = 1; omega
    . exact .inr z, fun b h => h⟩
   have z4 := Zq (m1 := fun _ => 0) g (g3.re fun b => by simp) (S3.drop (fun b => by simp) g3.le) g4 st4'
   exact ⟨lo, hi, rfl, ⟨hok.1.1, hok.1.2, hok.2.1, hok.2.2⟩, q _ _ H2 Hs4 B4 M4 g4 (z4.2.1.drop (fun b => by simp) z4.1.le) s4 trivial (Zel lo _ B4).w ⟨trivial, Zho lo hi⟩⟩
 . cases ei
theorem Zem : ∀ (l : List Nat), RepL K H Hs (l.map fun c => V.str ⟨#[c]⟩) (l.map fun c => D.sc (.str ⟨#[c]⟩)) (fun _ => 0)
 | [] => .nil _
 | i :: l => .cons (m1 := fun _ => 0) (m2 := fun _ => 0) (.sc _ _) (Zem l) fun b => by simp
def ZjI (x : Str) (B : Bud) : WalkV (Its x) (x.cps.toList.map fun c => V.str ⟨#[c]⟩) B (fun _ _ => True) where
 stay := fun _ _ _ => trivial
 go := fun {H Hs i v} _ _ h => by
  have := (List.getElem?_eq_some_iff.mp h).1
  have : i < x.cps.size := by simpa using this
  exact this
 yld := fun {H Hs H' i y v} _ _ h z => by
  obtain ⟨e, c, h1, h2⟩ := z
  refine ⟨e, ?_⟩
  rw [List.getElem?_map, Array.getElem?_toList, h1] at h
  simp only [Option.map_some, Option.some.injEq] at h
  exact h2.trans h
 stop := fun {H Hs i} _ _ h => by
  have h : x.cps.size <= i := by simpa using h
  exact h
theorem ZbX (hl : PE X l (tP X.K ca)) : PI X tg l (tI X.K .val (ca.bnd fun p => (M.ret ([] : List Op)).bnd fun ps => M.ret (p :: ps))) := by
 intro pins st0 σ H R I hh0
 obtain ⟨δ, Hs, M, h, items, δ', g, s, e, ei, q⟩ := hh0
 obtain ⟨p, δ1, w, e1, e2, rfl⟩ := Zic e
 obtain ⟨w1, w2⟩ := w
 have core : ∀ (x : V) (H2 Hs2 : Hp) (m1 M2 : Bud), Good H2 Hs2 (fun b => m1 b + M2 b) -> Stp H Hs M H2 Hs2 (fun b => m1 b + M2 b) -> RepP X.K H2 Hs2 σ x p m1 -> RepS X.K H2 Hs2 σ δ1 M2 ->
  ∃ Hs3 B M3, Good H2 Hs3 (fun b => B b + M3 b) /\ Stp H Hs M H2 Hs3 (fun b => B b + M3 b) /\ RepS X.K H2 Hs3 σ δ' M3 /\ Held X.K H2 Hs3 σ w2.toList B /\ HW X.K H2 Hs3 B x w1 := fun x H2 Hs2 m1 M2 g2 st2 r1 s2 => by
  obtain ⟨Hs3, B, M3, g3, st3, s3, hh, hw⟩ := Zc5 g2 s2 r1 e2
  have z := Zq (m1 := fun _ => 0) g (g2.re fun b => by simp) (st2.drop (fun b => by simp) g2.le) g3 st3
  exact ⟨Hs3, B, M3, g3, z.2.1.drop (fun b => by simp) z.1.le, s3, hh, hw⟩
 cases w1 with
 | sc u =>
  cases u with
  | str z =>
   cases ei
   refine Zny hl pins st0 σ H R I ⟨δ, Hs, M, p, δ1, g, s, e1, fun x H2 Hs2 m1 M2 g2 st2 r1 s2 => ?_⟩
   obtain ⟨Hs3, B, M3, g3, st3, s3, hh, hw⟩ := core x H2 Hs2 m1 M2 g2 st2 r1 s2
   exact ⟨z, hw, q _ _ H2 Hs3 B M3 g3 st3 s3 hh (ZjI z B).w ⟨trivial, Zem _⟩⟩
  | _ => cases ei
 | nd k ds =>
  cases k with
  | lst =>
   cases ei
   refine ZgW hl pins st0 σ H R I ⟨δ, Hs, M, p, δ1, g, s, e1, fun x H2 Hs2 m1 M2 g2 st2 r1 s2 => ?_⟩
   obtain ⟨Hs3, B, M3, g3, st3, s3, hh, a, vs, hx, hr, hn⟩ := core x H2 Hs2 m1 M2 g2 st2 r1 s2
   have hp : SqL X.K Hs3 a vs \/ (H2 a = some (.lst vs) /\ B a ≥ 1) := hn.elim (fun n => .inl (.inl (.inl n))) fun n => .inr n
   refine ⟨a, hx, ⟨vs, ?_⟩, q _ _ H2 Hs3 B M3 g3 st3 s3 hh Zfl.w ⟨hp, hr⟩⟩
   rcases hp with hp | hp
   . exact g3.sub.seq hp
   . exact .inl (.inl hp.1)
  | frl =>
   cases ei
   refine ZgW hl pins st0 σ H R I ⟨δ, Hs, M, p, δ1, g, s, e1, fun x H2 Hs2 m1 M2 g2 st2 r1 s2 => ?_⟩
   obtain ⟨Hs3, B, M3, g3, st3, s3, hh, a, vs, hx, hr, hn⟩ := core x H2 Hs2 m1 M2 g2 st2 r1 s2
   have hp : SqL X.K Hs3 a vs \/ (H2 a = some (.lst vs) /\ B a ≥ 1) := hn.elim (fun n => .inl n) fun n => n.1.elim
   refine ⟨a, hx, ⟨vs, ?_⟩, q _ _ H2 Hs3 B M3 g3 st3 s3 hh Zfl.w ⟨hp, hr⟩⟩
   rcases hp with hp | hp
   . exact g3.sub.seq hp
   . exact .inl (.inl hp.1)
  | tup =>
   cases ei
   refine Zit hl pins st0 σ H R I ⟨δ, Hs, M, p, δ1, g, s, e1, fun x H2 Hs2 m1 M2 g2 st2 r1 s2 => ?_⟩
   obtain ⟨Hs3, B, M3, g3, st3, s3, hh, a, vs, hx, hr, hn⟩ := core x H2 Hs2 m1 M2 g2 st2 r1 s2
   have hp : SqT X.K Hs3 a vs \/ (H2 a = some (.tup vs) /\ B a ≥ 1) := hn.elim (fun n => .inl (.inl (.inl n))) fun n => .inr n
   refine ⟨a, hx, ⟨vs, ?_⟩, q _ _ H2 Hs3 B M3 g3 st3 s3 hh ZfV.w ⟨hp, hr⟩⟩
   rcases hp with hp | hp
   . exact Same.tupq' g3.sub hp
   . exact .inl (.inl hp.1)
  | ftp =>
   cases ei
   refine Zit hl pins st0 σ H R I ⟨δ, Hs, M, p, δ1, g, s, e1, fun x H2 Hs2 m1 M2 g2 st2 r1 s2 => ?_⟩
   obtain ⟨Hs3, B, M3, g3, st3, s3, hh, a, vs, hx, hr, hn⟩ := core x H2 Hs2 m1 M2 g2 st2 r1 s2
   have hp : SqT X.K Hs3 a vs \/ (H2 a = some (.tup vs) /\ B a ≥ 1) := hn.elim (fun n => .inl n) fun n => n.1.elim
   refine ⟨a, hx, ⟨vs, ?_⟩, q _ _ H2 Hs3 B M3 g3 st3 s3 hh ZfV.w ⟨hp, hr⟩⟩
   rcases hp with hp | hp
   . exact Same.tupq' g3.sub hp
   . exact .inl (.inl hp.1)
  | dic ks => cases ei
  | ins C fs => cases ei
  | exc ns fr fs => cases ei
end
noncomputable def gT (K : Fg) : Tg -> TG
 | .name i => Zcf i
 | .tup is => gSeq K is.length (gNs is)
theorem ZeK {K : Fg} {tg : Tg} {d : D} {v : V} {M : Bud} {u : Unit} {Q : St -> Hp -> Prop} (hs : Same Hs H) (e : asgT lk tg d δ = .ok (u, δ')) (r : Rep K H Hs v d (fun _ => 0)) (s : RepS K H Hs σ δ M)
 (q : ∀ σ', Keeps lk σ σ' -> RepS K H Hs σ' δ' M -> Q σ' H) : gT K tg v σ H Q := by
 cases tg with
 | name i =>
  obtain ⟨h1, h2, rfl⟩ := Zc4 e
  exact q _ (Za6 h2) ((ZaT s h1 r).mono fun b => by simp)
 | tup is =>
  cases d with
  | sc v => cases e
  | hole => cases e
  | node k o ds =>
   cases k with
   | tup =>
    have e : ZbG lk is ds δ = .ok (u, δ') := e
    cases r with
    | own n r l =>
     rename_i a _ _
     have := l a
     simp [one] at this
    | shd n r =>
     obtain ⟨hl, hq⟩ := Zhn (Q := Q) e r s fun σ' k z => q σ' k (z.mono fun b => by simp)
     exact ⟨_, _, rfl, .inl (.inl (.inl (hs _ _ n))), hl, hq⟩
   | _ => cases e
def ZlF (h : ∀ j, a ≠ .v j) : Zn a c = c.bnd fun d => M.ret (.tmp d) := by
 cases a <;> first | rfl | exact absurd rfl (h _)
theorem ZdM : ∀ {ps : List Op} {δ δ' : List D} {h : List W × List (Nat × D)}, Zw ps δ = .ok (h, δ') -> ∀ q ∈ h.2, .late q.1 ∈ ps
 | [], δ, δ', h, e, q, hq => by
  have := Zg (show T.M.ret (([] : List W), ([] : List (Nat × D))) δ = .ok (h, δ') from e)
  cases this
  simp at hq
 | p :: ps, δ, δ', h, e, q, hq => by
  obtain ⟨w, δ1, e1, e2⟩ := Zb e
  obtain ⟨ws, δ2, e3, e4⟩ := Zb e2
  have := Zg e4
  cases this
  rcases List.mem_append.mp hq with h | h
  . have : p = .late q.1 := by
     cases p with
     | tmp d => cases d <;> cases e1 <;> simp at h
     | late i =>
      unfold holdV at e1
      dsimp only at e1
      split at e1 <;> cases e1 <;> simp at h
      subst h
      rfl
    rw [this]
    exact List.mem_cons_self
  . exact List.mem_cons_of_mem _ (ZdM e3 q h)
def HWs (cs : M (List Op)) (lk : Nat -> Bool) : Prop := ∀ δ h δ', (cs.bnd Zw) δ = .ok (h, δ') -> ∀ q ∈ h.2, lk q.1 = true
def LkLe (lk lk' : Nat -> Bool) : Prop := ∀ i, lk i = true -> lk' i = true
def ZaR (lk f : Nat -> Bool) : LkLe lk (fun j => lk j || f j) := fun i h => by
 show (lk i || f i) = true
 rw [h]
 rfl
section
def ZaM (hp : PassesOwn (model X.prog X.w) X.A X.env X.xe) (hc : X.calm = true) (hl : LkLe lk lk') (hw : HWs cs lk')
 (hi : PI X tg iter (tI X.K ik cs)) (hg : PG X tg (gT X.K tgt)) (hb : PSs X body (tS X.K lk' cb)) (hs : ∀ x, foldedSetIterable iter X.env x = pure x := by intro _; rfl) :
 PS X (.For tg iter body [] pos) (tS X.K lk (cs.bnd fun ps => (Zw ps).bnd fun h => (lift (itW ik h.1)).bnd fun items => (forL (asgT lk' tgt) cb items).bnd fun f => (Z8 h.2).bnd fun _ => M.ret f)) :=
 PS.imp (ZmU hp hc hi hg hb hs) fun E σ H h => by
 obtain ⟨δ, Hs, M, f, δ', g, s, ea, q⟩ := h
 obtain ⟨ps, δ1, e1, eb⟩ := Zb ea
 obtain ⟨hh, δ2, e2, ec⟩ := Zb eb
 obtain ⟨items, δ3, e3, ed⟩ := Zb ec
 obtain ⟨e3', rfl⟩ := ZE e3
 obtain ⟨f1, δ4, e4, ee⟩ := Zb ed
 obtain ⟨u, δ5, e5, e6⟩ := Zb ee
 have := Zg e6
 cases this
 have e12 : (cs.bnd Zw) δ = .ok (hh, δ3) := by
  show T.M.bnd cs Zw δ = _
  unfold T.M.bnd
  rw [e1]
  exact e2
 have locked := hw _ _ _ e12
 refine ⟨δ, Hs, M, hh, items, δ3, g, s, e12, e3', fun J Pp H1 Hs1 B M1 g1 st1 s1 held wk pp => ?_⟩
 have kl : ∀ {σ1 σ2 : St}, Keeps lk' σ1 σ2 -> Keeps lk σ1 σ2 := fun k i h => k i (hl i h)
 refine ⟨fun i m σ2 H2 => m = items.length - i /\ i <= items.length /\ Keeps lk' σ σ2 /\ ∃ (δ2 : List D) (Hs2 : Hp) (M2 : Bud), Good H2 Hs2 (fun b => B b + M2 b) /\ Stp H Hs M H2 Hs2 (fun b => B b + M2 b) /\ RepS X.K H2 Hs2 σ2 δ2 M2 /\ Held X.K H2 Hs2 σ2 hh.2 B /\ Pp H2 Hs2 /\ forL (asgT lk' tgt) cb (items.drop i) δ2 = .ok (f, δ4),
  ⟨items.length, by simp, Nat.zero_le _, Keeps.refl _ _, δ3, Hs1, M1, g1, st1, s1, held, pp, by rw [List.drop_zero]; exact e4⟩, ?_⟩
 rintro i m σ2 H2 ⟨rfl, hle, k2, δ2, Hs2, M2, g2, st2, s2, held2, pp2, e7⟩
 have fin_nx : ∀ {σ3 : St} {H3 Hs3 : Hp} {M3 : Bud}, f = .nx -> Keeps lk' σ σ3 -> Good H3 Hs3 (fun b => B b + M3 b) -> Stp H Hs M H3 Hs3 (fun b => B b + M3 b) -> RepS X.K H3 Hs3 σ3 δ4 M3 -> Held X.K H3 Hs3 σ3 hh.2 B -> E.nx σ3 H3 := fun {σ3 H3 Hs3 M3} ef k3 g3 st3 s3 held3 => by
  subst ef
  exact q σ3 H3 Hs3 _ (kl k3) g3 st3 (Za7 e5 held3 s3)
 by_cases hlt : i < items.length
 . right
   have hd : items[i]? = some (items[i]'(by omega)) := List.getElem?_eq_getElem (by omega)
   have hdrop : items.drop i = items[i]'(by omega) :: items.drop (i + 1) := List.drop_eq_getElem_cons (by omega)
   rw [hdrop] at e7
   obtain ⟨u1, δ5', e8, e9⟩ := Zb e7
   obtain ⟨fl, δ6, e10, e11⟩ := Zb e9
   refine ⟨wk.go g2.sub pp2 hlt, fun σ3 H3 => Keeps lk' σ σ3 /\ ∃ (δ2 : List D) (Hs2 : Hp) (M2 : Bud), Good H3 Hs2 (fun b => B b + M2 b) /\ Stp H Hs M H3 Hs2 (fun b => B b + M2 b) /\ RepS X.K H3 Hs2 σ3 δ2 M2 /\ Held X.K H3 Hs2 σ3 hh.2 B /\ Pp H3 Hs2 /\ forL (asgT lk' tgt) cb (items.drop (i + 1)) δ2 = .ok (f, δ4),
    fun σ3 H3 ⟨k3, z⟩ => ⟨items.length - (i + 1), by omega, rfl, hlt, k3, z⟩, fun x H' y => ?_⟩
   obtain ⟨Hs3, gr, rv⟩ := wk.yld g2.sub pp2 hd y
   obtain ⟨sm, fr, _⟩ := gr.same g2.sub
   have pp2 := wk.stay pp2 sm fun b _ n => fr b n
   have s2 := RepS.frame sm (fun b _ n => fr b n) s2
   have held2 := held2.frame sm fun b _ n => fr b n
   have st2 := gr.stp g2 st2
   have g2 := gr.good g2
   clear gr sm fr y
   generalize Hs3 = Hs2 at *
   refine ZeK (Hs := Hs2) g2.sub e8 rv s2 fun σ3 k3 s3 => ?_
   refine ⟨δ5', Hs2, M2, fl, δ6, g2.re, s3, e10, ?_⟩
   have held3 : Held X.K H' Hs2 σ3 hh.2 B := held2.keeps k3 locked
   have nxt : ∀ {σ4 : St} {H4 Hs4 : Hp} {M4 : Bud}, Keeps lk' σ3 σ4 -> Good H4 Hs4 M4 -> Stp H' Hs2 M2 H4 Hs4 M4 ->
    Keeps lk' σ σ4 /\ Good H4 Hs4 (fun b => B b + M4 b) /\ Stp H Hs M H4 Hs4 (fun b => B b + M4 b) /\ Held X.K H4 Hs4 σ4 hh.2 B /\ Pp H4 Hs4 := fun {σ4 H4 Hs4 M4} k4 g4 st4 => by
    obtain ⟨G, S, kk⟩ := Zq g g2 st2 g4 st4
    exact ⟨k2.trans (k3.trans k4), G, S, (held3.keeps k4 locked).frame st4.grow kk, wk.stay pp2 st4.grow kk⟩
   cases fl with
   | nx =>
    refine fun σ4 H4 Hs4 M4 k4 g4 st4 s4 => ?_
    obtain ⟨a1, a2, a3, a4, a6⟩ := nxt k4 g4 st4
    exact ⟨a1, δ6, Hs4, M4, a2, a3, s4, a4, a6, e11⟩
   | ct =>
    refine fun σ4 H4 Hs4 M4 k4 g4 st4 s4 => ?_
    obtain ⟨a1, a2, a3, a4, a6⟩ := nxt k4 g4 st4
    exact ⟨a1, δ6, Hs4, M4, a2, a3, s4, a4, a6, e11⟩
   | bk =>
    refine fun σ4 H4 Hs4 M4 k4 g4 st4 s4 => ?_
    obtain ⟨a1, a2, a3, a4, a6⟩ := nxt k4 g4 st4
    have := Zg e11
    cases this
    exact fin_nx rfl a1 a2 a3 s4 a4
   | rt d =>
    refine fun v σ4 H4 Hs4 m4 M4 k4 g4 st4 rd s4 => ?_
    obtain ⟨a1, a2, a3, a4, a6⟩ := nxt k4 g4 st4
    have := Zg e11
    cases this
    exact q v σ4 H4 Hs4 m4 (fun b => B b + M4 b) (kl a1) (a2.re fun b => by (try dsimp only); omega) (a3.drop (fun b => by (try dsimp only); omega) a2.le) rd (Za7 e5 a4 s4)
 . left
   have e0 : items.drop i = [] := List.drop_of_length_le (by omega)
   rw [e0] at e7
   have := Zg e7
   cases this
   exact ⟨wk.stop g2.sub pp2 (by omega), fin_nx rfl k2 g2 st2 s2 held2⟩
end
theorem RepS.toL : ∀ {vs : List V} {ds : List D} {m : Bud}, RepS K H Hs (vs.map some) ds m -> RepL K H Hs vs ds m
 | [], _, _, h => by cases h; exact .nil _
 | v :: vs, _, _, h => by
  cases h with
  | cons x y l =>
   refine .cons ?_ (RepS.toL y) l
   rcases x with rfl | ⟨w, e, r⟩
   . exact .hole _ _
   . cases e
     exact r
section
def Zen (hn : vs.length = n) (k : Keeps (fun i => decide (i < n)) (L2.start N vs) σ') : σ'.take n = vs.map some := by
 apply List.ext_getElem?
 intro i
 by_cases hi : i < n
 . rw [List.getElem?_take_of_lt hi, k i (by simpa using hi)]
   unfold L2.start
   rw [List.getElem?_append_left (by rw [List.length_map]; omega)]
 . rw [List.getElem?_eq_none (by rw [List.length_take]; omega), List.getElem?_eq_none (by rw [List.length_map]; omega)]
def Zfm (r : RepL K H Hs vs ds m) : RepS K H Hs (L2.start N vs) (ds ++ List.replicate (N.length - ds.length) .hole) m := by
 unfold L2.start
 rw [r.len]
 have z := Sep.append (RepL.slots r) (holes (K := K) (H := H) (Hs := Hs) (fun _ => none) (N.length - ds.length) (fun _ => 0) (List.replicate (N.length - ds.length) none) (by simp))
 exact z.mono fun b => by simp
def ZnD (F : FunV dV K x qual st f fd) (Sc : FnScope N ps (Zp st))
 (hb : ∀ (cdv : Value) (A : Around) (outer : List Env) (s : Shared) (H : Hp) (E : XK), Room k (A.deeper (PyProof.Rows.envOfC qual (Zp st) s.heap.objs.size f cdv)) ->
  PSs (cxOf CX0 P w K mg base N qual (Zp st) f cdv A outer s H E).nox (ZT st) (tS K (fun i => decide (i < ps.length)) (exs { C with lock := fun i => decide (i < ps.length) } body))) :
 FnOk P w K mg base CX0 (k + 1) f fd ps (spF K (Zr C ps.length N.length body)) := by
 refine F.ok Sc (fun vs H Q E h => ?_) (fun cdv A outer s H vs Q E hr h => ⟨_, hb cdv A outer s H E hr, ?_⟩)
 . obtain ⟨ds, Hs, m, d, ds', g, r, e, q⟩ := h
   unfold Zr at e
   split at e
   . rename_i hl
     rw [r.len]
     exact hl
   . cases e
 . obtain ⟨ds, Hs, m, d, ds', g, r, e, q⟩ := h
   unfold Zr at e
   split at e
   . rename_i hl
     have hv : vs.length = ps.length := by rw [r.len]; exact hl
     have hr0 := Zfm (N := N) r
     rw [hl] at hr0
     cases he : exs { C with lock := fun i => decide (i < ps.length) } body (ds ++ List.replicate (N.length - ps.length) .hole) with
     | ok z =>
      obtain ⟨fl, δ'⟩ := z
      rw [he] at e
      refine ⟨_, Hs, m, fl, δ', g, hr0, he, ?_⟩
      have back : ∀ {σ' : St} {H' Hs' : Hp} {M' : Bud}, Keeps (fun i => decide (i < ps.length)) (L2.start N vs) σ' -> RepS K H' Hs' σ' δ' M' -> RepL K H' Hs' vs (δ'.take ps.length) M' := fun k' s' => by
       have z := s'.take ps.length
       rw [Zen hv k'] at z
       exact RepS.toL z
      cases fl with
      | nx =>
       cases e
       exact fun σ' H' Hs' M' k' g' st' s' => q .non H' Hs' (fun _ => 0) M' (Za4 g') (st'.drop (fun b => by simp) g'.le) (.sc _ _) (back k' s')
      | rt dd =>
       cases e
       exact fun v σ' H' Hs' m1 M' k' g' st' rv s' => q v H' Hs' m1 M' g' st' rv (back k' s')
      | bk => cases e
      | ct => cases e
     | exc x y => rw [he] at e; cases e
     | stuck => rw [he] at e; cases e
   . cases e
def Zc6 (F : FunV dV K x qual st f fd) (Sc : FnScope N ps (Zp st)) (hn : ps.length = n) (hN : N.length = nN)
 (hb : ∀ (cdv : Value) (A : Around) (outer : List Env) (s : Shared) (H : Hp) (E : XK), Room k (A.deeper (PyProof.Rows.envOfC qual (Zp st) s.heap.objs.size f cdv)) ->
  PSs (cxOf CX0 P w K mg base N qual (Zp st) f cdv A outer s H E).nox (ZT st) (tS K (fun i => decide (i < n)) (exs { C with lock := fun i => decide (i < n) } body))) :
 FnOk P w K mg base CX0 (k + 1) f fd ps (spF K (Zr C n nN body)) := by
 subst hn hN
 exact ZnD F Sc hb
end
theorem Zeo : ∀ {js : List Nat} {δ δ' : List D} {caps : List D} {M : Bud}, Zbq js δ = .ok (caps, δ') -> RepS K H Hs σ δ M -> ∃ mc M', RepS K H Hs (Zba js σ) caps mc /\ RepS K H Hs σ δ' M' /\ (∀ b, mc b + M' b <= M b) /\ ∀ j ∈ js, j < σ.length
 | [], δ, δ', caps, M, e, s => by
  have := Zg e
  cases this
  exact ⟨fun _ => 0, M, .nil _, s, fun b => by simp, fun j hj => by simp at hj⟩
 | j :: js, δ, δ', caps, M, e, s => by
  unfold Zbq at e
  split at e
  . rename_i d hd
    obtain ⟨ds, δ1, e1, e2⟩ := Zb e
    have := Zg e2
    cases this
    obtain ⟨o, m1, m2, q1, q2, l, f⟩ := s.focus hd
    have z := f (RepO K H Hs) o .hole (fun _ => 0) (fun a d m' _ q => q) (.inl rfl)
    rw [Zaa q1] at z
    obtain ⟨mc, M', h1, h2, h3, h4⟩ := Zeo e1 z
    refine ⟨fun b => m1 b + mc b, M', ?_, h2, fun b => by have := l b; have := h3 b; dsimp only at *; omega, fun i hi => ?_⟩
    . rw [ZdL]
      have ho : (σ[j]?).join = o := by rw [q1]; rfl
      rw [ho]
      exact .cons q2 h1 fun b => Nat.le_refl _
    . rcases List.mem_cons.mp hi with rfl | hi
      . exact (List.getElem?_eq_some_iff.mp q1).1
      . exact h4 i hi
  . cases e
def ZgM (caps : List D) : ZaE [] caps = M.ret () := by cases caps <;> rfl
def ZfW (j : Nat) (js : List Nat) (d : D) (ds δ : List D) : ZaE (j :: js) (d :: ds) δ = ZaE js ds (δ.set j d) := rfl
theorem Zid (js : List Nat) : ∀ (caps δ δ' : List D) (mc M : Bud) (u : Unit), (∀ j ∈ js, j < σ.length) -> ZaE js caps δ = .ok (u, δ') -> RepS K H Hs (Zba js σ) caps mc -> RepS K H Hs σ δ M -> RepS K H Hs σ δ' (fun b => mc b + M b) := by
 induction js with
 | nil =>
  intro caps δ δ' mc M u hj e c s
  rw [ZgM] at e
  have := Zg e
  cases this
  exact s.mono fun b => by omega
 | cons j js ih =>
  intro caps δ δ' mc M u hj e c s
  rw [ZdL] at c
  cases c with
  | @cons _ d _ ds m1 m2 _ x y l =>
   rw [ZfW] at e
   have hlt := hj j List.mem_cons_self
   have hlt2 : j < δ.length := by rw [<- s.length]; exact hlt
   obtain ⟨o, n1, n2, q1, q2, l2, f⟩ := s.focus (List.getElem?_eq_getElem hlt2)
   have ho : (σ[j]?).join = o := by rw [q1]; rfl
   rw [ho] at x
   have z := f (RepO K H Hs) o d m1 (fun a d m' _ q => q) x
   rw [Zaa q1] at z
   have fin := ih ds (δ.set j d) δ' m2 _ u (fun i hi => hj i (List.mem_cons_of_mem _ hi)) e y z
   exact fin.mono fun b => by have := l b; have := l2 b; (try dsimp only); omega
def ZjJ {N : Bud} {A : Addr} {o : HO} (hA0 : H0 A = none) (hA : Hs A = none) (g : Good H Hs (fun b => one A b + N b)) (st : Stp H0 Hs0 M0 H Hs (fun b => one A b + N b)) : Good (upd H A o) Hs (fun b => one A b + N b) /\ Stp H0 Hs0 M0 (upd H A o) Hs (fun b => one A b + N b) /\ ∀ b, N b ≥ 1 -> upd H A o b = H b := by
 have hn : N A = 0 := by have : one A A + N A <= 1 := g.le A; simp [one] at this; omega
 have ne : ∀ b, b ≠ A -> upd H A o b = H b := fun b hb => Zk hb
 refine ⟨⟨fun b u e => ?_, g.le, g.ne, fun b h => ?_⟩, ⟨fun b u e z => ?_, st.own, st.grow, st.shr, fun b h => ?_⟩, fun b hb => ne b fun q => by subst q; omega⟩
 . have hb : b ≠ A := fun q => by subst q; rw [hA] at e; cases e
   rw [ne b hb]
   exact g.sub b u e
 . by_cases hb : b = A
   . subst hb; rw [Zl]; simp
   . rw [ne b hb]; exact g.has b h
 . have hb : b ≠ A := fun q => by subst q; rw [hA0] at e; cases e
   rw [ne b hb]
   exact st.keep b u e z
 . by_cases hb : b = A
   . subst hb; rw [Zl]; simp
   . rw [ne b hb]; exact st.stay b h
theorem Zhq
 (h : tM K (cs.bnd fun ps => (Zw ps).bnd fun h => (lift (itW ik h.1)).bnd fun items => (Za3 k js (Zai (asgT (fun i => decide (k <= i)) tgt) cc celt items [])).bnd fun d => (Z8 h.2).bnd fun _ => M.ret d) σ H Q) :
 Zf0 k js (tI K ik cs) (gT K tgt) (tT K cc) (tM K celt) σ H Q := by
 obtain ⟨δ, Hs, M, d, δ', g, s, ea, q⟩ := h
 obtain ⟨ps, δ1, e1, eb⟩ := Zb ea
 obtain ⟨hh, δ2, e2, ec⟩ := Zb eb
 obtain ⟨items, δ3, e3, ed⟩ := Zb ec
 obtain ⟨e3', rfl⟩ := ZE e3
 obtain ⟨dd, δ4, e4, ee⟩ := Zb ed
 obtain ⟨u, δ5, e5, e6⟩ := Zb ee
 have := Zg e6
 cases this
 have e12 : (cs.bnd Zw) δ = .ok (hh, δ3) := by
  show T.M.bnd cs Zw δ = _
  unfold T.M.bnd
  rw [e1]
  exact e2
 refine ⟨δ, Hs, M, hh, items, δ3, g, s, e12, e3', fun J Pp H1 Hs1 B M1 g1 st1 s1 held wk pp A hA => ?_⟩
 unfold Za3 at e4
 obtain ⟨caps, δ6, e7, e8⟩ := Zb e4
 obtain ⟨mc, M2, c1, c2, c3, c4⟩ := Zeo e7 s1
 have hA0 : H A = none := by
  cases q : H A with
  | none => rfl
  | some o => exact absurd hA (st1.stay A (by rw [q]; simp))
 cases hL : Zai (asgT (fun i => decide (k <= i)) tgt) cc celt items [] (List.replicate k .hole ++ caps) with
 | exc x y => rw [hL] at e8; cases e8
 | stuck => rw [hL] at e8; cases e8
 | ok r =>
 obtain ⟨accF, δF⟩ := r
 rw [hL] at e8
 obtain ⟨u2, δ7, e9, e10⟩ := Zb e8
 obtain ⟨e11, rfl⟩ := ZE e10
 have hs1A : Hs1 A = none := by
  cases q : Hs1 A with
  | none => rfl
  | some o => rw [g1.sub A o q] at hA; cases hA
 have zA : B A = 0 /\ M1 A = 0 := by
  have l : B A + M1 A <= 1 := g1.le A
  have : B A + M1 A ≠ 1 := fun e => g1.has A e hA
  omega
 have z2 : mc A = 0 /\ M2 A = 0 := by have := c3 A; omega
 have fr : ∀ b, b ≠ A -> upd H1 A (.lst []) b = H1 b := fun b hb => Zk hb
 have g2 : Good (upd H1 A (.lst [])) Hs1 (fun b => (one A b + (B b + M2 b)) + mc b) := by
  refine ⟨fun b o e => ?_, fun b => ?_, fun b hb => ?_, fun b hb => ?_⟩
  . have hb : b ≠ A := fun q => by subst q; rw [hs1A] at e; cases e
    rw [fr b hb]; exact g1.sub b o e
  . have l : B b + M1 b <= 1 := g1.le b
    have := c3 b
    unfold one
    (try dsimp only)
    split
    . rename_i e; subst e; omega
    . omega
  . by_cases e : b = A
    . subst e; exact hs1A
    . have hb : (one A b + (B b + M2 b)) + mc b = 1 := hb
      simp only [one, if_neg e] at hb
      have l : B b + M1 b <= 1 := g1.le b
      have := c3 b
      exact g1.ne b (by show B b + M1 b = 1; omega)
  . by_cases e : b = A
    . subst e; rw [Zl]; simp
    . rw [fr b e]
      have hb : (one A b + (B b + M2 b)) + mc b = 1 := hb
      simp only [one, if_neg e] at hb
      have l : B b + M1 b <= 1 := g1.le b
      have := c3 b
      exact g1.has b (by show B b + M1 b = 1; omega)
 have st2 : Stp H Hs M (upd H1 A (.lst [])) Hs1 (fun b => (one A b + (B b + M2 b)) + mc b) := by
  refine ⟨fun b o e z => ?_, fun b hb => ?_, st1.grow, st1.shr, fun b hb => ?_⟩
  . have hb : b ≠ A := fun q => by subst q; rw [hA0] at e; cases e
    rw [fr b hb]; exact st1.keep b o e z
  . by_cases e : b = A
    . subst e; exact .inr hA0
    . have hb : (one A b + (B b + M2 b)) + mc b = 1 := hb
      simp only [one, if_neg e] at hb
      have l : B b + M1 b <= 1 := g1.le b
      have := c3 b
      exact st1.own b (by show B b + M1 b = 1; omega)
  . by_cases e : b = A
    . subst e; rw [Zl]; simp
    . rw [fr b e]; exact st1.stay b hb
 have keepA : ∀ (N : Bud), N A = 0 -> ∀ b, N b ≥ 1 -> H1 b ≠ none -> upd H1 A (.lst []) b = H1 b := fun N hN b hb _ => fr b fun q => by subst q; omega
 refine ⟨fun i m σ2 ys H2 => m = items.length - i /\ i <= items.length /\ Keeps (fun i => decide (k <= i)) (ZaL k js σ) σ2 /\ ∃ (δ2 : List D) (Hs2 : Hp) (N ma : Bud) (acc : List D), Good H2 Hs2 (fun b => (one A b + (B b + M2 b + ma b)) + N b) /\ Stp H Hs M H2 Hs2 (fun b => (one A b + (B b + M2 b + ma b)) + N b) /\ RepS K H2 Hs2 σ2 δ2 N /\
  RepL K H2 Hs2 ys acc ma /\ RepS K H2 Hs2 σ δ6 M2 /\ Held K H2 Hs2 σ hh.2 B /\ Pp H2 Hs2 /\ Zai (asgT (fun i => decide (k <= i)) tgt) cc celt (items.drop i) acc δ2 = .ok (accF, δF),
  ⟨items.length, by simp, Nat.zero_le _, Keeps.refl _ _, List.replicate k .hole ++ caps, Hs1, mc, fun _ => 0, [], g2.re fun b => by (try dsimp only); omega, st2.drop (fun b => by (try dsimp only); omega) g2.le, ?_, .nil _, c2.frame (Same.refl _) (keepA M2 z2.2), held.frame (Same.refl _) (keepA B zA.1), wk.stay pp (Same.refl _) (keepA B zA.1), by rw [List.drop_zero]; exact hL⟩, ?_⟩
 . have z := Sep.append (holes (K := K) (H := H1) (Hs := Hs1) (fun _ => none) k (fun _ => 0) (List.replicate k none) (by simp)) c1
   exact RepS.frame (Same.refl _) (keepA mc z2.1) (z.mono fun b => by simp)
 rintro i m σ2 ys H2 ⟨rfl, hle, k2, δ2, Hs2, N, ma, acc, g3, st3, s3, ra, so, held2, pp2, e13⟩ hD
 have hsA : Hs2 A = none := g3.ne A (by have := g3.le A; (try dsimp only at this ⊢); simp only [one, if_pos] at this ⊢; omega)
 by_cases hlt : i < items.length
 . right
   have hd : items[i]? = some (items[i]'(by omega)) := List.getElem?_eq_getElem (by omega)
   have hdrop : items.drop i = items[i]'(by omega) :: items.drop (i + 1) := List.drop_eq_getElem_cons (by omega)
   rw [hdrop] at e13
   obtain ⟨u3, δ8, e14, e15⟩ := Zb e13
   obtain ⟨t, δ9, e16, e17⟩ := Zb e15
   refine ⟨wk.go g3.sub pp2 hlt, fun x H' y => ?_⟩
   obtain ⟨Hs3, gr, rv⟩ := wk.yld g3.sub pp2 hd y
   obtain ⟨sm, fr, _⟩ := gr.same g3.sub
   have pp2 := wk.stay pp2 sm fun b _ n => fr b n
   have s3 := RepS.frame sm (fun b _ n => fr b n) s3
   have so := RepS.frame sm (fun b _ n => fr b n) so
   have ra := ra.frame sm fun b _ n => fr b n
   have held2 := held2.frame sm fun b _ n => fr b n
   have hD : H' A = some (.lst ys) := (fr A (by rw [hD]; simp)).trans hD
   have st3 := gr.stp g3 st3
   have g3 := gr.good g3
   clear gr sm fr y hsA
   generalize Hs3 = Hs2 at *
   generalize H' = H2 at *
   refine ZeK (Hs := Hs2) g3.sub e14 rv s3 fun σ3 k3 s4 => ?_
   refine ⟨δ8, Hs2, N, t, δ9, g3.re fun b => by (try dsimp only); omega, s4, e16, fun H4 Hs4 M4 g4 st4 s5 => ?_⟩
   obtain ⟨G, S, kk⟩ := Zq (m1 := fun b => one A b + (B b + M2 b + ma b)) g g3 st3 g4 st4
   have kA : H4 A = some (.lst ys) := by rw [<- hD]; exact kk A (by simp [one]) (by rw [hD]; simp)
   have ra4 := ra.frame st4.grow fun b hb => kk b (by (try dsimp only); omega)
   have so4 := RepS.frame st4.grow (fun b hb => kk b (by (try dsimp only); omega)) so
   have held4 := held2.frame st4.grow fun b hb => kk b (by (try dsimp only); omega)
   have pp4 := wk.stay pp2 st4.grow fun b hb => kk b (by (try dsimp only); omega)
   have lmeas : items.length - (i + 1) < items.length - i := by omega
   cases t with
   | false =>
    dsimp only
    rw [if_neg Bool.false_ne_true]
    exact ⟨kA, _, lmeas, rfl, hlt, k2.trans k3, δ9, Hs4, M4, ma, acc, G, S, s5, ra4, so4, held4, pp4, e17⟩
   | true =>
    dsimp only
    rw [if_pos rfl]
    rw [if_pos rfl] at e17
    obtain ⟨xd, δ10, e18, e19⟩ := Zb e17
    refine ⟨δ9, Hs4, M4, xd, δ10, g4, s5, e18, fun yv H5 Hs5 m5 M5 g5 st5 r5 s6 => ?_⟩
    obtain ⟨G5, S5, kk5⟩ := Zq (m1 := fun b => one A b + (B b + M2 b + ma b)) g G S g5 st5
    have kA5 : H5 A = some (.lst ys) := by rw [<- kA]; exact kk5 A (by simp [one]) (by rw [kA]; simp)
    have hsz : ys.length < sizeLine := by
     have e20 : accF.length <= sizeLine := by
      unfold newL at e11
      split at e11
      . rename_i hz; exact hz
      . cases e11
     have grow : ∀ (its acc : List D) (δ : List D) (r : List D × List D), Zai (asgT (fun i => decide (k <= i)) tgt) cc celt its acc δ = .ok r -> acc.length <= r.1.length := by
      intro its
      induction its with
      | nil => intro acc δ r e; have := Zg e; subst this; exact Nat.le_refl _
      | cons a its ih =>
       intro acc δ r e
       obtain ⟨_, _, _, f1⟩ := Zb e
       obtain ⟨tt, _, _, f2⟩ := Zb f1
       cases tt with
       | false => exact ih _ _ _ f2
       | true =>
        rw [if_pos rfl] at f2
        obtain ⟨_, _, _, f3⟩ := Zb f2
        have := ih _ _ _ f3
        rw [List.length_append, List.length_singleton] at this
        omega
     have := grow _ _ _ _ e19
     dsimp only at this
     rw [List.length_append, List.length_singleton] at this
     have := ra.len
     omega
    have hsA5 : Hs5 A = none := G5.ne A (by have := G5.le A; (try dsimp only at this ⊢); simp only [one, if_pos] at this ⊢; omega)
    have G5' : Good H5 Hs5 (fun b => one A b + (B b + M2 b + ma b + (m5 b + M5 b))) := G5.re fun b => by (try dsimp only); omega
    obtain ⟨G6, S6, k6⟩ := ZjJ (o := .lst (ys ++ [yv])) hA0 hsA5 G5' (S5.drop (fun b => by (try dsimp only); omega) G5.le)
    have fr6 : ∀ (R : Bud), (∀ b, R b <= B b + M2 b + ma b + (m5 b + M5 b)) -> ∀ b, R b ≥ 1 -> H5 b ≠ none -> upd H5 A (.lst (ys ++ [yv])) b = H5 b := fun R hR b hb _ => k6 b (by have := hR b; omega)
    refine ⟨kA5, hsz, _, lmeas, rfl, hlt, k2.trans k3, δ10, Hs5, M5, fun b => ma b + m5 b, acc ++ [xd], G6.re fun b => by (try dsimp only); omega, S6.drop (fun b => by (try dsimp only); omega) G6.le, RepS.frame (Same.refl _) (fr6 M5 fun b => by omega) s6, ?_, ?_, ?_, ?_, e19⟩
    . exact RepL.frame (Same.refl _) (fr6 _ fun b => by (try dsimp only); omega) ((ra4.frame st5.grow fun b hb => kk5 b (by (try dsimp only); omega)).app (.cons r5 (.nil (fun _ => 0)) fun b => by simp))
    . exact RepS.frame (Same.refl _) (fr6 M2 fun b => by omega) (RepS.frame st5.grow (fun b hb => kk5 b (by (try dsimp only); omega)) so4)
    . exact (held4.frame st5.grow fun b hb => kk5 b (by (try dsimp only); omega)).frame (Same.refl _) (fr6 B fun b => by omega)
    . exact wk.stay (wk.stay pp4 st5.grow fun b hb => kk5 b (by (try dsimp only); omega)) (Same.refl _) (fr6 B fun b => by omega)
 . left
   have e0 : items.drop i = [] := List.drop_of_length_le (by omega)
   rw [e0] at e13
   have := Zg e13
   cases this
   refine ⟨wk.stop g3.sub pp2 (by omega), ?_⟩
   have hdrop : σ2.drop k = Zba js σ := by
    have hl2 : σ2.length = δF.length := s3.length
    apply List.ext_getElem?
    intro j
    rw [List.getElem?_drop, k2 (k + j) (by simp)]
    unfold ZaL
    rw [List.getElem?_append_right (by simp)]
    simp
   have sd := s3.drop k
   rw [hdrop] at sd
   have so' := Zid js _ _ _ _ _ _ c4 e9 sd so
   unfold newL at e11
   split at e11
   . cases e11
     have rD : Rep K H2 Hs2 (.ref A) (.node .lst true accF) (fun b => one A b + ma b) := .own hD ra fun b => Nat.le_refl _
     exact q _ H2 Hs2 (fun b => one A b + ma b) (fun b => B b + (N b + M2 b)) (g3.re fun b => by (try dsimp only); omega) (st3.drop (fun b => by (try dsimp only); omega) g3.le) rD (Za7 e5 held2 so')
   . cases e11
section
def PIf.imp (h : PIf X ifs t) (w : ∀ σ H Q, t' σ H Q -> t σ H Q) : PIf X ifs t' := fun pins s σ H Q I q => h pins s σ H Q I (w σ H Q q)
def Zep : PIf X [] (tT X.K (M.ret true)) := PIf.imp Zl1 fun σ H Q h => ZfM h
def ZeL (hc : X.calm = true) (S : CompScope X k js N' scope) (hi : PI X tg iter (tI X.K ik cs))
 (hin : ∀ (cl : List (Str × Addr)) (C : Addr) (s₀ : Shared) (H₀ : Hp) (ex : List Addr), PG (cxC X N' scope cl C s₀ H₀ ex) tg (gT X.K tgt) /\ PIf (cxC X N' scope cl C s₀ H₀ ex) ifs (tT X.K cc) /\ PE (cxC X N' scope cl C s₀ H₀ ex) elt (tM X.K celt))
 (hs : ∀ x, foldedSetIterable iter X.env x = pure x := by intro _; rfl) :
 PE X (.ListComp elt [⟨tg, iter, ifs, 0⟩] scope pos) (tM X.K (cs.bnd fun ps => (Zw ps).bnd fun h => (lift (itW ik h.1)).bnd fun items => (Za3 k js (Zai (asgT (fun i => decide (k <= i)) tgt) cc celt items [])).bnd fun d => (Z8 h.2).bnd fun _ => M.ret d)) :=
 PE.imp (Zl2 hc S hi hin hs) fun σ H Q h => Zhq h
def ZlG (h : Zv sc N i x false = true) (nd : N.Nodup) (hw : Zdf sc scope x = true) (hc : X.calm = true) (S : CompScope X k js N' scope) (hi : PI X tg iter (tI X.K ik cs))
 (hin : ∀ (cl : List (Str × Addr)) (C : Addr) (s₀ : Shared) (H₀ : Hp) (ex : List Addr), PG (cxC X N' scope cl C s₀ H₀ ex) tg (gT X.K tgt) /\ PIf (cxC X N' scope cl C s₀ H₀ ex) ifs (tT X.K cc) /\ PE (cxC X N' scope cl C s₀ H₀ ex) elt (tM X.K celt))
 (hl : (pos'.line == pos.line) = true := by rfl) (e1 : X.env.scope = sc := by rfl) (e2 : X.N = N := by rfl) (hs : ∀ x, foldedSetIterable iter X.env x = pure x := by intro _; rfl) :
 PS X (.Assign [.Name x pos'] (.ListComp elt [⟨tg, iter, ifs, 0⟩] scope pos) spos) (tS X.K lk ((cs.bnd fun ps => (Zw ps).bnd fun h => (lift (itW ik h.1)).bnd fun items => (Za3 k js (Zai (asgT (fun i => decide (k <= i)) tgt) cc celt items [])).bnd fun d => (Z8 h.2).bnd fun _ => M.ret d).bnd fun d => (asgN lk i d).bnd fun _ => M.ret .nx)) :=
 PS.imp (ZjF h nd hw hc S hi hin hl e1 e2 hs) fun E σ H hh => by
 obtain ⟨δ, Hs, M, f, δ', g, s, e, q⟩ := hh
 obtain ⟨d, δ1, e1, e2⟩ := Zb e
 obtain ⟨u, δ2, e3, e4⟩ := Zb e2
 have := Zg e4
 cases this
 obtain ⟨h1, h2, rfl⟩ := Zc4 e3
 exact Zhq ⟨δ, Hs, M, d, δ1, g, s, e1, fun v H' Hs' m M' g' st' r s' => q _ H' Hs' _ (Za6 h2) g' st' (ZaT s' h1 r)⟩
def ZlH (h : Zv sc N i x b = true) (nd : N.Nodup) (he : PE X e (tM X.K c)) (hs : swapsWith e (some (.Name x pos')) pos.line X.env = pure false := by rfl) (e1 : X.env.scope = sc := by rfl) (e2 : X.N = N := by rfl)
 (hf : X.fn x = true \/ b = false := by first | exact .inl rfl | exact .inr rfl) : PS X (.Assign [.Name x pos'] e pos) (tS X.K lk (c.bnd fun d => (asgN lk i d).bnd fun _ => M.ret .nx)) := by
 obtain ⟨h1, h2, h3, h4⟩ := Zv.at h
 have l := Zv.loc h
 subst e1 e2
 refine ZnC nd h1 l he hs ?_
 rcases hf with q | q
 . exact .inl q
 . subst q
   exact .inr h2
def Zqd (h : Zv sc N i x b = true) (nd : N.Nodup) (hr : PGs X es (gNs is)) (e1 : X.env.scope = sc := by rfl) (e2 : X.N = N := by rfl) (hf : X.fn x = true \/ b = false := by first | exact .inl rfl | exact .inr rfl)
 (hs : (assignEach (.Name x pos :: es) X.env).map (·.2) = assign (.Name x pos) X.env :: (assignEach es X.env).map (·.2) := by rfl) : PGs X (.Name x pos :: es) (gNs (i :: is)) := by
 obtain ⟨h1, h2, h3, h4⟩ := Zv.at h
 have l := Zv.loc h
 subst e1 e2
 refine ok_g nd h1 l hr ?_ hs
 rcases hf with q | q
 . exact .inl q
 . subst q
   exact .inr h2
def Zqe (h : Zv sc N i x b = true) (nd : N.Nodup) (e1 : X.env.scope = sc := by rfl) (e2 : X.N = N := by rfl) (hf : X.fn x = true \/ b = false := by first | exact .inl rfl | exact .inr rfl) : PG X (.Name x pos) (gT X.K (.name i)) := ZjE h nd e1 e2 hf
end
def ZbP (ca : M Op) (lk : Nat -> Bool) : Prop := ∀ δ p δ', ca δ = .ok (p, δ') -> ∀ i, p = .late i -> lk i = true
def Zc7 (h : lk i = true) : ZbP (ZK i) lk := fun δ p δ' e j hj => by
 unfold ZK at e
 split at e <;> cases e <;> cases hj <;> exact h
def ZfX {c : M D} : ZbP (c.bnd fun d => M.ret (.tmp d)) lk := fun δ p δ' e j hj => by
 obtain ⟨d, δ1, e1, e2⟩ := Zb e
 have := Zg e2
 cases this
 cases hj
theorem ZiJ (e : holdV p δ = .ok (w, δ')) : ∀ q ∈ w.2.toList, p = .late q.1 := fun q hq => by
 cases p with
 | tmp d => cases d <;> cases e <;> simp at hq
 | late i =>
  unfold holdV at e
  dsimp only at e
  split at e <;> cases e <;> simp at hq
  subst hq
  rfl
def hw_1 (h : ZbP ca lk) : HWs (ca.bnd fun p => (M.ret ([] : List Op)).bnd fun ps => M.ret (p :: ps)) lk := fun δ w δ' e q hq => by
 obtain ⟨p, δ1, w1, e1, e2, rfl⟩ := Zic e
 exact h _ _ _ e1 _ (ZiJ e2 q hq)
def hw_2 (h1 : ZbP ca lk) (h2 : ZbP cb lk) : HWs (ca.bnd fun p => (cb.bnd fun p => (M.ret ([] : List Op)).bnd fun ps => M.ret (p :: ps)).bnd fun ps => M.ret (p :: ps)) lk := fun δ w δ' e q hq => by
 obtain ⟨ps, δ1, e1, e2⟩ := Zb e
 obtain ⟨p1, δ2, e3, e4⟩ := Zb e1
 obtain ⟨qs, δ3, e5, e6⟩ := Zb e4
 obtain ⟨p2, δ4, e7, e8⟩ := Zb e5
 obtain ⟨z, δ5, e9, e10⟩ := Zb e8
 have := Zg e9
 cases this
 have := Zg e10
 cases this
 have := Zg e6
 cases this
 have := ZdM e2 q hq
 rcases List.mem_cons.mp this with z | z
 . exact h1 _ _ _ e3 _ z.symm
 . exact h2 _ _ _ e7 _ (List.mem_singleton.mp z).symm
section
def Zqf (h : PE X e (tC v)) (hr : ∀ H Hs m, Rep X.K H Hs v d m) : PE X e (tM X.K (M.ret d)) := PE.imp h fun σ H Q z0 => by
 obtain ⟨δ, Hs, M, d', δ', g, r, e, q⟩ := z0
 have := Zg e
 cases this
 exact q v H Hs (fun _ => 0) M (Za4 g) (stp0 H Hs M) (hr H Hs _) r
theorem Zhr (h : View K H Hs x w m) : isNW true w = .sc (.bl (decide (x = .non))) /\ isNW false w = .sc (.bl (!decide (x = .non))) := by
 cases h with
 | sc v m => constructor <;> simp only [isNW] <;> cases decide (x = V.non) <;> rfl
 | nd n r => constructor <;> simp [isNW]
end
noncomputable def ZeM : Expr -> Option V
 | .Constant (.int n) _ _ => some (.int n)
 | .Constant (.str z) _ _ => some (.str z)
 | .Constant (.bool b) _ _ => some (.bl b)
 | .Constant .none _ _ => some .non
 | _ => none
noncomputable def ZbY : List Expr -> Option (List V)
 | [] => some []
 | e :: es => (ZeM e).bind fun v => (ZbY es).map (v :: ·)
def ZjK (h : ZeM e = some v) : PE X e (tC v) /\ ∀ es : List Expr, starEach (e :: es) X.env = (false, eval e X.env) :: starEach es X.env := by
 unfold ZeM at h
 split at h
 . cases h; exact ⟨Zam, fun es => rfl⟩
 . cases h; exact ⟨Z0, fun es => rfl⟩
 . cases h; exact ⟨ZcG, fun es => rfl⟩
 . cases h; exact ⟨Zb3, fun es => rfl⟩
 . cases h
theorem Zfn : ∀ {es : List Expr} {vs : List V}, ZbY es = some vs -> PA X es (fun _ H Q => Q vs H)
 | [], vs, h => by
  simp only [ZbY, Option.some.injEq] at h
  subst h
  exact ZaX
 | e :: es, vs, h => by
  simp only [ZbY, Option.bind_eq_some_iff, Option.map_eq_some_iff] at h
  obtain ⟨v, h1, ws, h2, rfl⟩ := h
  obtain ⟨c1, c2⟩ := ZjK (X := X) h1
  exact Zaf c1 (Zfn h2) (c2 es)
theorem ZdD : ∀ (vs : List V), RepL K H Hs vs (vs.map D.sc) (fun _ => 0)
 | [] => .nil _
 | v :: vs => .cons (m1 := fun _ => 0) (m2 := fun _ => 0) (.sc v _) (ZdD vs) fun b => by simp
def ZkE (h : ZbY es = some vs) : PE X (.List es pos) (tM X.K (lift (newL (vs.map D.sc)))) := PE.imp (Zi0 (Zfn h)) fun σ H Q hq => by
 obtain ⟨δ, Hs, M, d, δ', g, s, e, q⟩ := hq
 obtain ⟨e1, rfl⟩ := ZE e
 unfold newL at e1
 split at e1
 . rename_i hl
   cases e1
   have o : Outs X.K H Hs (fun _ => 0) _ Q := ZbM (B := fun _ => 0) (M := M) (stp0 H Hs M) (Za4 g) s q
   exact ⟨by simpa using hl, fun p hp => o.new (fun b => by simp) (fun b hb => by simp at hb) hp (vs := vs) Zl (ZdD vs)⟩
 . cases e1
def ZN : bootBuiltins "len" = some (.builtin "len") := by decide +kernel
def ZnE : bootBuiltins "all" = some (.builtin "all") := by decide +kernel
def ZnF : bootBuiltins "any" = some (.builtin "any") := by decide +kernel
def ZnG : bootBuiltins "min" = some (.builtin "min") := by decide +kernel
def ZfY : bootBuiltins "str" = some (.type "str") := by decide +kernel
def ZfZ : bootBuiltins "int" = some (.type "int") := by decide +kernel
def ZlI : bootBuiltins "list" = some (.type "list") := by decide +kernel
noncomputable def C0 : Ctx := { lock := fun _ => false, fok := fun _ _ => false, fuel := 0 }
section
variable {o e a : Expr} {es : List Expr} {cpos apos p : Pos} {ca : M Op} {cs : M (List Op)} {i : Nat} {name m x f : Str} {A : Addr} {fi : FI} {n : Nat} {ps : List Str}
def ZkF
 (h : tM K ((ca.bnd view).bnd fun w => (lift (strW w)).bnd fun z => cs.bnd fun ps => (views ps).bnd fun ws => lift (bmW bm z ws)) σ H Q)
 (hr : ∀ (z : Str) (vs : List V) (H1 : Hp), rNW K (bmW bm z) vs H1 Q -> r (.str z) vs H1 Q) : tBM K "str" r (tP K ca) (tPs K cs) σ H Q := by
 obtain ⟨δ, Hs, M, d, δ', g, s, e, q⟩ := h
 obtain ⟨w, δ2, e, e5⟩ := Zb e
 obtain ⟨p, δ1, e1, e3⟩ := Zb e
 obtain ⟨z, δ3, e6, e7⟩ := Zb e5
 obtain ⟨e8, rfl⟩ := ZE e6
 refine ⟨δ, Hs, M, p, δ1, g, s, e1, fun x H2 Hs2 m1 M2 g2 st2 r1 s2 => ?_⟩
 obtain ⟨Hs3, M3, g3, st3, v1, s3⟩ := Zay (B := m1) g2 s2 r1 e3
 have z2 := Zq (m1 := fun _ => 0) g (g2.re fun b => by simp) (st2.drop (fun b => by simp) g2.le) g3 st3
 have S3 : Stp H Hs M H2 Hs3 (fun b => m1 b + M3 b) := z2.2.1.drop (fun b => by simp) z2.1.le
 have hx : x = .str z := by
  cases v1 with
  | sc u _ => cases x with
   | str y => cases e8; rfl
   | _ => cases e8
  | nd n r => cases e8
 subst hx
 refine ⟨rfl, ?_⟩
 have h2 : tM K (cs.bnd fun ps => (views ps).bnd fun ws => lift (bmW bm z ws)) σ H2 Q := ⟨_, Hs3, M3, d, δ', g3.re, s3, e7, fun v H4 Hs4 m4 M4 g4 st4 r4 s4 => by
  obtain ⟨G, S, k⟩ := Zq (m1 := m1) (M1 := M3) g g3 S3 g4 st4
  exact q v H4 Hs4 m4 M4 g4 (S.drop (fun b => by omega) G.le) r4 s4⟩
 obtain ⟨δa, Hsa, Ma, aa, δb, ga, sa, ea, qa⟩ := opN h2
 exact ⟨δa, Hsa, Ma, aa, δb, ga, sa, ea, fun vs H5 Hs5 m5 M5 g5 st5 r5 s5 => hr z vs H5 (qa vs H5 Hs5 m5 M5 g5 st5 r5 s5)⟩
theorem Zga : ∀ {ds : List D} {vs : List V} {m : Bud} {ts : List Str}, RepL K H Hs vs ds m -> Zb6 ds = some ts -> vs = ts.map V.str
 | [], _, _, is, .nil _, h => by simp only [Zb6, Option.some.injEq] at h; subst h; rfl
 | d :: ds, _, _, is, .cons x y _, h => by
  unfold Zb6 at h
  split at h
  . rename_i hh; cases hh
  . rename_i i r hh
    injection hh with h1 h2
    subst h1 h2
    (simp only [Option.map_eq_some_iff] at h)
    obtain ⟨js, h, rfl⟩ := h
    cases x
    rw [Zga y h]
    rfl
  . cases h
def Zgb (ho : PE X o (tP X.K ca)) (ha : PA X [e] (tPs X.K cs))
 (hbase : attributeBase o "split" X.env (eval o X.env) = eval o X.env := by rfl)
 (hfew : ((backTo cpos (starEach [e] X.env)).all (fun x => !x.1) && (backToKw cpos (keywordEach [] X.env)).all (fun x => x.1.isSome)
  && decide ([e].length + ([] : List Keyword).length + (if ([] : List Keyword).isEmpty then 0 else 1) < 30)) = true := by rfl)
 (hline : (apos.endLine == cpos.line) = true := by rfl) (hs : starEach [e] X.env = (false, eval e X.env) :: starEach [] X.env := by rfl) (hplain : (backTo cpos (starEach [] X.env)).any (·.1) = false := by rfl) :
 PE X (.Call (.Attribute o "split" apos) [e] [] cpos) (tM X.K ((ca.bnd view).bnd fun w => (lift (strW w)).bnd fun z => cs.bnd fun ps => (views ps).bnd fun ws => lift (bmW .split z ws))) :=
 PE.imp (ZhI PySem.F.plainAttrs_str PySem.F.slot_str_split PySem.F.type_str_split Zj9 ho ha hbase hfew hline hs hplain) fun σ H Q h => ZkF h fun z vs H1 hq => by
  obtain ⟨Hs, ws, m, d, hs, h1, h2, v, e, o⟩ := hq
  match ws, e with
  | [.sc (.str s)], e =>
   simp only [bmW] at e
   split at e
   . rename_i hc
     cases e
     obtain ⟨y, m1, rfl, v, l⟩ := v.one
     cases v
     have hs1 : ∃ c, s = ⟨#[c]⟩ := by
      cases s with
      | mk cps =>
       cases cps with
       | mk l =>
        have hl : l.length = 1 := by simpa using hc.1
        match l, hl with
        | [c], _ => exact ⟨c, rfl⟩
     obtain ⟨c, rfl⟩ := hs1
     refine ⟨z, c, rfl, rfl, hc.2, fun p hp => ?_⟩
     have rr : RepL X.K H1 Hs ((Txt.split z ⟨#[c]⟩).map V.str) ((Txt.split z ⟨#[c]⟩).map fun x => D.sc (.str x)) m := by
      have := ZdD (K := X.K) (H := H1) (Hs := Hs) ((Txt.split z ⟨#[c]⟩).map V.str)
      rw [List.map_map] at this
      exact this.mono fun b => Nat.zero_le _
     exact o.new h1 h2 hp (vs := (Txt.split z ⟨#[c]⟩).map V.str) Zl rr
   . cases e
def ZeN (ho : PE X o (tP X.K ca)) (ha : PA X [e] (tPs X.K cs))
 (hbase : attributeBase o "join" X.env (eval o X.env) = eval o X.env := by rfl)
 (hfew : ((backTo cpos (starEach [e] X.env)).all (fun x => !x.1) && (backToKw cpos (keywordEach [] X.env)).all (fun x => x.1.isSome)
  && decide ([e].length + ([] : List Keyword).length + (if ([] : List Keyword).isEmpty then 0 else 1) < 30)) = true := by rfl)
 (hline : (apos.endLine == cpos.line) = true := by rfl) (hs : starEach [e] X.env = (false, eval e X.env) :: starEach [] X.env := by rfl) (hplain : (backTo cpos (starEach [] X.env)).any (·.1) = false := by rfl) :
 PE X (.Call (.Attribute o "join" apos) [e] [] cpos) (tM X.K ((ca.bnd view).bnd fun w => (lift (strW w)).bnd fun z => cs.bnd fun ps => (views ps).bnd fun ws => lift (bmW .join z ws))) :=
 PE.imp (ZhI PySem.F.plainAttrs_str PySem.F.slot_str_join PySem.F.type_str_join Zl4 ho ha hbase hfew hline hs hplain) fun σ H Q h => ZkF h fun z vs H1 hq => by
  obtain ⟨Hs, ws, m, d, hs, h1, h2, v, e, o⟩ := hq
  match ws, e with
  | [.nd .lst ds], e =>
   simp only [bmW, Option.bind_eq_some_iff] at e
   obtain ⟨ts, e1, e2⟩ := e
   split at e2
   . rename_i hj
     cases e2
     obtain ⟨y, m1, rfl, v, l⟩ := v.one
     cases v with
     | nd n r =>
      have := Zga r e1
      subst this
      exact ⟨z, _, ts, rfl, rfl, .inl (.inl n), hj, o.sc⟩
   . cases e2
theorem Zhs {K : Fg} {m0 M : Bud} {p : Op} {v : V} {u : Unit} (g : Good H Hs (fun b => m0 b + M b)) (s : RepS K H Hs σ δ M) (r : RepP K H Hs σ v p m0) (h : chkI A m p δ = .ok (u, δ')) :
 δ' = δ /\ ∃ a dx fs, v = .ref a /\ H a = some (.ins A dx fs) /\ fs.lookup m = none := by
 have fin : ∀ {B : Addr} {fs : List Str} {o : Bool} {ds : List D} {m1 : Bud}, Rep K H Hs v (.node (.ins B fs) o ds) m1 -> B = A -> m ∉ fs -> ∃ a dx fs, v = .ref a /\ H a = some (.ins A dx fs) /\ fs.lookup m = none := fun {B fs o ds m1} q hB hm => by
  subst hB
  have nl : ∀ {vs : List V}, fs.length = vs.length -> (fs.zip vs).lookup m = none := fun {vs} hl => by
   rw [List.lookup_eq_none_iff]
   intro p hp
   have := (List.of_mem_zip (a := p.1) (b := p.2) hp).1
   have hne : m ≠ p.1 := fun q => hm (by rw [q]; exact this)
   simpa using hne
  cases q with
  | own n q _ => obtain ⟨hl, dx, e⟩ := n; exact ⟨_, dx, _, rfl, e, nl hl⟩
  | shd n q => obtain ⟨hl, dx, e⟩ := n; exact ⟨_, dx, _, rfl, g.sub _ _ e, nl hl⟩
 cases p with
 | late i =>
  unfold chkI at h
  dsimp only at h
  split at h
  . rename_i B fs oo ds hi
    split at h
    . rename_i hc
      cases h
      obtain ⟨v', m1, m2, e1, q, l, f⟩ := s.slot hi (by simp)
      rw [show σ[i]? = some (some v) from r] at e1
      cases e1
      exact ⟨rfl, fin q hc.1 hc.2⟩
    . cases h
  . cases h
 | tmp d =>
  cases d with
  | sc u => cases h
  | hole => cases h
  | node k oo ds =>
   cases k with
   | ins B fs =>
    unfold chkI at h
    dsimp only at h
    split at h
    . rename_i hc
      cases h
      exact ⟨rfl, fin r hc.1 hc.2⟩
    . cases h
   | _ => cases h
def ZlJ {K : Fg} {Q : VK} {E : XK} (h : tM K (ca.bnd fun p => (chkI A m p).bnd fun _ => cs.bnd fun ps => ZaD fi (p :: ps)) σ H Q) :
 tP K ca σ H fun x H1 => ∃ a dx fs, x = .ref a /\ H1 a = some (.ins A dx fs) /\ fs.lookup m = none /\ tPs K cs σ H1 fun vs H2 => spF K fi.run (x :: vs) H2 Q E := by
 obtain ⟨δ, Hs, M, d, δ', g, s, ea, q⟩ := h
 obtain ⟨p, δ1, e1, eb⟩ := Zb ea
 obtain ⟨u, δ2, e2, ec⟩ := Zb eb
 obtain ⟨ps, δ3, e3, ed⟩ := Zb ec
 refine ⟨δ, Hs, M, p, δ1, g, s, e1, fun x H1 Hs1 m1 M1 g1 st1 r1 s1 => ?_⟩
 obtain ⟨rfl, a, dx, fs, hx, ha, hl⟩ := Zhs g1 s1 r1 e2
 refine ⟨a, dx, fs, hx, ha, hl, δ2, Hs1, M1, ps, δ3, g1.re, s1, e3, fun vs H2 Hs2 m2 M2 g2 st2 r2 s2 => ?_⟩
 obtain ⟨G2, S2, k2⟩ := Zq g g1 st1 g2 st2
 have r1' := RepP.frame st2.grow k2 r1
 exact ZfU (m1 := fun b => m1 b + m2 b) g (G2.re fun b => by (try dsimp only); omega) (S2.drop (fun b => by (try dsimp only); omega) G2.le) (show ZaF K H2 Hs2 σ (x :: vs) (p :: ps) (fun b => m1 b + m2 b) from ⟨m1, m2, r1', r2, fun b => Nat.le_refl _⟩) s2 ed q
def ZlK {pl : Sem Bool} (G : MeAt X.prog X.w X.K X.mg X.base A m j ps (spF X.K fi.run)) (hr : Room n X.A) (ho : PE X o (tP X.K ca)) (ha : PA X (e :: es) (tPs X.K cs)) (hj : j <= n := by decide)
 (hst : SE X e es := by rfl) (hpl : SFx X pos es := by rfl)
 (ht : eval (.Call (.Attribute o m apos) (e :: es) [] pos) X.env = (do
  let ov <- eval o X.env
  standAt apos.atName
  let (f, first) <- holding [ov] (getMethod ov m pl)
  callWith pos f first (backTo pos (starEach (e :: es) X.env)) (backToKw pos (keywordEach [] X.env))) := by rfl) :
 PE X (.Call (.Attribute o m apos) (e :: es) [] pos) (tM X.K (ca.bnd fun p => (chkI A m p).bnd fun _ => cs.bnd fun ps => ZaD fi (p :: ps))) := PE.imp (Zp1 G hr ho ha hj hst hpl ht) fun σ H Q h => by
 refine tG.mono (ZlJ (E := E0) h) fun x H1 ⟨a, dx, fs, hx, hh, hl, z⟩ => ⟨a, dx, fs, hx, hh, hl, ?_⟩
 obtain ⟨δ, Hs, M, aa, δ', g, s, e, q⟩ := z
 refine ⟨δ, Hs, M, aa, δ', g, s, e, fun vs H' Hs' m M' g' st r s' => ?_⟩
 show spF X.K fi.run (x :: (vs ++ [])) H' Q E0
 rw [List.append_nil]
 exact q vs H' Hs' m M' g' st r s'
theorem ZnH {K : Fg} {Q : VK} {E : XK} (h : tM K (cs.bnd fun ps => newF A fi ps) σ H Q) :
 tPs K cs σ H fun vs H1 => ∀ x dx, H1 x = none -> H1 dx = none -> dx ≠ x -> spF K fi.run (.ref x :: vs) (upd (upd H1 dx (.own x)) x (.ins A dx [])) (fun v H2 => v = .non /\ Q (.ref x) H2) E := by
 obtain ⟨δ, Hs, M, d, δ', g, s, e, q⟩ := h
 obtain ⟨ps, δ1, e1, e⟩ := Zb e
 refine ⟨δ, Hs, M, ps, δ1, g, s, e1, fun vs H1 Hs1 m1 M1 g1 st1 r1 s1 x dx hx hdx hne => ?_⟩
 unfold newF at e
 obtain ⟨ds, δ2, e2, e⟩ := Zb e
 cases hF : fi.run (.node (.ins A []) true [] :: ds) with
 | exc x y => rw [hF] at e; cases e
 | stuck => rw [hF] at e; cases e
 | ok r =>
  obtain ⟨d', ds'⟩ := r
  rw [hF] at e
  match d', ds', e, hF with
  | .sc .non, dI :: ds', e, hF =>
   dsimp only at e
   obtain ⟨u, δ3, e3, e⟩ := Zb e
   have := Zg e
   cases this
   obtain ⟨Hs2, m2, M2, g2, st2, q2, s2⟩ := ZbV (B := fun _ => 0) (g1.re fun b => by simp) s1 r1 e2
   have z0 := Zq (m1 := fun _ => 0) g (g1.re fun b => by simp) (st1.drop (fun b => by simp) g1.le) (g2.re fun b => by simp) (M1 := fun b => m1 b + M1 b) (M2 := fun b => m2 b + M2 b) (by
    have := st2
    exact ⟨fun b o h z => this.keep b o h (by simpa using z), fun b h => by have := this.own b (by simpa using h); simpa using this, this.grow, fun b h h' => by have := this.shr b h h'; simpa using this, this.stay⟩)
   have G2 : Good H1 Hs2 (fun b => M2 b + m2 b) := g2.re fun b => by simp; omega
   have S2 : Stp H Hs M H1 Hs2 (fun b => M2 b + m2 b) := z0.2.1.drop (fun b => by simp; omega) z0.1.le
   have hsx : Hs2 x = none := by
    cases w : Hs2 x with
    | none => rfl
    | some o => rw [G2.sub x o w] at hx; cases hx
   have hsd : Hs2 dx = none := by
    cases w : Hs2 dx with
    | none => rfl
    | some o => rw [G2.sub dx o w] at hdx; cases hdx
   have zz : ∀ b, H1 b = none -> M2 b = 0 /\ m2 b = 0 := fun b hb => by
    have l : M2 b + m2 b <= 1 := G2.le b
    have : M2 b + m2 b ≠ 1 := fun e => G2.has b e hb
    omega
   have nw : ∀ b, b ≠ x -> b ≠ dx -> upd (upd H1 dx (.own x)) x (.ins A dx []) b = H1 b := fun b h1 h2 => by rw [Zk h1, Zk h2]
   have atx : upd (upd H1 dx (.own x)) x (.ins A dx []) x = some (.ins A dx []) := Zl
   have atd : upd (upd H1 dx (.own x)) x (.ins A dx []) dx = some (.own x) := by rw [Zk hne]; exact Zl
   have old : ∀ b, H1 b ≠ none -> b ≠ x /\ b ≠ dx := fun b hb => ⟨fun e => hb (by rw [e]; exact hx), fun e => hb (by rw [e]; exact hdx)⟩
   have same : Same H1 (upd (upd H1 dx (.own x)) x (.ins A dx [])) := fun b o e => by
    obtain ⟨h1, h2⟩ := old b (by rw [e]; simp)
    rw [nw b h1 h2]; exact e
   have G3 : Good (upd (upd H1 dx (.own x)) x (.ins A dx [])) Hs2 (fun b => M2 b + (one x b + m2 b)) := by
    refine ⟨fun b o e => same b o (G2.sub b o e), fun b => ?_, fun b hb => ?_, fun b hb => ?_⟩
    . have l : M2 b + m2 b <= 1 := G2.le b
      unfold one
      (try dsimp only)
      split
      . rename_i e; subst e; have := zz b hx; omega
      . omega
    . by_cases e : b = x
      . subst e; exact hsx
      . have hb : M2 b + (one x b + m2 b) = 1 := hb
        simp only [one, if_neg e] at hb
        exact G2.ne b (by show M2 b + m2 b = 1; omega)
    . by_cases e : b = x
      . subst e; rw [atx]; simp
      . have hb : M2 b + (one x b + m2 b) = 1 := hb
        simp only [one, if_neg e] at hb
        have := G2.has b (by show M2 b + m2 b = 1; omega)
        obtain ⟨h1, h2⟩ := old b this
        rw [nw b h1 h2]; exact this
   have S3 : Stp H Hs M (upd (upd H1 dx (.own x)) x (.ins A dx [])) Hs2 (fun b => M2 b + (one x b + m2 b)) := by
    refine ⟨fun b o e z => same b o (S2.keep b o e z), fun b hb => ?_, S2.grow, S2.shr, fun b hb => ?_⟩
    . by_cases e : b = x
      . subst e
        right
        cases w : H b with
        | none => rfl
        | some o => exact absurd hx (S2.stay b (by rw [w]; simp))
      . have hb : M2 b + (one x b + m2 b) = 1 := hb
        simp only [one, if_neg e] at hb
        exact S2.own b (by show M2 b + m2 b = 1; omega)
    . have := S2.stay b hb
      obtain ⟨h1, h2⟩ := old b this
      rw [nw b h1 h2]; exact this
   have fr : ∀ b, H1 b ≠ none -> upd (upd H1 dx (.own x)) x (.ins A dx []) b = H1 b := fun b hb => nw b (old b hb).1 (old b hb).2
   have q3 : RepL K (upd (upd H1 dx (.own x)) x (.ins A dx [])) Hs2 vs ds m2 := q2.frame (Same.refl _) fun b _ hb => fr b hb
   have s3 : RepS K (upd (upd H1 dx (.own x)) x (.ins A dx [])) Hs2 σ δ2 M2 := RepS.frame (Same.refl _) (fun b _ hb => fr b hb) s2
   have rx : Rep K (upd (upd H1 dx (.own x)) x (.ins A dx [])) Hs2 (.ref x) (.node (.ins A []) true []) (one x) := .own (vs := []) (m' := fun _ => 0) ⟨rfl, dx, atx⟩ (.nil _) fun b => by simp
   refine ⟨_, Hs2, fun b => one x b + m2 b, _, _, G3.re fun b => by (try dsimp only); omega, .cons rx q3 fun b => Nat.le_refl _, hF, fun v H4 Hs4 n1 n2 g4 st4 r4 rl4 => ?_⟩
   cases r4
   refine ⟨rfl, ?_⟩
   cases rl4 with
   | @cons _ _ _ _ k1 k2 _ ra rb lk =>
    obtain ⟨G, S, k⟩ := Zq g G3 S3 g4 st4
    have s4 := RepS.frame st4.grow k s3
    have fin := Zbs s4 rb (lates r1) e3
    exact q _ H4 Hs4 k1 (fun b => k2 b + M2 b) (G.re fun b => by have := lk b; (try dsimp only); omega) (S.drop (fun b => by have := lk b; (try dsimp only); omega) G.le) ra fin
def ZnI (G : MkAt X.prog X.w X.K X.mg X.base x A j ps (spF X.K fi.run)) (hr : Room n X.A) (ha : PA X (e :: es) (tPs X.K cs)) (hj : j + 1 <= n := by decide) (hz : glOk X.env.scope x = true := by kernel_rfl) (he : SE X e es := by rfl) (hpl : SFx X pos es := by rfl) :
 PE X (.Call (.Name x p) (e :: es) [] pos) (tM X.K (cs.bnd fun ps => newF A fi ps)) := PE.imp (Zp2 G hr ha hj (glk hz) (dbk hz) he hpl) fun σ H Q h => by
 obtain ⟨δ, Hs, M, aa, δ', g, s, e, q⟩ := ZnH (E := E0) h
 refine ⟨δ, Hs, M, aa, δ', g, s, e, fun vs H' Hs' m M' g' st r s' x dx h1 h2 h3 => ?_⟩
 show spF X.K fi.run (.ref x :: (vs ++ [])) _ _ E0
 rw [List.append_nil]
 exact q vs H' Hs' m M' g' st r s' x dx h1 h2 h3
theorem ZdZ (f : Str) (v : V) : ∀ (fs : List Str) (vs : List V), fs.length = vs.length -> putF f v (fs.zip vs) = (putN f fs).zip (putV f v fs vs) /\ (putN f fs).length = (putV f v fs vs).length
 | [], [], _ => ⟨rfl, rfl⟩
 | g :: fs, x :: vs, h => by
  obtain ⟨i1, i2⟩ := ZdZ f v fs vs (by simpa using h)
  rw [List.zip_cons_cons]
  show (if g = f then (g, v) :: fs.zip vs else (g, x) :: putF f v (fs.zip vs)) = _ /\ _
  simp only [putN, putV]
  split
  . exact ⟨rfl, by simpa using h⟩
  . rw [i1]
    exact ⟨rfl, by rw [List.length_cons, List.length_cons, i2]⟩
 | [], _ :: _, h => by simp at h
 | _ :: _, [], h => by simp at h
theorem RepL.putV (f : Str) (x : Rep K H Hs v d m1) : ∀ {fs : List Str} {vs : List V} {ds : List D} {m : Bud}, fs.length = vs.length -> RepL K H Hs vs ds m -> RepL K H Hs (T.putV f v fs vs) (T.putV f d fs ds) (fun b => m b + m1 b)
 | [], _, _, m, h, .nil _ => .cons x (.nil (fun _ => 0)) fun b => by (try dsimp only); omega
 | [], _, _, m, h, .cons _ _ _ => by simp at h
 | _ :: _, _, _, m, h, .nil _ => by simp at h
 | g :: fs, _, _, m, h, .cons (m1 := a1) (m2 := a2) y z l => by
  simp only [T.putV]
  split
  . exact .cons x z fun b => by have := l b; (try dsimp only); omega
  . exact .cons y (RepL.putV f x (by simpa using h) z) fun b => by have := l b; (try dsimp only); omega
def ZeO (hf : ∀ C f, ok C f = true -> Cls X.K C /\ ZJ X.K C f) (ho : PE X o (tVar i)) (hv : PE X value (tM X.K c)) (hs : swapsWith value (some (.Attribute o f pos')) pos.line X.env = pure false := by rfl) :
 PS X (.Assign [.Attribute o f pos'] value pos) (tS X.K lk (c.bnd fun d => (ZK i).bnd fun _ => (modS i (putD ok f d)).bnd fun _ => M.ret .nx)) := PS.imp (Znd ho hv hs) fun E σ H h => by
 obtain ⟨δ, Hs, M, fl, δ', g, s, ea, q⟩ := h
 obtain ⟨d, δ1, e1, eb⟩ := Zb ea
 obtain ⟨p0, δ2, e2, ec⟩ := Zb eb
 obtain ⟨r0, δ3, e3, ed⟩ := Zb ec
 have := Zg ed
 cases this
 obtain ⟨kk, ds0, k', ds', hi, hff, rfl⟩ := ZdC e3
 refine ⟨δ, Hs, M, d, δ1, g, s, e1, fun v H1 Hs1 m1 M1 g1 st1 r1 s1 => ?_⟩
 obtain ⟨rfl, vo, hvo⟩ := ZeJ s1 e2
 obtain ⟨p1, us, m', n2, e8, nn, rl, le, fin⟩ := modL g1 s1 hi
 rw [hvo] at e8
 cases e8
 refine ⟨_, hvo, ?_⟩
 unfold putD at hff
 split at hff
 . rename_i ds C fs
   split at hff
   . rename_i hc
     cases hff
     obtain ⟨hl, dx, hH⟩ := nn
     obtain ⟨z1, z2⟩ := ZdZ f v fs us hl
     obtain ⟨G, S, R, SS⟩ := fin (.ins C dx (putF f v (fs.zip us))) (.ins C (putN f fs)) (T.putV f v fs us) (T.putV f d fs ds0) (fun b => m' b + m1 b) (fun _ => 0) .non (.sc .non) (fun b => by (try dsimp only); omega) ⟨z2, dx, by rw [Zl, z1]⟩ (rl.putV f r1 hl) (.sc _ _)
     have z := Zq (m1 := fun _ => 0) g (g1.re fun b => by simp) (st1.drop (fun b => by simp) g1.le) G S
     refine ⟨p1, C, dx, fs.zip us, rfl, hH, (hf C f hc.2).1, (hf C f hc.2).2, ?_, ?_⟩
     . rw [List.length_zip, hl, Nat.min_self]
       rw [<- hl]
       exact hc.1
     . exact q σ _ Hs1 _ (Keeps.refl _ _) (G.re fun b => by (try dsimp only); omega) ((z.2.1.drop (fun b => by simp) z.1.le).drop (fun b => by (try dsimp only); omega) G.le) SS
   . cases hff
 . cases hff
end
open PySem.W
noncomputable def scr (ns : List Int) : D := .node .frl false (ns.map fun i => .sc (.int i))
def ZnJ {K : Fg} {a : Addr} {ns : List Int} {F : List D -> Rs (D × List D)} {E : XK} (hS : SqL K H a (ns.map V.int)) (e : ∃ ds', F [scr ns] = .ok (.sc (.bl true), ds')) : spF K F [.ref a] H (fun v _ => v = .bl true) E := by
 obtain ⟨ds', e⟩ := e
 refine ⟨[scr ns], H, fun _ => 0, _, ds', ⟨Same.refl _, fun b => Nat.zero_le _, fun b h => by simp at h, fun b h => by simp at h⟩, .cons (m1 := fun _ => 0) (m2 := fun _ => 0) (.shd (vs := ns.map V.int) hS (Zdk ns)) (.nil _) fun b => by simp, e, fun v H' Hs' m1 m' g st r _ => ?_⟩
 cases r
 rfl
def ZjL {l : PySem.W.OpenLaw} {q : Program} {loose : List Str} {XP : (Str -> Option Value) -> Heap -> Prop} {YP : World -> Heap -> Prop} {d : DefRec} {K : Params -> Fg} {k : Nat} {x : Str} {R : Fg -> List D -> Rs (D × List D)} (hn : l.most = some 63) (hdf : d.params.defaults = []) (hr : Room k callerA)
 (hY : ∀ (w : World) (h : Heap), YP w h -> (K w.params).In h)
 (F : ∀ (w : World) (mg : SO) (fa : Addr) (h : Heap), (K w.params).In h -> h.Ns mainGlobals mg -> mg d.name = some (.ref fa) ->
  ∃ fd : FuncData, (∀ (s : Shared) (u : Value), BindsTo s fd ⟨[u], []⟩ [(x, u)]) /\ ∀ base : Heap, (K w.params).In base -> base.Ns mainGlobals mg -> FnOk l.prog w (K w.params) mg base CX0 k fa fd [x] (spF (K w.params) (R (K w.params))))
 (hL : ∀ (K : Fg) (ns : List Int), ns.length <= 63 -> ∃ ds', R K [scr ns] = .ok (.sc (.bl true), ds')) :
 PySem.W.WalkO q loose XP YP l.row.toRowW d [] (fun f vs => PySem.call f vs) :=
 L2.Zjw (n := 63) (k := k) (x := x) (CX := CX0) (sp := fun K => spF K (R K)) hn (by decide) hdf hr hY F (fun K H a ns hl _ hS => ZnJ hS (hL K ns hl)) fun _ _ _ _ z => z
def ZiK {α β : Type} {c : M α} {f : α -> M β} {a : α} (h : c δ = .ok (a, δ')) : c.bnd f δ = f a δ' := by
 unfold M.bnd
 rw [h]
def runA (h : ds.length = n) : Zr C n N body ds = Zbb n (exs { C with lock := fun i => decide (i < n) } body (ds ++ List.replicate (N - n) .hole)) := if_pos h
def szl : sizeLine = 16777216 := by rw [sizeLine_eq]
section
noncomputable def bndR (f : α -> M β) : Rs (α × List D) -> Rs (β × List D)
 | .ok (a, δ) => f a δ
 | .exc x δ => .exc x δ
 | .stuck => .stuck
def bndA (c : M α) (f : α -> M β) (δ : List D) : c.bnd f δ = bndR f (c δ) := by
 unfold M.bnd bndR
 cases c δ <;> rfl
def ZlL (f : α -> M β) : bndR f (.ok (a, δ)) = f a δ := (rfl)
def retA : M.ret a δ = .ok (a, δ) := (rfl)
def Zqg : lift (some a) δ = .ok (a, δ) := (rfl)
def ZlM (c : Prop) [Decidable c] (f g : M α) (δ : List D) : (if c then f else g) δ = if c then f δ else g δ := by split <;> rfl
def Zqh (c : M D) : Zn (.v i) c = ZK i := (rfl)
noncomputable def atR (i : Nat) (δ : List D) : Option D -> Rs (Op × List D)
 | some (.sc _) => .ok (.late i, δ)
 | some (.node _ _ _) => .ok (.late i, δ)
 | _ => .stuck
def Zqi : ZK i δ = atR i δ δ[i]? := by unfold ZK atR; cases δ[i]? with | none => rfl | some d => cases d <;> rfl
def ZnK : atR i δ (some (.sc v)) = .ok (.late i, δ) := (rfl)
def ZnL : atR i δ (some (.node k o ds)) = .ok (.late i, δ) := (rfl)
noncomputable def vwR (i : Nat) (δ : List D) : Option D -> Rs (W × List D)
 | some (.sc v) => .ok (.sc v, δ)
 | some (.node k false ds) => .ok (.nd k ds, δ)
 | some (.node k true ds) => .ok (.nd k (shrL ds), δ.set i (.node k true (shrL ds)))
 | _ => .stuck
def Zqj : view (.late i) δ = vwR i δ δ[i]? := by
 unfold view vwR
 (try dsimp only)
 all_goals
  cases δ[i]? with
  | none => rfl
  | some d => cases d with
   | node k o ds => cases o <;> rfl
   | _ => rfl
def ZnM : vwR i δ (some (.sc v)) = .ok (.sc v, δ) := (rfl)
def Zqk : vwR i δ (some (.node k false ds)) = .ok (.nd k ds, δ) := (rfl)
def ZdE : vwR i δ (some (.node k true ds)) = .ok (.nd k (shrL ds), δ.set i (.node k true (shrL ds))) := (rfl)
def ZlN : view (.tmp (.sc v)) = M.ret (.sc v) := (rfl)
def ZlO : view (.tmp (.node k o ds)) = M.ret (.nd k ds) := (rfl)
noncomputable def vlR (i : Nat) (δ : List D) : Option D -> Rs (D × List D)
 | some (.sc v) => .ok (.sc v, δ)
 | some (.node k false ds) => .ok (.node k false ds, δ)
 | some (.node k true ds) => .ok (.node k false (shrL ds), δ.set i (.node k false (shrL ds)))
 | _ => .stuck
theorem valA : T.valV i δ = vlR i δ δ[i]? := by
 unfold T.valV vlR
 cases δ[i]? with
 | none => rfl
 | some d => cases d with
  | node k o ds => cases o <;> rfl
  | _ => rfl
def ZnN : vlR i δ (some (.sc v)) = .ok (.sc v, δ) := (rfl)
def Zql : vlR i δ (some (.node k true ds)) = .ok (.node k false (shrL ds), δ.set i (.node k false (shrL ds))) := (rfl)
noncomputable def mvR (i : Nat) (δ : List D) : Option D -> Rs (D × List D)
 | some (.sc v) => .ok (.sc v, δ)
 | some (.node k o ds) => .ok (.node k o ds, δ.set i .hole)
 | _ => .stuck
def movA : movV i δ = mvR i δ δ[i]? := by unfold movV mvR; cases δ[i]? with | none => rfl | some d => cases d <;> rfl
def ZnO : mvR i δ (some (.node k o ds)) = .ok (.node k o ds, δ.set i .hole) := (rfl)
noncomputable def tkR (lend : Bool) (i : Nat) (δ : List D) : Option D -> Rs (D × List D)
 | some (.sc v) => .ok (.sc v, δ)
 | some (.node k false ds) => .ok (.node k false ds, δ)
 | some (.node k true ds) => if lend then .ok (.node k true ds, δ.set i .hole) else .ok (.node k false (shrL ds), δ.set i (.node k false (shrL ds)))
 | _ => .stuck
def Zqm : takeA lend (.late i) δ = tkR lend i δ δ[i]? := by
 unfold takeA tkR
 (try dsimp only)
 all_goals
  cases δ[i]? with
  | none => rfl
  | some d => cases d with
   | node k o ds => cases o <;> rfl
   | _ => rfl
def Zqn : takeA lend (.tmp d) = M.ret d := (rfl)
def ZnP : tkR lend i δ (some (.sc v)) = .ok (.sc v, δ) := (rfl)
def Zqo : tkR lend i δ (some (.node k false ds)) = .ok (.node k false ds, δ) := (rfl)
def Zqp : tkR true i δ (some (.node k true ds)) = .ok (.node k true ds, δ.set i .hole) := (rfl)
def ZnQ : Zab lend [] = M.ret [] := (rfl)
def ZnR : Zab lend (p :: ps) = (takeA lend p).bnd fun d => (Zab lend ps).bnd fun ds => M.ret (d :: ds) := (rfl)
noncomputable def gvR (i : Nat) (δ : List D) (d : D) : Option D -> Rs (Unit × List D)
 | some .hole => .ok ((), δ.set i d)
 | _ => .ok ((), δ)
def Zqq : giveA (.late i) d δ = gvR i δ d δ[i]? := by unfold giveA gvR; (try dsimp only); all_goals (cases δ[i]? with | none => rfl | some d => cases d <;> rfl)
def Zqr : giveA (.tmp d') d = M.ret () := (rfl)
def ZnS : gvR i δ d (some (.sc v)) = .ok ((), δ) := (rfl)
def ZnT : gvR i δ d (some (.node k o ds)) = .ok ((), δ) := (rfl)
def Zqs : gvR i δ d (some .hole) = .ok ((), δ.set i d) := (rfl)
def ZnU : Z4 [] ds = M.ret () := by cases ds <;> rfl
def ZnV : Z4 (p :: ps) (d :: ds) = (giveA p d).bnd fun _ => Z4 ps ds := (rfl)
def ZnW : views [] = M.ret [] := (rfl)
def ZnX : views (p :: ps) = (view p).bnd fun w => (views ps).bnd fun ws => M.ret (w :: ws) := (rfl)
noncomputable def cfR (ps : List Op) (δ : List D) : Rs (D × List D) -> Rs (D × List D)
 | .ok (d, ds') => ((Z4 ps ds').bnd fun _ => M.ret d) δ
 | .exc _ _ => .stuck
 | .stuck => .stuck
theorem Zqt : ZaD fi ps = (Zab fi.lend ps).bnd fun ds δ => cfR ps δ (fi.run ds) := by
 unfold ZaD cfR
 congr 1
 funext ds δ
 cases fi.run ds with
 | ok r => obtain ⟨d, ds'⟩ := r; rfl
 | exc x y => rfl
 | stuck => rfl
def ZnY : cfR ps δ (.ok (d, ds')) = ((Z4 ps ds').bnd fun _ => M.ret d) δ := (rfl)
noncomputable def seqR (r : M Fl) : Rs (Fl × List D) -> Rs (Fl × List D)
 | .ok (.nx, δ) => r δ
 | .ok (f, δ) => .ok (f, δ)
 | .exc x δ => .exc x δ
 | .stuck => .stuck
theorem exs1 : exs C (s :: r) δ = seqR (exs C r) (ex C s δ) := by
 show seqL (ex C s) (exs C r) δ = _
 unfold seqL M.bnd seqR
 cases ex C s δ with
 | ok z => obtain ⟨f, δ1⟩ := z; cases f <;> rfl
 | exc x y => rfl
 | stuck => rfl
noncomputable def forR (asg : D -> M Unit) (body : M Fl) (ds : List D) : Rs (Fl × List D) -> Rs (Fl × List D)
 | .ok (.nx, δ) => forL asg body ds δ
 | .ok (.ct, δ) => forL asg body ds δ
 | .ok (.bk, δ) => .ok (.nx, δ)
 | .ok (.rt x, δ) => .ok (.rt x, δ)
 | .exc x δ => .exc x δ
 | .stuck => .stuck
theorem Zbd : forL asg body (d :: ds) δ = forR asg body ds (((asg d).bnd fun _ => body) δ) := by
 show ((asg d).bnd fun _ => body.bnd fun f => match f with | .nx => forL asg body ds | .ct => forL asg body ds | .bk => M.ret .nx | .rt x => M.ret (.rt x)) δ = _
 unfold forR M.bnd
 cases asg d δ with
 | ok r =>
  dsimp only
  cases body r.2 with
  | ok z => obtain ⟨f, δ1⟩ := z; cases f <;> rfl
  | exc x y => rfl
  | stuck => rfl
 | exc x y => rfl
 | stuck => rfl
def ZkG : forL asg body [] δ = .ok (.nx, δ) := (rfl)
def ZlP : forR asg body ds (.ok (.nx, δ)) = forL asg body ds δ := (rfl)
def ZlQ : forR asg body ds (.ok (.rt d, δ)) = .ok (.rt d, δ) := (rfl)
def exs0 : exs C [] δ = .ok (.nx, δ) := (rfl)
def ZlR (r : M Fl) : seqR r (.ok (.nx, δ)) = r δ := (rfl)
def ZlS (r : M Fl) : seqR r (.ok (.rt d, δ)) = .ok (.rt d, δ) := (rfl)
end
def e_k (C : Ctx) (v : V) : (evb C (.k v)).1 = (M.ret (.sc v)) := (rfl)
def o_k (v : V) (z : M D) : Zn (.k v) z = z.bnd fun d => M.ret (.tmp d) := (rfl)
def e_g (C : Ctx) (d : D) : (evb C (.g d)).1 = (M.ret d) := (rfl)
def Zqu (C : Ctx) (op : Operator) (a : E) (b : E) : (evb C (.bin op a b)).1 = ((Zn a (evb C a).1).bnd fun p => (Zn b (evb C b).1).bnd fun q => (view p).bnd fun x => (view q).bnd fun y => lift (binW op x y)) := (rfl)
def Zqv (op : Operator) (a : E) (b : E) (z : M D) : Zn (.bin op a b) z = z.bnd fun d => M.ret (.tmp d) := (rfl)
def Zqw (C : Ctx) (a : E) : (evb C (.neg a)).1 = (((Zn a (evb C a).1).bnd view).bnd fun x => lift (negW x)) := (rfl)
def Zqx (a : E) (z : M D) : Zn (.neg a) z = z.bnd fun d => M.ret (.tmp d) := (rfl)
def Zqy (C : Ctx) (op : CmpOp) (a : E) (b : E) : (evb C (.cmp op a b)).1 = ((Zn a (evb C a).1).bnd fun p => (Zn b (evb C b).1).bnd fun q => (view p).bnd fun x => (view q).bnd fun y => lift ((Zat op x y).map fun t => .sc (.bl t))) := (rfl)
def Zqz (C : Ctx) (op : CmpOp) (a : E) (b : E) : (evb C (.cmp op a b)).2 = ZbH (evb C (.cmp op a b)).1 := (rfl)
def Zq0 (op : CmpOp) (a : E) (b : E) (z : M D) : Zn (.cmp op a b) z = z.bnd fun d => M.ret (.tmp d) := (rfl)
def Zq1 (C : Ctx) (p : Bool) (a : E) : (evb C (.isN p a)).1 = (((Zn a (evb C a).1).bnd view).bnd fun x => M.ret (isNW p x)) := (rfl)
def Zq2 (C : Ctx) (p : Bool) (a : E) : (evb C (.isN p a)).2 = ((Zn (.isN p a) (evb C (.isN p a)).1).bnd fun p => (view p).bnd fun w => lift (truW w)) := (rfl)
def Zq3 (p : Bool) (a : E) (z : M D) : Zn (.isN p a) z = z.bnd fun d => M.ret (.tmp d) := (rfl)
def t_nt (C : Ctx) (a : E) : (evb C (.nt a)).2 = ((evb C a).2.bnd fun b => M.ret (!b)) := (rfl)
def Zq4 (C : Ctx) (a : E) (b : E) : (evb C (.and a b)).1 = (((Zn a (evb C a).1).bnd view).bnd (andM (evb C b).1)) := (rfl)
def e_or (C : Ctx) (a : E) (b : E) : (evb C (.or a b)).1 = (((Zn a (evb C a).1).bnd view).bnd (T.orM (evb C b).1)) := (rfl)
def t_or (C : Ctx) (a : E) (b : E) : (evb C (.or a b)).2 = ((evb C a).2.bnd fun t => if t then M.ret true else (evb C b).2) := (rfl)
def Zq5 (C : Ctx) (c : E) (a : E) (b : E) : (evb C (.ife c a b)).1 = ((evb C c).2.bnd fun t => if t then (evb C a).1 else (evb C b).1) := (rfl)
def Zq6 (c : E) (a : E) (b : E) (z : M D) : Zn (.ife c a b) z = z.bnd fun d => M.ret (.tmp d) := (rfl)
def e_ix (C : Ctx) (a : E) (b : E) : (evb C (.ix a b)).1 = ((Zn a (evb C a).1).bnd fun p => (Zn b (evb C b).1).bnd fun q => (view p).bnd fun x => (view q).bnd fun y => lift (ixW2 x y)) := (rfl)
def o_ix (a : E) (b : E) (z : M D) : Zn (.ix a b) z = z.bnd fun d => M.ret (.tmp d) := (rfl)
def e_sl (C : Ctx) (a : E) (b : E) (c : E) : (evb C (.sl a b c)).1 = ((Zn a (evb C a).1).bnd fun p => (ZaP b (Zn b (evb C b).1)).bnd fun l => (ZaP c (Zn c (evb C c).1)).bnd fun h => (view p).bnd fun x => lift (slD x l h)) := (rfl)
def o_sl (a : E) (b : E) (c : E) (z : M D) : Zn (.sl a b c) z = z.bnd fun d => M.ret (.tmp d) := (rfl)
def Zq7 (C : Ctx) (a : E) (f : Str) : (evb C (.fld a f)).1 = (((Zn a (evb C a).1).bnd view).bnd fun x => lift (fldW C.fok f x)) := (rfl)
def Zq8 (a : E) (f : Str) (z : M D) : Zn (.fld a f) z = z.bnd fun d => M.ret (.tmp d) := (rfl)
def Zq9 (C : Ctx) (es : List E) : (evb C (.lst es)).1 = ((evs C es).bnd fun ds => lift (newL ds)) := (rfl)
def ZqA (es : List E) (z : M D) : Zn (.lst es) z = z.bnd fun d => M.ret (.tmp d) := (rfl)
def ZqB (C : Ctx) (es : List E) : (evb C (.tup es)).1 = ((evs C es).bnd fun ds => lift (newT ds)) := (rfl)
def o_kl (vs : List V) (z : M D) : Zn (.kl vs) z = z.bnd fun d => M.ret (.tmp d) := (rfl)
def ZnZ (C : Ctx) (fi : FI) (es : List E) : (evb C (.call fi es)).1 = ((opds C es).bnd fun ps => ZaD fi ps) := (rfl)
def Zoa (C : Ctx) (fi : FI) (es : List E) : (evb C (.call fi es)).2 = ((Zn (.call fi es) (evb C (.call fi es)).1).bnd fun p => (view p).bnd fun w => lift (truW w)) := (rfl)
def Zob (fi : FI) (es : List E) (z : M D) : Zn (.call fi es) z = z.bnd fun d => M.ret (.tmp d) := (rfl)
def e_bf (C : Ctx) (f : BF) (es : List E) : (evb C (.bf f es)).1 = ((opds C es).bnd fun ps => (views ps).bnd fun ws => lift (bfW f ws)) := (rfl)
def t_bf (C : Ctx) (f : BF) (es : List E) : (evb C (.bf f es)).2 = ((Zn (.bf f es) (evb C (.bf f es)).1).bnd fun p => (view p).bnd fun w => lift (truW w)) := (rfl)
def o_bf (f : BF) (es : List E) (z : M D) : Zn (.bf f es) z = z.bnd fun d => M.ret (.tmp d) := (rfl)
def e_bm (C : Ctx) (m : BM) (a : E) (es : List E) : (evb C (.bm m a es)).1 = (((Zn a (evb C a).1).bnd view).bnd fun w => (lift (strW w)).bnd fun z => (opds C es).bnd fun ps => (views ps).bnd fun ws => lift (bmW m z ws)) := (rfl)
def Zoc (C : Ctx) (A : Addr) (f : Str) (fi : FI) (a : E) (es : List E) : (evb C (.meth A f fi a es)).1 = ((Zn a (evb C a).1).bnd fun p => (chkI A f p).bnd fun _ => (opds C es).bnd fun ps => ZaD fi (p :: ps)) := (rfl)
def ZqC (C : Ctx) (A : Addr) (fi : FI) (es : List E) : (evb C (.new A fi es)).1 = ((opds C es).bnd fun ps => newF A fi ps) := (rfl)
def Zod (k : Nat) (js : List Nat) (tg : Tg) (ik : IK) (es : List E) (es' : List E) (a : E) (z : M D) : Zn (.comp k js tg ik es es' a) z = z.bnd fun d => M.ret (.tmp d) := (rfl)
def ix_d (ks : List Key) (ds : List D) (v : V) : ixW2 (.nd (.dic ks) ds) (.sc v) = (keyD v).bind fun k => Zah k ks ds := (rfl)
def ZqD (x : Str) : keyD (.str x) = some (.inr x) := (rfl)
def c_in (v : V) (ks : List Key) (ds : List D) : Zat .In (.sc v) (.nd (.dic ks) ds) = ((keyD v).map fun k => (Zah k ks ds).isSome == true) := (rfl)
def e_fs (C : Ctx) (es : List E) : (evb C (.fs es)).1 = fss C es Str.empty := (rfl)
def ZlT (C : Ctx) (acc : Str) : fss C [] acc = M.ret (.sc (.str acc)) := (rfl)
def ZjM (C : Ctx) (e : E) (es : List E) (acc : Str) : fss C (e :: es) acc = ((Zn e (evb C e).1).bnd view).bnd fun w => (lift (fmtW acc w)).bnd fun acc' => fss C es acc' := (rfl)
def o_fs (es : List E) (z : M D) : Zn (.fs es) z = z.bnd fun d => M.ret (.tmp d) := (rfl)
def e_v (C : Ctx) (i : Nat) : (evb C (.v i)).1 = T.valV i := (rfl)
def ZjN (C : Ctx) (i : Nat) (es : List E) : (evb C (.mut .append i [] es)).1 = ((chkL i).bnd fun _ => (evs C es).bnd fun ds => appM i ds) := (rfl)
def ZqE (C : Ctx) : opds C [] = M.ret [] := (rfl)
def ZqF (C : Ctx) (e : E) (es : List E) : opds C (e :: es) = ((Zn e (evb C e).1).bnd fun p => (opds C es).bnd fun ps => M.ret (p :: ps)) := (rfl)
def evs0 (C : Ctx) : evs C [] = M.ret [] := (rfl)
def evs1 (C : Ctx) (e : E) (es : List E) : evs C (e :: es) = ((evb C e).1.bnd fun p => (evs C es).bnd fun ps => M.ret (p :: ps)) := (rfl)
def ZqG (C : Ctx) : tsts C [] = M.ret true := (rfl)
def ZqH (C : Ctx) (i : Nat) (e : E) : ex C (.asg i e) = ((evb C e).1.bnd fun d => (asgN C.lock i d).bnd fun _ => M.ret .nx) := (rfl)
def Zoe (C : Ctx) (i : Nat) (f : Str) (e : E) : ex C (.attr i f e) = ((evb C e).1.bnd fun d => (ZK i).bnd fun _ => (modS i (putD C.fok f d)).bnd fun _ => M.ret .nx) := (rfl)
def x_ex (C : Ctx) (e : E) : ex C (.ex e) = ((evb C e).1.bnd fun _ => M.ret .nx) := (rfl)
def ZqI (C : Ctx) (e : E) : ex C (.ret e) = ((retV C e).bnd fun d => M.ret (.rt d)) := (rfl)
def ZqJ (C : Ctx) (c : E) (a b : List S) : ex C (.iff c a b) = ((evb C c).2.bnd fun t => if t then exs C a else exs C b) := (rfl)
def Zof (C : Ctx) (tg : Tg) (ik : IK) (ies : List E) (body : List S) : ex C (.for_ tg ik ies body) = ((opds C ies).bnd fun ps => (Zw ps).bnd fun h => (lift (itW ik h.1)).bnd fun items => (forL (asgT (fun j => C.lock j || walked ies j) tg) (exs { C with lock := fun j => C.lock j || walked ies j } body) items).bnd fun f => (Z8 h.2).bnd fun _ => M.ret f) := (rfl)
def ZqK (C : Ctx) (i : Nat) : retV C (.v i) = if C.lock i then T.valV i else movV i := (rfl)
def r_k (C : Ctx) (v : V) : retV C (.k v) = (evb C (.k v)).1 := (rfl)
def ZqL (C : Ctx) (op : Operator) (a : E) (b : E) : retV C (.bin op a b) = (evb C (.bin op a b)).1 := (rfl)
def ZqM (C : Ctx) (a : E) (b : E) : retV C (.and a b) = (evb C (.and a b)).1 := (rfl)
def r_or (C : Ctx) (a : E) (b : E) : retV C (.or a b) = (evb C (.or a b)).1 := (rfl)
def r_ix (C : Ctx) (a : E) (b : E) : retV C (.ix a b) = (evb C (.ix a b)).1 := (rfl)
def ZqN (C : Ctx) (es : List E) : retV C (.tup es) = (evb C (.tup es)).1 := (rfl)
def r_bm (C : Ctx) (m : BM) (a : E) (es : List E) : retV C (.bm m a es) = (evb C (.bm m a es)).1 := (rfl)
def ZqO (i j : Int) : binW .Add (.sc (.int i)) (.sc (.int j)) = some (.sc (.int (i + j))) := (rfl)
def ZqP (i j : Int) : binW .Sub (.sc (.int i)) (.sc (.int j)) = some (.sc (.int (i - j))) := (rfl)
def Zeq (i j : Int) (h : (-(2 ^ 64) < i /\ i < 2 ^ 64) \/ (-(2 ^ 64) < j /\ j < 2 ^ 64)) : binW .Mult (.sc (.int i)) (.sc (.int j)) = some (.sc (.int (i * j))) := if_pos h
def ZkH (i j : Int) (h : 0 < j /\ j < 1073741824) : binW .FloorDiv (.sc (.int i)) (.sc (.int j)) = some (.sc (.int (i / j))) := if_pos h
def Zcl (i j : Int) (h : 0 < j) : binW .Mod (.sc (.int i)) (.sc (.int j)) = some (.sc (.int (i % j))) := if_pos h
def Zog (x y : Str) (h : x.length + y.length <= sizeLine) : binW .Add (.sc (.str x)) (.sc (.str y)) = some (.sc (.str (x ++ y))) := if_pos h
def ZkI (xs ys : List D) (h : (xs ++ ys).length <= sizeLine) : binW .Add (.nd .lst xs) (.nd .lst ys) = some (.node .lst true (xs ++ ys)) := if_pos h
def ZaG (ds : List D) (h : ds.length <= sizeLine) : newL ds = some (.node .lst true ds) := if_pos h
def c_lt (i j : Int) : cmpW .Lt (.sc (.int i)) (.sc (.int j)) = some (decide (i < j)) := (rfl)
def ZqQ (i j : Int) : Zat .Lt (.sc (.int i)) (.sc (.int j)) = some (decide (i < j)) := (rfl)
def c_le (i j : Int) : cmpW .LtE (.sc (.int i)) (.sc (.int j)) = some (decide (i <= j)) := (rfl)
def ZqR (i j : Int) : Zat .Gt (.sc (.int i)) (.sc (.int j)) = some (decide (j < i)) := (rfl)
def ZqS (i j : Int) : Zat .GtE (.sc (.int i)) (.sc (.int j)) = some (decide (j <= i)) := (rfl)
def Zoh (i j : Int) : Zat .Eq (.sc (.int i)) (.sc (.int j)) = some (decide (V.int i = V.int j)) := (rfl)
def Zoi (i j : Int) : Zat .NotEq (.sc (.int i)) (.sc (.int j)) = some (!decide (V.int i = V.int j)) := (rfl)
def Zoj (i j : Str) : Zat .Eq (.sc (.str i)) (.sc (.str j)) = some (decide (V.str i = V.str j)) := (rfl)
def ZqT (c : M D) (δ : List D) : ZbH c δ = bndR (fun d => lift (match d with | .sc (.bl b) => some b | _ => none)) (c δ) := bndA _ _ _
def ZqU (b : M D) : andM b (.sc (.bl true)) = b := (rfl)
def ZqV (b : M D) : andM b (.sc (.bl false)) = M.ret (.sc (.bl false)) := (rfl)
def or_f (b : M D) : T.orM b (.sc (.bl false)) = b := (rfl)
def or_t (b : M D) : T.orM b (.sc (.bl true)) = M.ret (.sc (.bl true)) := (rfl)
def ZqW (i : Int) : negW (.sc (.int i)) = some (.sc (.int (-i))) := (rfl)
def ZqX (b : Bool) : truW (.sc (.bl b)) = some b := (rfl)
def ZqY (ds : List D) : bfW .len [.nd .lst ds] = some (.sc (.int ds.length)) := (rfl)
def ZqZ (ds : List D) : bfW .len [.nd .frl ds] = some (.sc (.int ds.length)) := (rfl)
def Zok (ds : List D) : bfW .list [.nd .lst ds] = some (.node .lst true ds) := (rfl)
def Zol (c : M Op) : ZaP (.k .non) c = M.ret none := (rfl)
def Zom (i : Int) (c : M Op) : ZaP (.k (.int i)) c = ((c.bnd view).bnd fun w => lift (intP w)) := (rfl)
def Zon (i : Nat) (c : M Op) : ZaP (.v i) c = ((c.bnd view).bnd fun w => lift (intP w)) := (rfl)
def Zoo (f : FI) (a : List E) (c : M Op) : ZaP (.call f a) c = ((c.bnd view).bnd fun w => lift (intP w)) := (rfl)
def intp (i : Int) : intP (.sc (.int i)) = some (some i) := (rfl)
def sl_l (ds : List D) (l h : Option Int) : slD (.nd .lst ds) l h = some (.node .lst true (cutD ds l h)) := (rfl)
def sl_f (ds : List D) (l h : Option Int) : slD (.nd .frl ds) l h = some (.node .lst true (cutD ds l h)) := (rfl)
def Zra (lk : Nat -> Bool) : ZbG lk [] [] = M.ret () := (rfl)
def Zrb (lk : Nat -> Bool) (i : Nat) (is : List Nat) (d : D) (ds : List D) : ZbG lk (i :: is) (d :: ds) = ((asgN lk i d).bnd fun _ => ZbG lk is ds) := (rfl)
def Zop (lk : Nat -> Bool) (i : Nat) (d : D) : asgT lk (.name i) d = asgN lk i d := (rfl)
def asgn (lk : Nat -> Bool) (i : Nat) (d : D) (δ : List D) : asgN lk i d δ = if (decide (i < δ.length) && !lk i) = true then .ok ((), δ.set i d) else .stuck := (rfl)
def Zoq : Zw [] = M.ret ([], []) := (rfl)
def Zor (p : Op) (ps : List Op) : Zw (p :: ps) = ((holdV p).bnd fun w => (Zw ps).bnd fun ws => M.ret (w.1 :: ws.1, w.2.toList ++ ws.2)) := (rfl)
noncomputable def hdR (i : Nat) (δ : List D) : Option D -> Rs ((W × Option (Nat × D)) × List D)
 | some (.sc v) => .ok ((.sc v, none), δ)
 | some (.node k false ds) => .ok ((.nd k ds, none), δ)
 | some (.node k true ds) => .ok ((.nd k (shrL ds), some (i, .node k true (shrL ds))), δ.set i .hole)
 | _ => .stuck
def Zos (i : Nat) (δ : List D) : holdV (.late i) δ = hdR i δ δ[i]? := by
 unfold holdV hdR
 (try dsimp only)
 all_goals
  cases δ[i]? with
  | none => rfl
  | some d => cases d with
   | node k o ds => cases o <;> rfl
   | _ => rfl
def Zot (i : Nat) (δ : List D) (v : V) : hdR i δ (some (.sc v)) = .ok ((.sc v, none), δ) := (rfl)
def Zrc (i : Nat) (δ : List D) (k : Kd) (ds : List D) : hdR i δ (some (.node k true ds)) = .ok ((.nd k (shrL ds), some (i, .node k true (shrL ds))), δ.set i .hole) := (rfl)
def Zou (v : V) : holdV (.tmp (.sc v)) = M.ret (.sc v, none) := (rfl)
def Zov (k : Kd) (o : Bool) (ds : List D) : holdV (.tmp (.node k o ds)) = M.ret (.nd k (shrL ds), none) := (rfl)
def Zow : Z8 [] = M.ret () := (rfl)
def Zox (i : Nat) (d : D) (r : List (Nat × D)) (δ : List D) : Z8 ((i, d) :: r) δ = Z8 r (δ.set i d) := (rfl)
def it_l (ds : List D) : itW .val [.nd .lst ds] = some ds := (rfl)
def it_1 (n : Int) (h : okR n = true) : itW .rng1 [.sc (.int n)] = some (rng 0 n) := if_pos h
def it_2 (a b : Int) (h : (okR a && okR b) = true) : itW .rng2 [.sc (.int a), .sc (.int b)] = some (rng a b) := if_pos h
noncomputable def mdR (i : Nat) (δ : List D) (f : Kd -> List D -> Option (D × Kd × List D)) : Option D -> Rs (D × List D)
 | some (.node k true ds) => match f k ds with
  | some (r, k', ds') => .ok (r, δ.set i (.node k' true ds'))
  | none => .stuck
 | _ => .stuck
theorem modA (i : Nat) (f : Kd -> List D -> Option (D × Kd × List D)) (δ : List D) : modS i f δ = mdR i δ f δ[i]? := by
 unfold modS mdR
 cases δ[i]? with
 | none => rfl
 | some d => cases d with
  | node k o ds => cases o <;> rfl
  | _ => rfl
def Zer (i : Nat) (δ : List D) (d : D) (ds : List D) (h : ds.length < sizeLine) : mdR i δ (appD d) (some (.node .lst true ds)) = .ok (.sc .non, δ.set i (.node .lst true (ds ++ [d]))) := by
 show (match (if ds.length < sizeLine then some (D.sc .non, Kd.lst, ds ++ [d]) else none) with | some (r, k', ds') => Rs.ok (r, δ.set i (.node k' true ds')) | none => .stuck) = _
 rw [if_pos h]
def Zrd (i : Nat) (d : D) : appM i [d] = modS i (appD d) := (rfl)
noncomputable def ckR (δ : List D) : Option D -> Rs (Unit × List D)
 | some (.node .lst _ _) => .ok ((), δ)
 | _ => .stuck
theorem chkA (i : Nat) (δ : List D) : chkL i δ = ckR δ δ[i]? := by
 unfold chkL ckR
 cases δ[i]? with
 | none => rfl
 | some d => cases d with
  | node k o ds => cases k <;> rfl
  | _ => rfl
def Zre (δ : List D) (o : Bool) (ds : List D) : ckR δ (some (.node .lst o ds)) = .ok ((), δ) := (rfl)
def ix_l (ds : List D) (i : Int) : ixW2 (.nd .lst ds) (.sc (.int i)) = (ixN' ds.length i).bind fun j => ds[j]? := (rfl)
def ix_f (ds : List D) (i : Int) : ixW2 (.nd .frl ds) (.sc (.int i)) = (ixN' ds.length i).bind fun j => ds[j]? := (rfl)
def ix_t (ds : List D) (i : Int) : ixW2 (.nd .tup ds) (.sc (.int i)) = (ixN' ds.length i).bind fun j => ds[j]? := (rfl)
def Zc8 (n j : Nat) (h : j < n) : ixN' n (j : Int) = some j := by
 unfold ixN'
 rw [if_pos (Int.natCast_nonneg j), if_pos (by omega)]
 simp
end T
namespace T
open PySem PySem.Spec L2
variable {δ δ' : List D} {X : Cx} {pos : Pos}
section
def r2C (K : Fg) (f : W -> W -> Option Bool) : R2 := fun x y H Q => ∃ (Hs : Hp) (w1 w2 : W) (m1 m2 : Bud) (t : Bool), Same Hs H /\ View K H Hs x w1 m1 /\ View K H Hs y w2 m2 /\ f w1 w2 = some t /\ Q (.bl t) H
def ZeP (op : CmpOp) (hu : X.A.units + 64 < cLine) : OpR X (compareOp op) (r2C X.K (cmpW op)) := by
 intro pins s σ H x y v u Q I rx ry h
 obtain ⟨Hs, w1, w2, m1, m2, t, hs, v1, v2, e, q⟩ := h
 unfold cmpW at e
 split at e
 . rcases ZiH hs v1 v2 e with ⟨h3, rfl⟩ | ⟨d, f, h3, h4, h5, h6, rfl⟩
   . exact Zph pins s σ H _ _ v u Q I rx ry ⟨h3, q⟩
   . exact Znt hu pins s σ H _ _ v u Q I rx ry ⟨d, f, h3, h4, h5, h6, q⟩
 . simp only [Option.map_eq_some_iff] at e
   obtain ⟨t, e, rfl⟩ := e
   rcases ZiH hs v1 v2 e with ⟨h3, rfl⟩ | ⟨d, f, h3, h4, h5, h6, rfl⟩
   . exact Zpi pins s σ H _ _ v u Q I rx ry ⟨h3, q⟩
   . exact Znu hu pins s σ H _ _ v u Q I rx ry ⟨d, f, h3, h4, h5, h6, q⟩
 . rename_i i j _ _
   cases v1; cases v2
   cases op with
   | Lt => cases e; exact Zpj pins s σ H _ _ v u Q I rx ry ⟨_, _, rfl, rfl, q⟩
   | LtE => cases e; exact Zpk pins s σ H _ _ v u Q I rx ry ⟨_, _, rfl, rfl, q⟩
   | Gt => cases e; exact Zpl pins s σ H _ _ v u Q I rx ry ⟨_, _, rfl, rfl, q⟩
   | GtE => cases e; exact Zpm pins s σ H _ _ v u Q I rx ry ⟨_, _, rfl, rfl, q⟩
   | _ => cases e
 . cases e
noncomputable def ZiL (op op' : CmpOp) (ca cb cc : M Op) : M D := ca.bnd fun p => cb.bnd fun q => (view p).bnd fun x => (view q).bnd fun y => (lift (cmpW op x y)).bnd fun t => if t then cc.bnd fun r => (view q).bnd fun y => (view r).bnd fun z => lift ((cmpW op' y z).map fun t => .sc (.bl t)) else M.ret (.sc (.bl false))
theorem ZiM (h : tM K (ZiL op op' ca cb cc) σ H Q) :
 Ziy (r2C K (cmpW op)) (r2C K (cmpW op')) (tP K ca) (tP K cb) (tP K cc) σ H Q := by
 obtain ⟨δ, Hs, M, d, δ', g, s, e, q⟩ := h
 obtain ⟨p, δ1, e1, e⟩ := Zb e
 obtain ⟨p2, δ2, e2, e⟩ := Zb e
 obtain ⟨w1, δ3, e3, e⟩ := Zb e
 obtain ⟨w2, δ4, e4, e⟩ := Zb e
 obtain ⟨t, δ5, e5, e⟩ := Zb e
 obtain ⟨e5', rfl⟩ := ZE e5
 refine seq2 g s e1 e2 fun x y H2 Hs2 m1 m2 M2 g2 st2 r1 r2 s2 => ?_
 obtain ⟨Hs3, M3, g3, st3, v1, v2, s3⟩ := Zib g2 s2 r1 r2 e3 e4
 have z := Zq (m1 := fun _ => 0) g (g2.re fun b => by simp) (st2.drop (fun b => by simp) g2.le) g3 st3
 have st : Stp H Hs M H2 Hs3 (fun b => (m1 b + m2 b) + M3 b) := z.2.1.drop (fun b => by simp) z.1.le
 refine ⟨Hs3, w1, w2, m1, m2, t, g3.sub, v1, v2, e5', t, rfl, ?_⟩
 cases t with
 | false =>
  rw [if_neg (by simp)]
  have := Zg (show T.M.ret (D.sc (.bl false)) _ = _ from e)
  cases this
  have G : Good H2 Hs3 (fun b => (fun _ => 0) b + M3 b) := g3.re fun b => by simp
  exact q _ _ Hs3 (fun _ => 0) M3 G (st.drop (fun b => by simp) g3.le) (.sc _ _) s3
 | true =>
  rw [if_pos rfl]
  rw [if_pos rfl] at e
  obtain ⟨p3, δ6, e6, e⟩ := Zb e
  obtain ⟨y2, δ7, e7, e⟩ := Zb e
  obtain ⟨z3, δ8, e8, e⟩ := Zb e
  obtain ⟨e9, rfl⟩ := ZE e
  simp only [Option.map_eq_some_iff] at e9
  obtain ⟨t2, e9, rfl⟩ := e9
  have G2 : Good H2 Hs3 (fun b => m2 b + M3 b) := g3.re fun b => by omega
  have st2' : Stp H Hs M H2 Hs3 (fun b => m2 b + M3 b) := st.drop (fun b => by omega) g3.le
  refine ⟨_, Hs3, M3, p3, δ6, G2.re (fun b => by omega), s3, e6, fun z' H4 Hs4 m3 M4 g4 st4 r4 s4 => ?_⟩
  obtain ⟨G, S, k⟩ := Zq g G2 st2' g4 st4
  have ry : RepP K H4 Hs4 σ y p2 m2 := (r2.frame st3.grow fun _ _ _ => rfl).frame st4.grow k
  have G' : Good H4 Hs4 (fun b => (m2 b + m3 b) + M4 b) := G.re fun b => by omega
  have S' : Stp H Hs M H4 Hs4 (fun b => (m2 b + m3 b) + M4 b) := S.drop (fun b => by omega) G.le
  obtain ⟨Hs5, M5, g5, st5, v5, v6, s5⟩ := Zib G' s4 ry r4 e7 e8
  have z5 := Zq (m1 := fun _ => 0) g (G'.re fun b => by simp) (S'.drop (fun b => by simp) G'.le) g5 st5
  have S5 : Stp H Hs M H4 Hs5 (fun b => (m2 b + m3 b) + M5 b) := z5.2.1.drop (fun b => by simp) z5.1.le
  refine ⟨Hs5, y2, z3, m2, m3, t2, g5.sub, v5, v6, e9, ?_⟩
  have G6 : Good H4 Hs5 (fun b => (fun _ => 0) b + M5 b) := g5.re fun b => by simp
  exact q _ _ Hs5 (fun _ => 0) M5 G6 (S5.drop (fun b => by simp) g5.le) (.sc _ _) s5
def ZjO (hu : X.A.units + 64 < cLine) (ha : PE X a (tP X.K ca)) (hb : PE X b (tP X.K cb)) (hc : PE X c (tP X.K cc)) (hm : lastMarks [op, op'] [b, c] = false := by with_unfolding_all rfl) :
 PE X (.Compare a [op, op'] [b, c] pos) (tM X.K (ZiL op op' ca cb cc)) := PE.imp (Zjl (ZeP op hu) (ZeP op' hu) ha hb hc hm) fun σ H Q h => ZiM h
end
section
def Zrf (h : tM K ((c.bnd view).bnd f) σ H Q) : tP K c σ H fun x H1 => ∃ (Hs : Hp) (w : W) (m : Bud), View K H1 Hs x w m /\ tM K (f w) σ H1 Q := by
 obtain ⟨δ, Hs, M, d, δ', g, s, e, q⟩ := h
 obtain ⟨w, δ2, e, e5⟩ := Zb e
 obtain ⟨p, δ1, e1, e3⟩ := Zb e
 refine ⟨δ, Hs, M, p, δ1, g, s, e1, fun x H2 Hs2 m1 M2 g2 st2 r1 s2 => ?_⟩
 obtain ⟨Hs3, M3, g3, st3, v1, s3⟩ := Zay (B := m1) g2 s2 r1 e3
 have z := Zq (m1 := fun _ => 0) g (g2.re fun b => by simp) (st2.drop (fun b => by simp) g2.le) g3 st3
 have st : Stp H Hs M H2 Hs3 (fun b => m1 b + M3 b) := z.2.1.drop (fun b => by simp) z.1.le
 have G : Good H2 Hs3 (fun b => (fun _ => 0) b + M3 b) := g3.re fun b => by simp
 have st' : Stp H Hs M H2 Hs3 (fun b => (fun _ => 0) b + M3 b) := st.drop (fun b => by simp) g3.le
 refine ⟨Hs3, w, m1, v1, δ2, Hs3, M3, d, δ', g3.re, s3, e5, fun v H' Hs' m M' g' sx r s' => q v H' Hs' m M' g' ?_ r s'⟩
 have z2 := Zq (m1 := fun _ => 0) g G st' g' sx
 exact z2.2.1.drop (fun b => by simp) z2.1.le
def PF (X : Cx) (es : List Expr) (f : Str -> M D) : Prop := ∃ ts, PEs X es ts /\ ∀ acc σ H Q, tM X.K (f acc) σ H Q -> Zf1 ts acc σ H Q
def Zes : PF X [] fun acc => M.ret (.sc (.str acc)) := ⟨[], .nil, fun acc σ H Q z0 => by
 obtain ⟨δ, Hs, M, d, δ', g, s, e, q⟩ := z0
 have := Zg e
 cases this
 exact q _ H Hs (fun _ => 0) M (Za4 g) (stp0 H Hs M) (.sc _ _) s⟩
def Zgc (h : tM K ((lift o).bnd f) σ H Q) : ∃ a, o = some a /\ tM K (f a) σ H Q := by
 obtain ⟨δ, Hs, M, d, δ', g, s, e, q⟩ := h
 obtain ⟨a, δ1, e1, e2⟩ := Zb e
 obtain ⟨e3, rfl⟩ := ZE e1
 exact ⟨a, e3, δ1, Hs, M, d, δ', g, s, e2, q⟩
theorem Zht (v : View K H Hs x w m) (h : fmtW acc w = some z) : ∃ y, fmtV x = some y /\ y.length <= sizeLine /\ (acc ++ y).length <= sizeLine /\ z = acc ++ y := by
 cases v with
 | sc v m =>
  have h : ((fmtD x).bind fun z => if z.length <= sizeLine /\ (acc ++ z).length <= sizeLine then some (acc ++ z) else none) = some z := h
  simp only [Option.bind_eq_some_iff] at h
  obtain ⟨y, h1, h2⟩ := h
  split at h2
  . rename_i hl
    cases h2
    exact ⟨y, h1, hl.1, hl.2, rfl⟩
  . cases h2
 | nd n r => cases h
def Zet (ha : PE X e (tP X.K ca)) (hr : PF X es f) : PF X (.FormattedValue e (-1) none pos :: es) fun acc => (ca.bnd view).bnd fun w => (lift (fmtW acc w)).bnd f := by
 obtain ⟨ts, h1, h2⟩ := hr
 refine ⟨_ :: ts, .cons (Znx ha) h1, fun acc σ H Q h => ?_⟩
 obtain ⟨δ, Hs, M, p, δ1, g, s, e1, q⟩ := Zrf h
 refine ⟨δ, Hs, M, p, δ1, g, s, e1, fun x H1 Hs1 m M1 g1 st1 r1 s1 => ?_⟩
 obtain ⟨Hs2, w, m2, v, h3⟩ := q x H1 Hs1 m M1 g1 st1 r1 s1
 obtain ⟨z, h4, h5⟩ := Zgc h3
 obtain ⟨y, a1, a2, a3, rfl⟩ := Zht v h4
 exact ⟨y, a1, a2, y, rfl, a3, h2 _ _ _ _ h5⟩
def Zeu {j pos'} (hr : PF X es f) : PF X (.Constant (.str z) j pos' :: es) fun acc => (((M.ret (D.sc (.str z))).bnd fun d => M.ret (Op.tmp d)).bnd view).bnd fun w => (lift (fmtW acc w)).bnd f := by
 obtain ⟨ts, h1, h2⟩ := hr
 refine ⟨_ :: ts, .cons Z0 h1, fun acc σ H Q h => ?_⟩
 have h' : tM X.K ((lift (fmtW acc (.sc (.str z)))).bnd f) σ H Q := h
 obtain ⟨y, h4, h5⟩ := Zgc h'
 obtain ⟨y, a1, a2, a3, rfl⟩ := Zht (K := X.K) (H := H) (Hs := H) (View.sc (V.str z) (fun _ => 0)) h4
 cases a1
 exact ⟨_, rfl, a3, h2 _ _ _ _ h5⟩
def Zev (h : PF X (a :: b :: es) f) : PE X (.JoinedStr (a :: b :: es) pos) (tM X.K (f Str.empty)) := by
 obtain ⟨ts, h1, h2⟩ := h
 exact PE.imp (Zl5 h1) fun σ H Q h => h2 _ _ _ _ h
end
def ZeQ (h : keyD v = some k) : v = kV k := by
 unfold keyD at h
 split at h <;> cases h <;> rfl
theorem Zea : ∀ {ks : List Key} {vs : List V}, L2.valV (ks.zip vs) k = Zah k ks vs
 | [], _ => by simp [Zah, L2.ZfC]
 | _ :: _, [] => by simp [Zah, L2.ZfC]
 | j :: ks, v :: vs => by
  rw [List.zip_cons_cons]
  unfold Zah
  by_cases e : j = k
  . rw [if_pos e, L2.ZcJ (p := (j, v)) e]
  . rw [if_neg e, L2.ZcK (p := (j, v)) e]
    exact Zea
section
variable {K : Fg} {H Hs : Hp}
theorem RepL.look : ∀ {ks : List Key} {vs : List V} {ds : List D} {m : Bud}, RepL K H Hs vs ds m -> Zah k ks ds = some d -> ∃ (v : V) (m1 : Bud), Zah k ks vs = some v /\ Rep K H Hs v d m1 /\ ∀ b, m1 b <= m b
 | [], _, _, _, .nil _, e => by cases e
 | _ :: _, _, _, _, .nil _, e => by cases e
 | [], _, _, _, .cons x r l, e => by cases e
 | j :: ks, _, _, _, .cons (m1 := m1) (m2 := m2) x r l, e => by
  unfold Zah at e ⊢
  by_cases h : j = k
  . rw [if_pos h] at e ⊢
    cases e
    exact ⟨_, m1, rfl, x, fun b => by have := l b; omega⟩
  . rw [if_neg h] at e ⊢
    obtain ⟨v, n1, h1, h2, h3⟩ := RepL.look r e
    exact ⟨v, n1, h1, h2, fun b => by have := l b; have := h3 b; omega⟩
theorem RepL.lookS : ∀ {ks : List Key} {vs : List V} {ds : List D} {m : Bud}, RepL K H Hs vs ds m -> (Zah k ks vs).isSome = (Zah k ks ds).isSome
 | [], _, _, _, .nil _ => rfl
 | _ :: _, _, _, _, .nil _ => rfl
 | [], _, _, _, .cons x r l => rfl
 | j :: ks, _, _, _, .cons x r l => by
  unfold Zah
  by_cases h : j = k
  . rw [if_pos h, if_pos h]; rfl
  . rw [if_neg h, if_neg h]; exact RepL.lookS r
def ZjP {p : Key × V} {r : List (Key × V)} {k : Key} {v : V} (e : ¬ p.1 = k) : putK (p :: r) k v = p :: putK r k v := by
 unfold putK
 rw [List.any_cons, decide_eq_false e, Bool.false_or]
 split
 . rw [List.map_cons, if_neg e]
 . rfl
theorem Zgd : ∀ {ks : List Key} {vs : List V}, k ∉ ks -> (ks.zip vs).map (fun kv => if kv.1 = k then (kv.1, v) else kv) = ks.zip vs
 | [], _, _ => rfl
 | _ :: _, [], _ => rfl
 | j :: ks, x :: vs, h => by
  rw [List.zip_cons_cons, List.map_cons, if_neg (fun e : j = k => h (e ▸ List.mem_cons_self)), Zgd fun q => h (List.mem_cons_of_mem _ q)]
theorem RepL.stor {k : Key} {d : D} {v : V} {n : Bud} (x : Rep K H Hs v d n) : ∀ {ks ks' : List Key} {vs : List V} {ds ds' : List D} {m : Bud}, ks.length = vs.length -> RepL K H Hs vs ds m -> Zf2 k d ks ds = some (ks', ds') ->
 ∃ vs', ks'.length = vs'.length /\ RepL K H Hs vs' ds' (fun b => m b + n b) /\ putK (ks.zip vs) k v = ks'.zip vs'
 | [], _, _, _, _, _, hl, .nil m, e => by
  cases e
  exact ⟨[v], rfl, .cons x (.nil m) fun b => by omega, rfl⟩
 | _ :: _, _, _, _, _, _, hl, .nil m, e => by cases e
 | [], _, _, _, _, _, hl, .cons y r l, e => by cases e
 | j :: ks, ks', y0 :: vs, x0 :: ds, ds', m, hl, .cons (m1 := m1) (m2 := m2) y r l, e => by
  have hl : ks.length = vs.length := Nat.succ.inj hl
  unfold Zf2 at e
  by_cases h : j = k
  . rw [if_pos h] at e
    split at e
    . cases e
    . rename_i hk
      have hk : k ∉ ks := fun hm => hk (List.any_eq_true.mpr ⟨k, hm, decide_eq_true rfl⟩)
      cases e
      refine ⟨v :: vs, by simp [hl], .cons x r fun b => by have := l b; (try dsimp only); omega, ?_⟩
      rw [List.zip_cons_cons, List.zip_cons_cons]
      unfold putK
      rw [List.any_cons, decide_eq_true (show (j, y0).1 = k from h), Bool.true_or, if_pos rfl, List.map_cons, if_pos h, Zgd hk]
  . rw [if_neg h] at e
    simp only [Option.map_eq_some_iff] at e
    obtain ⟨⟨ks2, ds2⟩, e2, e3⟩ := e
    cases e3
    obtain ⟨vs2, h1, h2, h3⟩ := RepL.stor x hl r e2
    refine ⟨y0 :: vs2, by simp [h1], .cons y h2 fun b => by have := l b; (try dsimp only); omega, ?_⟩
    rw [List.zip_cons_cons, ZjP (show ¬ (j, y0).1 = k from h), h3]
    rfl
end
section
variable {a b o e k : Expr} {pos' : Pos} {i : Nat} {lk : Nat -> Bool}
def ZdF (h : tP K c σ H R) (w : ∀ v H', R v H' -> R' v H') : tP K c σ H R' := by
 obtain ⟨δ, Hs, M, a, δ', g, s, e, q⟩ := h
 exact ⟨δ, Hs, M, a, δ', g, s, e, fun v H' Hs' m M' g' st r s' => w v H' (q v H' Hs' m M' g' st r s')⟩
def Zc9 {α β : Type} {c : M α} {f : α -> M β} {x : α} (h : c δ = .ok (x, δ')) : c.bnd f δ = f x δ' := by
 unfold M.bnd
 rw [h]
def PE.or (h : PE X e t) (h' : PE X e t') : PE X e fun σ H Q => t σ H Q \/ t' σ H Q := fun pins s σ H Q I q => q.elim (h pins s σ H Q I) (h' pins s σ H Q I)
def Zs {ca cb : M Op} (hu : X.A.units + 64 < cLine) (ha : PE X a (tP X.K ca)) (hb : PE X b (tP X.K cb)) (hs : Zhd b := by intro _ _; rfl) :
 PE X (.Subscript a b pos) (tM X.K (ca.bnd fun p => cb.bnd fun q => (view p).bnd fun x => (view q).bnd fun y => lift (ixW2 x y))) :=
 PE.imp (PE.or (Zpq Zp5 ha hb hs) (Zlr (by omega) ha hb hs)) fun σ H Q h => by
  obtain ⟨δ, Hs, M, d, δ', g, s, e, q⟩ := h
  obtain ⟨p, δ1, e1, e⟩ := Zb e
  obtain ⟨p2, δ2, e2, e⟩ := Zb e
  obtain ⟨w1, δ3, e3, e⟩ := Zb e
  obtain ⟨w2, δ4, e4, e⟩ := Zb e
  obtain ⟨e5, rfl⟩ := ZE e
  have back : ∀ f : W -> W -> Option D, f w1 w2 = some d -> tM X.K (ca.bnd fun p => cb.bnd fun q => (view p).bnd fun x => (view q).bnd fun y => lift (f x y)) σ H Q := fun f hf => by
   refine ⟨δ, Hs, M, d, _, g, s, ?_, q⟩
   rw [Zc9 e1, Zc9 e2, Zc9 e3, Zc9 e4, hf]
   rfl
  unfold ixW2 at e5
  split at e5
  . right
    refine ZdF (op2 (back ixD e5)) fun x H1 h1 => ZdF h1 fun y H2 h2 => ?_
    obtain ⟨Hs2, w1', w2', m1, m2, d2, hs2, l1, l2, v1, v2, e6, oo⟩ := h2
    unfold ixD at e6
    split at e6
    . simp only [Option.bind_eq_some_iff] at e6
      obtain ⟨kk, hk, hl⟩ := e6
      cases v1 with
      | nd n r =>
       cases v2
       obtain ⟨z, n1, h3, h4, h5⟩ := r.look hl
       have hy := ZeQ hk
       subst hy
       have g := DGet.k (k := kk) n.2
       rw [Zea, h3] at g
       exact ⟨_, z, rfl, g, oo.part l1 l2 (fun b => by have := h5 b; omega) h4⟩
    . cases e6
  . exact .inl (op2 (back ixW e5))
def ZkJ (p : Bool) (op : CmpOp) (hop : op = if p then .In else .NotIn) (hu : X.A.units + 64 < cLine) : OpR X (compareOp op) (r2C X.K (inD p)) := by
 intro pins s σ H x y v u Q I rx ry h
 obtain ⟨Hs, w1, w2, m1, m2, t, hs, v1, v2, e, q⟩ := h
 unfold inD at e
 split at e
 . simp only [Option.map_eq_some_iff] at e
   obtain ⟨kk, hk, rfl⟩ := e
   cases v2 with
   | @nd a _ vs _ _ n r =>
    cases v1
    have hy := ZeQ hk
    subst hy
    obtain rfl : u = Value.ref a := ry
    have g := DGet.k (k := kk) n.2
    rw [Zea] at g
    have es := fun ks => r.lookS (k := kk) (ks := ks)
    cases p with
    | true =>
     subst hop
     refine d_in (by omega) I g rx fun s' I' => ⟨.bl _, H, I', rfl, ?_⟩
     rw [es]
     simpa using q
    | false =>
     subst hop
     refine Zlp (by omega) I g rx fun s' I' => ⟨.bl _, H, I', rfl, ?_⟩
     rw [es]
     have z : ∀ c : Bool, (c == false) = !c := by decide
     rw [z] at q
     exact q
 . cases e
def Zhu (op : CmpOp) (hu : X.A.units + 64 < cLine) : OpR X (compareOp op) (r2C X.K (Zat op)) := by
 by_cases h1 : op = .In
 . subst h1
   exact ZkJ true .In rfl hu
 . by_cases h2 : op = .NotIn
   . subst h2
     exact ZkJ false .NotIn rfl hu
   . have e : Zat op = cmpW op := by
      funext x y
      unfold Zat
      split
      . exact absurd rfl h1
      . exact absurd rfl h2
      . rfl
     rw [e]
     exact ZeP op hu
def op2C (h : tM K (ca.bnd fun p => cb.bnd fun q => (view p).bnd fun x => (view q).bnd fun y => lift ((f x y).map fun t => .sc (.bl t))) σ H Q) : tOp (r2C K f) (tP K ca) (tP K cb) σ H Q :=
 ZdF (op2 (f := fun x y => (f x y).map fun t => .sc (.bl t)) h) fun x H1 h1 => ZdF h1 fun y H2 h2 => by
  obtain ⟨Hs2, w1, w2, m1, m2, d2, hs2, l1, l2, v1, v2, e, oo⟩ := h2
  simp only [Option.map_eq_some_iff] at e
  obtain ⟨t, e, rfl⟩ := e
  exact ⟨Hs2, w1, w2, m1, m2, t, hs2, v1, v2, e, oo.sc⟩
def Zhv (hu : X.A.units + 64 < cLine) (ha : PE X a (tP X.K ca)) (hb : PE X b (tP X.K cb)) (hm : behindInMarks op b = false := by first | exact nomark _ | with_unfolding_all rfl) :
 PE X (.Compare a [op] [b] pos) (tM X.K (ca.bnd fun p => cb.bnd fun q => (view p).bnd fun x => (view q).bnd fun y => lift ((Zat op x y).map fun t => .sc (.bl t)))) := PE.imp (Zld (Zhu op hu) ha hb hm) fun σ H Q h => op2C h
def Zz (hu : X.A.units + 64 < cLine) (ha : PE X a (tP X.K ca)) (hb : PE X b (tP X.K cb)) (hm : behindInMarks op b = false := by first | exact nomark _ | with_unfolding_all rfl) :
 PT X (.Compare a [op] [b] pos) (tT X.K (ZbH (ca.bnd fun p => cb.bnd fun q => (view p).bnd fun x => (view q).bnd fun y => lift ((Zat op x y).map fun t => .sc (.bl t))))) := PT.imp (Zle (Zhu op hu) ha hb hm) fun σ H Q h => op2C (Zhj h)
def Zrg : V -> V -> V -> Hp -> (Hp -> Prop) -> Prop := fun o i v H Q => Zk3 o i v H Q \/ ∃ a H', o = .ref a /\ DPut H a i v H' /\ Q H'
def Zrh (hu : X.A.units + 64 < cLine) : PSet X Zrg := by
 intro pins s σ H o i v ov iv u Q I ro ri rv h
 rcases h with h | ⟨a, H', rfl, g, q⟩
 . exact Zjr pins s σ H o i v ov iv u Q I ro ri rv h
 . obtain rfl : ov = Value.ref a := ro
   exact Zi6 (by omega) I g ri rv fun s' I' => ⟨H', I', q⟩
def ZeR (hu : X.A.units + 64 < cLine) (ho : PE X o (tVar i)) (hk : PE X k (tP X.K ck)) (he : PE X e (tM X.K c))
 (ha : ∀ v, assign (.Subscript o k pos') X.env v = (do
  let ov <- holding [v] (eval o X.env)
  let iv <- holding [v, ov] (eval k X.env)
  standAt pos'
  holding [v, ov, iv] (setItem ov iv v)
  release [v, ov, iv] []) := by intro _; rfl)
 (hs : swapsWithSole [.Subscript o k pos'] e pos.line X.env = pure false := by rfl) (hw : swappedStores [.Subscript o k pos'] e X.env = pure none := by rfl)
 (h1 : (assignEach [.Subscript o k pos'] X.env).map (·.2) = [assign (.Subscript o k pos') X.env] := by rfl) :
 PS X (.Assign [.Subscript o k pos'] e pos) (tS X.K lk (c.bnd fun d => (ZK i).bnd fun _ => (ck.bnd view).bnd fun w => (modS i (ZhZ w d)).bnd fun _ => M.ret .nx)) :=
 PS.imp (ZmS he (ZmR ho hk (Zrh hu) ha) hs hw h1) fun E σ H h => by
 obtain ⟨δ, Hs, M, f, δ', g, s, ea, q⟩ := h
 obtain ⟨d, δ1, e1, eb⟩ := Zb ea
 obtain ⟨p0, δ2, e2, ec⟩ := Zb eb
 obtain ⟨w, δ3, e3, ed⟩ := Zb ec
 obtain ⟨p, δ4, e4, e5⟩ := Zb e3
 obtain ⟨r0, δ5, e6, e7⟩ := Zb ed
 have := Zg e7
 cases this
 obtain ⟨kk, ds0, k', ds', hi, hf, rfl⟩ := ZdC e6
 refine ⟨δ, Hs, M, d, δ1, g, s, e1, fun v H1 Hs1 m1 M1 g1 st1 r1 s1 => ?_⟩
 obtain ⟨rfl, vo, ho⟩ := ZeJ s1 e2
 refine ⟨vo, ho, δ2, Hs1, M1, p, δ4, g1.re, s1, e4, fun y H2 Hs2 m2 M2 g2 st2 r2 s2 => ?_⟩
 obtain ⟨G2, S2, k2⟩ := Zq g g1 st1 g2 st2
 have r1' := r1.frame st2.grow k2
 obtain ⟨Hs3, M3, g3, st3, v3, s3⟩ := Zay (B := fun b => m1 b + m2 b) (G2.re fun b => by (try dsimp only); omega) s2 r2 e5
 have r1'' := r1'.frame (H' := H2) st3.grow fun _ _ _ => rfl
 obtain ⟨p1, us, m', n2, e8, n, rl, le, fin⟩ := modL g3 s3 hi
 rw [ho] at e8
 cases e8
 have S2' : Stp H Hs M H2 Hs2 (fun b => m1 b + m2 b + M2 b) := S2.drop (fun b => by omega) G2.le
 have G2' : Good H2 Hs2 (fun b => m1 b + m2 b + M2 b) := G2.re fun b => by omega
 have z3 := Zq (m1 := fun _ => 0) g (G2'.re fun b => by simp) (S2'.drop (fun b => by simp) G2'.le) g3 st3
 have S3 : Stp H Hs M H2 Hs3 (fun b => m1 b + m2 b + M3 b) := z3.2.1.drop (fun b => by simp) z3.1.le
 have last : ∀ (ob : HO) (us' : List V) (n' : Bud), (∀ b, n' b <= m' b + m1 b) -> Za2 X.K (upd H2 p1 ob) p1 us' k' -> RepL X.K H2 Hs3 us' ds' n' -> E.nx σ (upd H2 p1 ob) := fun ob us' n' hn no rn => by
  obtain ⟨G, S, R, SS⟩ := fin ob k' us' ds' n' (fun _ => 0) .non (.sc .non) (fun b => by have := hn b; (try dsimp only); omega) no rn (.sc _ _)
  have z := Zq (m1 := fun _ => 0) g (g3.re fun b => by simp) (S3.drop (fun b => by simp) g3.le) G S
  exact q σ _ Hs3 _ (Keeps.refl _ _) (G.re fun b => by (try dsimp only); omega) ((z.2.1.drop (fun b => by simp) z.1.le).drop (fun b => by (try dsimp only); omega) G.le) SS
 unfold ZhZ at hf
 split at hf
 . split at hf
   . split at hf
     . rename_i hz
       simp only [Option.bind_eq_some_iff, Option.map_eq_some_iff] at hf
       obtain ⟨kk, hk, rr, hst, hf⟩ := hf
       cases hf
       cases v3
       have hy := ZeQ hk
       subst hy
       obtain ⟨us', h1, h2, h3⟩ := RepL.stor r1'' n.1 rl hst
       right
       have hl := rl.len
       have hp := DPut.k (k := kk) (v := v) n.2 (by rw [List.length_zip, n.1]; omega)
       rw [h3] at hp
       exact ⟨p1, _, rfl, hp, last _ us' _ (fun b => Nat.le_refl _) ⟨h1, Zl⟩ h2⟩
     . cases hf
   . cases hf
 . unfold setD at hf
   split at hf
   . split at hf
     . rename_i nn
       simp only [Option.map_eq_some_iff] at hf
       obtain ⟨jj, hj, hf⟩ := hf
       cases hf
       cases v3
       have hl := rl.len
       have hjj : ixN us.length nn = some jj := by rw [hl]; exact hj
       have hlt : jj < ds0.length := by
        unfold ixN' at hj
        split at hj
        . split at hj
          . cases hj; omega
          . cases hj
        . split at hj
          . cases hj; omega
          . cases hj
       exact .inl ⟨p1, us, nn, jj, rfl, rfl, n, hjj, last (.lst (us.set jj v)) (us.set jj v) _ (fun b => Nat.le_refl _) Zl (rl.set (List.getElem?_eq_getElem hlt) r1'')⟩
     . cases hf
   . cases hf
end
theorem Zdl : ∀ (c : Int) (ds : List D), (Zad c ds).length = ds.length
 | _, [] => rfl
 | c, d :: ds => by rw [Zad, List.length_cons, List.length_cons, Zdl]
theorem Zge : ∀ (c : Int) (ds : List D) (i : Nat) {d : D}, (Zad c ds)[i]? = some d -> ∃ x, ds[i]? = some x /\ d = .node .tup false [.sc (.int (c + i)), x]
 | _, [], i, _, h => by simp [Zad] at h
 | c, x :: ds, 0, d, h => by
  rw [Zad, List.getElem?_cons_zero] at h
  cases h
  exact ⟨x, rfl, by simp⟩
 | c, x :: ds, i + 1, d, h => by
  rw [Zad, List.getElem?_cons_succ] at h
  obtain ⟨y, e1, e2⟩ := Zge (c + 1) ds i h
  refine ⟨y, by rw [List.getElem?_cons_succ]; exact e1, ?_⟩
  have z : c + 1 + (i : Int) = c + ((i + 1 : Nat) : Int) := by omega
  rw [e2, z]
def ZiN : Walk K (Ite K a c) (Zad c ds) B (fun H Hs => (SqL K Hs a vs \/ (H a = some (.lst vs) /\ B a ≥ 1)) /\ RepL K H Hs vs ds (fun _ => 0)) := by
 have sq : ∀ {H Hs : Hp}, Same Hs H -> (SqL K Hs a vs \/ (H a = some (.lst vs) /\ B a ≥ 1)) -> SqL K H a vs := fun g h => h.elim (fun h => g.seq h) fun h => .inl (.inl h.1)
 refine ⟨fun h g k => ⟨?_, h.2.frame g fun b hb => absurd hb (by simp)⟩, fun {H Hs i} g h l => ?_, fun {H Hs H' i x d} g h e y => ?_, fun {H Hs i} g h l => ?_⟩
 . rcases h.1 with h | ⟨h, hb⟩
   . exact .inl (g.seq h)
   . exact .inr ⟨(k a hb (by rw [h]; simp)).trans h, hb⟩
 . have e := h.2.len
   rw [Zdl] at l
   exact ⟨vs, _, sq g h.1, List.getElem?_eq_getElem (show i < vs.length by omega)⟩
 . obtain ⟨x1, e1, e2⟩ := Zge c ds i e
   subst e2
   obtain ⟨A, y1, rfl, hA, rfl, hy⟩ := y
   obtain ⟨v, m1, ev, rv, lv⟩ := h.2.at e1
   have hv := hy vs (sq g h.1)
   rw [ev] at hv
   cases hv
   have gr : Grow H Hs (upd H A (.tup [.int (c + i), y1])) (upd Hs A (.tup [.int (c + i), y1])) := .inr ⟨A, _, hA, rfl, rfl⟩
   obtain ⟨sm, fr, _⟩ := gr.same g
   refine ⟨_, gr, .shd (k := .tup) (vs := [.int (c + i), y1]) (show _ = some _ from Zl) (.cons (m1 := fun _ => 0) (m2 := fun _ => 0) (.sc _ _) (.cons (m1 := fun _ => 0) (m2 := fun _ => 0) ((rv.mono lv).frame sm fun b _ n => fr b n) (.nil _) fun b => by simp) fun b => by simp)⟩
 . have e := h.2.len
   rw [Zdl] at l
   exact ⟨vs, sq g h.1, by omega⟩
def Zoy {c cb : M Op} {n : Int} {h : List W × List (Nat × D)} (hcb : ∀ δ, cb δ = .ok (.tmp (.sc (.int n)), δ)) (e : ((c.bnd fun p => (cb.bnd fun p => (M.ret ([] : List Op)).bnd fun ps => M.ret (p :: ps)).bnd fun ps => M.ret (p :: ps)).bnd Zw) δ = .ok (h, δ')) :
 ∃ p δ1 w, c δ = .ok (p, δ1) /\ holdV p δ1 = .ok (w, δ') /\ h = ([w.1, .sc (.int n)], w.2.toList) := by
 obtain ⟨ps, δ1, e1, e2⟩ := Zb e
 obtain ⟨p, δ2, e3, e4⟩ := Zb e1
 obtain ⟨qs, δ3, e5, e6⟩ := Zb e4
 obtain ⟨p2, δ4, e7, e8⟩ := Zb e5
 rw [hcb] at e7
 cases e7
 obtain ⟨z, δ5, e9, e10⟩ := Zb e8
 have := Zg e9
 cases this
 have := Zg e10
 cases this
 have := Zg e6
 cases this
 obtain ⟨w, δ6, e11, e12⟩ := Zb e2
 obtain ⟨ws, δ7, e13, e14⟩ := Zb e12
 obtain ⟨w2, δ8, e15, e16⟩ := Zb e13
 have := Zg e15
 cases this
 obtain ⟨z, δ9, e17, e18⟩ := Zb e16
 have := Zg e17
 cases this
 have := Zg e18
 cases this
 have := Zg e14
 cases this
 exact ⟨p, _, w, e3, e11, by simp⟩
def Zri (hg : Gl X x) (h : ∃ t, X.mg x = some (.int i t)) (hd : (x == ("__debug__" : Str)) = false) : PE X (.Name x p) (tM X.K (M.ret (.sc (.int i)))) := by
 obtain ⟨t, h⟩ := h
 exact ok_k (Zd6 hg h ⟨t, rfl⟩ hd)
def ZkK (hc : X.calm = true) (hg : PGs X es (gNs is)) (hn : (assignEach es X.env).length = is.length := by rfl) (hst : (assignEach es X.env).findIdx? (·.1) = none := by rfl) : PG X (.Tuple es k1 q) (gT X.K (.tup is)) := ZnB hc hg hn hst
section
variable {es : List Expr} {k1 : Nat} {l ke : Expr} {ca cb : M Op} {p q kp : Pos} {c : Int}
theorem ZlU (hl : PE X l (tP X.K ca)) (hcb : ∀ δ, cb δ = .ok (.tmp (.sc (.int c)), δ)) (σ : St) (H : Hp) (R : It -> Hp -> Prop) (h : tI X.K .enum (ca.bnd fun p => (cb.bnd fun p => (M.ret ([] : List Op)).bnd fun ps => M.ret (p :: ps)).bnd fun ps => M.ret (p :: ps)) σ H R) : ZkA X.K c (Zkz (tP X.K ca) tNil) σ H R /\ Builtin.SmallTypes.fitsIndex c = true := by
 obtain ⟨δ, Hs, M, h, items, δ', g, s, e, ei, z⟩ := h
 obtain ⟨p, δ1, w, e1, e2, rfl⟩ := Zoy hcb e
 obtain ⟨w1, w2⟩ := w
 have core : ∀ (x : V) (H2 Hs2 : Hp) (m1 M2 : Bud), Good H2 Hs2 (fun b => m1 b + M2 b) -> Stp H Hs M H2 Hs2 (fun b => m1 b + M2 b) -> RepP X.K H2 Hs2 σ x p m1 -> RepS X.K H2 Hs2 σ δ1 M2 ->
  ∃ Hs3 B M3, Good H2 Hs3 (fun b => B b + M3 b) /\ Stp H Hs M H2 Hs3 (fun b => B b + M3 b) /\ RepS X.K H2 Hs3 σ δ' M3 /\ Held X.K H2 Hs3 σ w2.toList B /\ HW X.K H2 Hs3 B x w1 := fun x H2 Hs2 m1 M2 g2 st2 r1 s2 => by
  obtain ⟨Hs3, B, M3, g3, st3, s3, hh, hw⟩ := Zc5 g2 s2 r1 e2
  have z := Zq (m1 := fun _ => 0) g (g2.re fun b => by simp) (st2.drop (fun b => by simp) g2.le) g3 st3
  exact ⟨Hs3, B, M3, g3, z.2.1.drop (fun b => by simp) z.1.le, s3, hh, hw⟩
 have fit : okR c = true -> Builtin.SmallTypes.fitsIndex c = true := fun h => by
  simp only [okR, Bool.and_eq_true, decide_eq_true_eq] at h
  simp only [Builtin.SmallTypes.fitsIndex, Bool.and_eq_true, decide_eq_true_eq]
  omega
 cases w1 with
 | sc u => cases ei
 | nd k ds =>
  have hkk : (k = .lst \/ k = .frl) /\ okR c = true /\ items = Zad c ds := by
   simp only [itW, ZkB] at ei
   split at ei
   . rename_i hk; cases ei; exact ⟨hk.1, hk.2, rfl⟩
   . cases ei
  obtain ⟨hk, hc, rfl⟩ := hkk
  refine ⟨⟨δ, Hs, M, p, δ1, g, s, e1, fun x H2 Hs2 m1 M2 g2 st2 r1 s2 => ?_⟩, fit hc⟩
  obtain ⟨Hs3, B, M3, g3, st3, s3, hh, a, vs, hx, hr, hn⟩ := core x H2 Hs2 m1 M2 g2 st2 r1 s2
  have hp : SqL X.K Hs3 a vs \/ (H2 a = some (.lst vs) /\ B a ≥ 1) := by
   rcases hk with rfl | rfl
   . exact hn.elim (fun n => .inl (.inl (.inl n))) fun n => .inr n
   . exact hn.elim (fun n => .inl n) fun n => n.1.elim
  refine ⟨a, by rw [hx], ⟨vs, ?_⟩, z _ _ H2 Hs3 B M3 g3 st3 s3 hh ZiN ⟨hp, hr⟩⟩
  rcases hp with hp | hp
  . exact g3.sub.seq hp
  . exact .inl (.inl hp.1)
def Zgf (hg : Gl X "enumerate") (hm : X.mg "enumerate" = none) (hl : PE X l (tP X.K ca)) (hcb : ∀ δ, cb δ = .ok (.tmp (.sc (.int 0)), δ) := by intro _; rfl) (hs : starEach [l] X.env = [(false, eval l X.env)] := by rfl) :
 PI X (.Tuple es k1 q) (.Call (.Name "enumerate" p) [l] [] pos) (tI X.K .enum (ca.bnd fun p => (cb.bnd fun p => (M.ret ([] : List Op)).bnd fun ps => M.ret (p :: ps)).bnd fun ps => M.ret (p :: ps))) := PI.imp (Zl7 hg hm (Zaf hl ZaX (by show _ = _; rw [hs]; rfl)) hs) fun σ H R h => (ZlU hl hcb σ H R h).1
end
open PySem.W
noncomputable abbrev dI (xs : List Int) : List D := xs.map fun i => D.sc (.int i)
def Zbu (x : Int) (xs : List Int) : dI (x :: xs) = .sc (.int x) :: dI xs := (rfl)
def ZiO (xs ys : List Int) : dI (xs ++ ys) = dI xs ++ dI ys := List.map_append
def Za0 (xs : List Int) : (dI xs).length = xs.length := List.length_map _
theorem ZC (xs : List Int) : shrL (dI xs) = dI xs := by
 induction xs with
 | nil => rfl
 | cons x xs ih => simp only [List.map_cons, shrL, shr] at ih ⊢; rw [ih]
def ZkL (w : W) : bfW (.isi .bool) [w] = (tyW .bool w).map fun b => .sc (.bl b) := (rfl)
noncomputable def cutI (xs : List Int) (lo hi : Option Int) : List Int := (xs.drop (HT.sIx xs.length 0 lo)).take (HT.sIx xs.length xs.length hi - HT.sIx xs.length 0 lo)
def ZjQ (xs : List Int) (lo hi : Option Int) : cutD (dI xs) lo hi = dI (cutI xs lo hi) := by
 unfold cutD cutI
 simp only [List.length_map, List.map_take, List.map_drop]
noncomputable def rngI : Int -> Nat -> List Int
 | _, 0 => []
 | a, n + 1 => a :: rngI (a + 1) n
theorem ZlV (a : Int) : ∀ (n : Nat) (f : Nat -> Int), (∀ k, f k = a + k) -> (List.range n).map (fun k => D.sc (.int (f k))) = dI (rngI a n) := by
 intro n
 induction n generalizing a with
 | zero => intro f _; rfl
 | succ n ih =>
  intro f hf
  (rw [List.range_succ_eq_map, List.map_cons, List.map_map])
  show _ = D.sc (.int a) :: dI (rngI (a + 1) n)
  have h0 : f 0 = a := by rw [hf]; simp
  rw [h0]
  congr 1
  exact ih (a + 1) (fun k => f (k + 1)) fun k => by rw [hf]; omega
def Zgg (a b : Int) : rng a b = dI (rngI a (b - a).toNat) := ZlV a _ (fun k => a + k) fun k => rfl
def Zf3 (n : Int) (h : -(2 ^ 62) <= n /\ n < 2 ^ 62) : itW .rng1 [.sc (.int n)] = some (dI (rngI 0 n.toNat)) := by
 rw [it_1 n (by simp only [okR, Bool.and_eq_true, decide_eq_true_eq]; exact h), Zgg]
 have : n - 0 = n := by omega
 rw [this]
def Zrj (a b : Int) (h : -(2 ^ 62) <= a /\ a < 2 ^ 62 /\ -(2 ^ 62) <= b /\ b < 2 ^ 62) : itW .rng2 [.sc (.int a), .sc (.int b)] = some (dI (rngI a (b - a).toNat)) := by
 rw [it_2 a b (by simp only [okR, Bool.and_eq_true, decide_eq_true_eq]; exact ⟨⟨h.1, h.2.1⟩, h.2.2⟩), Zgg]
def it_e (ds : List D) (c : Int) (h : -(2 ^ 62) <= c /\ c < 2 ^ 62) : itW .enum [.nd .lst ds, .sc (.int c)] = some (Zad c ds) := by
 show (if _ then _ else _) = _
 rw [if_pos ⟨.inl rfl, by simp only [okR, Bool.and_eq_true, decide_eq_true_eq]; exact h⟩]
def ZcA (lk : Nat -> Bool) (is : List Nat) (o : Bool) (ds : List D) : asgT lk (.tup is) (.node .tup o ds) = ZbG lk is ds := (rfl)
def ixI (xs : List Int) (k : Int) (h0 : 0 <= k) (h : k < xs.length) : ((ixN' (dI xs).length k).bind fun j => (dI xs)[j]?) = some (.sc (.int (xs.getD k.toNat 0))) := by
 rw [List.length_map]
 unfold ixN'
 rw [if_pos h0, if_pos h]
 (have hk : k.toNat < xs.length := by omega)
 show (dI xs)[k.toNat]? = _
 rw [List.getElem?_map, List.getElem?_eq_getElem hk, List.getD_eq_getElem?_getD, List.getElem?_eq_getElem hk]
 rfl
noncomputable def notV : E -> Bool
 | .v _ => false
 | _ => true
def Zb8 (h : notV e = true) : ZbP (Zn e c) lk := by
 rw [ZlF fun j z => by subst z; cases h]
 exact ZfX
section
variable {asg : D -> M Unit} {cond : M Bool} {elt : M D} {d : D} {ds acc δ1 caps : List D} {k : Nat} {js : List Nat} {loop : M (List D)}
def Zew : Zai asg cond elt (d :: ds) acc δ = ((asg d).bnd fun _ => cond.bnd fun b => if b then elt.bnd fun x => Zai asg cond elt ds (acc ++ [x]) else Zai asg cond elt ds acc) δ := (rfl)
noncomputable def ZbI (fok : Addr -> Str -> Bool) (fuel k : Nat) (tg : Tg) (cond : List E) (elt : E) (items acc : List D) : M (List D) := Zai (asgT (fun i => decide (k <= i)) tg) (tsts ⟨fun i => decide (k <= i), fok, fuel⟩ cond) (evb ⟨fun i => decide (k <= i), fok, fuel⟩ elt).1 items acc
def ZlW (C : Ctx) (k : Nat) (js : List Nat) (tg : Tg) (ik : IK) (es es' : List E) (a : E) : (evb C (.comp k js tg ik es es' a)).1 = ((opds C es).bnd fun ps => (Zw ps).bnd fun h => (lift (itW ik h.1)).bnd fun items => (Za3 k js (ZbI C.fok C.fuel k tg es' a items [])).bnd fun d => (Z8 h.2).bnd fun _ => M.ret d) := (rfl)
def ZcO (h1 : Zbq js δ = .ok (caps, δ1)) (h2 : loop (List.replicate k .hole ++ caps) = .ok (acc, δ')) (h3 : acc.length <= sizeLine) : Za3 k js loop δ = ((ZaE js (δ'.drop k)).bnd fun _ => M.ret (.node .lst true acc)) δ1 := by
 unfold Za3
 rw [ZiK h1, h2]
 show ((ZaE js (δ'.drop k)).bnd fun _ => lift (newL acc)) δ1 = _
 rw [ZaG _ h3]
 rfl
end
end T
namespace T
open PySem PySem.Spec L2
variable {σ σ1 : St} {H Hs H1 Hs1 : Hp} {lk : Nat -> Bool} {X : Cx} {pos pos' : Pos} {fi : FI} {j : Nat}
def Zhw {K : Fg} {ca : M Op} {p : Bool} {Q : Bool -> Hp -> Prop} (h : tT K ((((ca.bnd view).bnd fun x => M.ret (isNW p x)).bnd fun d => M.ret (.tmp d)).bnd fun q => (view q).bnd fun w => lift (truW w)) σ H Q) :
 tM K ((ca.bnd view).bnd fun x => M.ret (isNW p x)) σ H (fun x H' => ∃ k, x = .bl k /\ Q k H') := by
 obtain ⟨δ, Hs, M, b, δ', g, s, e, q⟩ := h
 obtain ⟨op, δ1, e1, e2⟩ := Zb e
 obtain ⟨d, δ2, e3, e4⟩ := Zb e1
 have := Zg e4
 cases this
 have hb : ∃ t, d = .sc (.bl t) := by
  obtain ⟨x, δ3, e5, e6⟩ := Zb e3
  have := Zg e6
  cases this
  cases x <;> exact ⟨_, rfl⟩
 obtain ⟨t, rfl⟩ := hb
 obtain ⟨w, δ4, e7, e8⟩ := Zb e2
 have := Zg (show T.M.ret (W.sc (.bl t)) δ1 = .ok (w, δ4) from e7)
 cases this
 obtain ⟨e9, rfl⟩ := ZE e8
 cases e9
 refine Zhj (c := (ca.bnd view).bnd fun x => T.M.ret (isNW p x)) ⟨δ, Hs, M, _, _, g, s, ?_, q⟩
 unfold ZbH
 rw [ZiK e3]
 rfl
def ZlX (C : T.Ctx) (op op' : CmpOp) (a b e : E) : (evb C (.chain op op' a b e)).1 = ((Zn a (evb C a).1).bnd fun p => (Zn b (evb C b).1).bnd fun q => (view p).bnd fun x => (view q).bnd fun y => (lift (cmpW op x y)).bnd fun t => if t then (Zn e (evb C e).1).bnd fun r => (view q).bnd fun y => (view r).bnd fun z => lift ((cmpW op' y z).map fun t => .sc (.bl t)) else M.ret (.sc (.bl false))) := (rfl)
section
def ZeS (ha : PE X a (tP X.K ca)) {j} : PT X (.Compare a [.Is] [.Constant .none j pos'] pos) (tT X.K ((((ca.bnd view).bnd fun x => M.ret (isNW true x)).bnd fun d => M.ret (.tmp d)).bnd fun q => (view q).bnd fun w => lift (truW w))) := PT.imp (Zir (ZmJ ha)) fun σ H Q h => by
 have h2 : tM X.K ((ca.bnd view).bnd fun x => lift (some (isNW true x))) σ H _ := Zhw h
 exact op1 (r := fun x H1 Q => Q (.bl (decide (x = .non))) H1) h2 fun x H Hs w m d g h1 h2 v e o => by
  cases e
  rw [(Zhr v).1] at o
  exact o.sc
def Zgh (ha : PE X a (tP X.K ca)) {j} : PT X (.Compare a [.IsNot] [.Constant .none j pos'] pos) (tT X.K ((((ca.bnd view).bnd fun x => M.ret (isNW false x)).bnd fun d => M.ret (.tmp d)).bnd fun q => (view q).bnd fun w => lift (truW w))) := PT.imp (Zir (ZkY ha)) fun σ H Q h => by
 have h2 : tM X.K ((ca.bnd view).bnd fun x => lift (some (isNW false x))) σ H _ := Zhw h
 exact op1 (r := fun x H1 Q => Q (.bl (!decide (x = .non))) H1) h2 fun x H Hs w m d g h1 h2 v e o => by
  cases e
  rw [(Zhr v).2] at o
  exact o.sc
end
def NX {α : Type} (c : M α) : Prop := ∀ δ x δ', c δ ≠ .exc x δ'
section
def Zm (a : α) : NX (M.ret a) := fun δ x δ' h => by cases h
def ZG : NX (stk (α := α)) := fun δ x δ' h => by cases h
def Ze (h : NX c) (k : ∀ a, NX (f a)) : NX (c.bnd f) := fun δ x δ' e => by
 unfold M.bnd at e
 split at e
 . exact k _ _ _ _ e
 . rename_i y z q; exact h _ _ _ q
 . cases e
def Z6 (o : Option α) : NX (lift o) := by cases o <;> first | exact Zm _ | exact ZG
def Zdm [Decidable p] (h : NX a) (k : NX b) : NX (if p then a else b) := by split <;> assumption
end
def ZcB (i : Nat) : NX (ZK i) := fun δ x δ' h => by unfold ZK at h; split at h <;> cases h
def Zac (h : NX c) : NX (Zn e c) := by
 cases e <;> first | exact ZcB _ | exact Ze h fun _ => Zm _
theorem ZU (p : Op) : NX (view p) := by
 cases p with
 | tmp d => cases d <;> first | exact Zm _ | exact ZG
 | late i => intro δ x δ' h; unfold view at h; dsimp only at h; split at h <;> cases h
theorem ZcP : ∀ ps, NX (views ps)
 | [] => Zm _
 | p :: ps => Ze (ZU p) fun _ => Ze (ZcP ps) fun _ => Zm _
def ZeT (i : Nat) : NX (valV i) := fun δ x δ' h => by unfold valV at h; split at h <;> cases h
def ZlY (i : Nat) : NX (movV i) := fun δ x δ' h => by unfold movV at h; split at h <;> cases h
theorem ZjR (l : Bool) (p : Op) : NX (takeA l p) := by
 cases p with
 | tmp d => exact Zm _
 | late i => intro δ x δ' h; unfold takeA at h; dsimp only at h; split at h <;> (first | cases h | (split at h <;> cases h))
theorem Zb9 (l : Bool) : ∀ ps, NX (Zab l ps)
 | [] => Zm _
 | p :: ps => Ze (ZjR l p) fun _ => Ze (Zb9 l ps) fun _ => Zm _
theorem ZjS (p : Op) (d : D) : NX (giveA p d) := by
 cases p with
 | tmp d => exact Zm _
 | late i => intro δ x δ' h; unfold giveA at h; dsimp only at h; split at h <;> cases h
theorem Zdn : ∀ ps ds, NX (Z4 ps ds)
 | p :: ps, d :: ds => Ze (ZjS p d) fun _ => Zdn ps ds
 | [], _ => Zm _
 | _ :: _, [] => Zm _
theorem Zgi (f : FI) (ps : List Op) : NX (ZaD f ps) := Ze (Zb9 _ _) fun ds => by
 cases f.run ds with
 | ok r => exact Ze (Zdn _ _) fun _ => Zm _
 | exc x y => exact ZG
 | stuck => exact ZG
theorem Zhx (A : Addr) (m : Str) (p : Op) : NX (chkI A m p) := by
 cases p with
 | late i => intro δ x δ' h; unfold chkI at h; dsimp only at h; split at h <;> (first | cases h | (split at h <;> cases h))
 | tmp d =>
  cases d with
  | node k o ds =>
   cases k with
   | ins B fs => intro δ x δ' h; unfold chkI at h; dsimp only at h; split at h <;> cases h
   | _ => exact ZG
  | _ => exact ZG
theorem ZlZ (C : Addr) (f : FI) (ps : List Op) : NX (newF C f ps) := Ze (Zb9 _ _) fun ds => by
 cases f.run (.node (.ins C []) true [] :: ds) with
 | ok r =>
  obtain ⟨d, l⟩ := r
  cases d with
  | sc v =>
   cases v with
   | non =>
    cases l with
    | nil => exact ZG
    | cons d ds => exact Ze (Zdn _ _) fun _ => Zm _
   | _ => exact ZG
  | _ => exact ZG
 | exc x y => exact ZG
 | stuck => exact ZG
def ZdG (lk : Nat -> Bool) (i : Nat) (d : D) : NX (asgN lk i d) := fun δ x δ' h => by unfold asgN at h; split at h <;> cases h
theorem Zgj (lk : Nat -> Bool) : ∀ is ds, NX (ZbG lk is ds)
 | [], [] => Zm _
 | i :: is, d :: ds => Ze (ZdG lk i d) fun _ => Zgj lk is ds
 | [], _ :: _ => ZG
 | _ :: _, [] => ZG
theorem Zma (lk : Nat -> Bool) (t : Tg) (d : D) : NX (asgT lk t d) := by
 cases t with
 | name i => exact ZdG _ _ _
 | tup is =>
  cases d with
  | node k o ds => cases k <;> first | exact Zgj _ _ _ | exact ZG
  | _ => exact ZG
def ZcC (i : Nat) (f : Kd -> List D -> Option (D × Kd × List D)) : NX (modS i f) := fun δ x δ' h => by
 unfold modS at h
 split at h
 . split at h <;> cases h
 . cases h
def Zmb (i : Nat) (ds : List D) : NX (appM i ds) := by
 unfold appM
 split
 . exact ZcC _ _
 . exact ZG
def Zhy (i : Nat) : NX (chkL i) := fun δ x δ' h => by unfold chkL at h; split at h <;> cases h
theorem ZjT (p : Op) : NX (holdV p) := by
 cases p with
 | tmp d => cases d <;> first | exact Zm _ | exact ZG
 | late i => intro δ x δ' h; unfold holdV at h; dsimp only at h; split at h <;> cases h
theorem Zdo : ∀ ps, NX (Zw ps)
 | [] => Zm _
 | p :: ps => Ze (ZjT p) fun _ => Ze (Zdo ps) fun _ => Zm _
theorem Zgk : ∀ h, NX (Z8 h)
 | [] => Zm _
 | (i, d) :: r => fun δ x δ' e => Zgk r _ _ _ e
theorem Zex : ∀ js, NX (Zbq js)
 | [] => Zm _
 | j :: js => fun δ x δ' e => by
  unfold Zbq at e
  split at e
  . exact Ze (Zex js) (fun _ => Zm _) _ _ _ e
  . cases e
theorem Zey : ∀ js ds, NX (ZaE js ds)
 | j :: js, d :: ds => fun δ x δ' e => Zey js ds _ _ _ e
 | [], _ => Zm _
 | _ :: _, [] => Zm _
def ZjU (k : Nat) (js : List Nat) (l : M (List D)) : NX (Za3 k js l) := Ze (Zex js) fun caps δ x δ' e => by
 split at e
 . exact Ze (Zey _ _) (fun _ => Z6 _) _ _ _ e
 . cases e
 . cases e
def Zgl (h : NX c) : NX (ZaP e c) := by
 unfold ZaP
 split
 . exact Zm _
 . exact Ze (Ze h fun p => ZU p) fun _ => Z6 _
def Zmc (h : NX b) (w : W) : NX (andM b w) := by
 unfold andM
 split
 . exact h
 . exact Zm _
 . exact ZG
def Zoz (h : NX b) (w : W) : NX (T.orM b w) := by
 unfold T.orM
 split
 . exact h
 . exact Zm _
 . exact ZG
def Zgm (h : NX c) : NX (ZbH c) := Ze h fun _ => Z6 _
def Z5 (h : NX c) : NX (tdef e c) := Ze (Zac h) fun p => Ze (ZU p) fun _ => Z6 _
def ZaH (h : NX c) : NX (vdef e c) := Ze (Zac h) fun p => ZU p
mutual
theorem Zt (C : Ctx) : ∀ e : E, NX (evb C e).1 /\ NX (evb C e).2
 | .k v => ⟨Zm _, Z5 (e := .k v) (c := M.ret (D.sc v)) (Zm _)⟩
 | .g d => ⟨Zm _, Z5 (e := .g d) (Zm d)⟩
 | .v i => ⟨ZeT i, Z5 (ZeT i)⟩
 | .bin op a b => by
  have h : NX (evb C (.bin op a b)).1 := Ze (Zac (Zt C a).1) fun p => Ze (Zac (Zt C b).1) fun q => Ze (ZU p) fun x => Ze (ZU q) fun y => Z6 _
  exact ⟨h, Z5 h⟩
 | .neg a => by
  have h : NX (evb C (.neg a)).1 := Ze (ZaH (Zt C a).1) fun x => Z6 _
  exact ⟨h, Z5 h⟩
 | .cmp op a b => by
  have h : NX (evb C (.cmp op a b)).1 := Ze (Zac (Zt C a).1) fun p => Ze (Zac (Zt C b).1) fun q => Ze (ZU p) fun x => Ze (ZU q) fun y => Z6 _
  exact ⟨h, Zgm h⟩
 | .chain op op' a b e => by
  have h : NX (evb C (.chain op op' a b e)).1 := Ze (Zac (Zt C a).1) fun p => Ze (Zac (Zt C b).1) fun q => Ze (ZU p) fun x => Ze (ZU q) fun y => Ze (Z6 _) fun t =>
   Zdm (Ze (Zac (Zt C e).1) fun r => Ze (ZU q) fun y => Ze (ZU r) fun z => Z6 _) (Zm _)
  exact ⟨h, Zgm h⟩
 | .isN p a => by
  have h : NX (evb C (.isN p a)).1 := Ze (ZaH (Zt C a).1) fun x => Zm _
  exact ⟨h, Z5 h⟩
 | .nt a => ⟨Ze (ZaH (Zt C a).1) fun w => Z6 _, Ze (Zt C a).2 fun b => Zm _⟩
 | .and a b => ⟨Ze (ZaH (Zt C a).1) (Zmc (Zt C b).1), Ze (Zt C a).2 fun t => Zdm (Zt C b).2 (Zm _)⟩
 | .or a b => ⟨Ze (ZaH (Zt C a).1) (Zoz (Zt C b).1), Ze (Zt C a).2 fun t => Zdm (Zm _) (Zt C b).2⟩
 | .ife c a b => by
  have h : NX (evb C (.ife c a b)).1 := Ze (Zt C c).2 fun t => Zdm (Zt C a).1 (Zt C b).1
  exact ⟨h, Z5 h⟩
 | .ix a i => by
  have h : NX (evb C (.ix a i)).1 := Ze (Zac (Zt C a).1) fun p => Ze (Zac (Zt C i).1) fun q => Ze (ZU p) fun x => Ze (ZU q) fun y => Z6 _
  exact ⟨h, Z5 h⟩
 | .sl a lo hi => by
  have h : NX (evb C (.sl a lo hi)).1 := Ze (Zac (Zt C a).1) fun p => Ze (Zgl (Zac (Zt C lo).1)) fun q => Ze (Zgl (Zac (Zt C hi).1)) fun x => Ze (ZU p) fun y => Z6 _
  exact ⟨h, Z5 h⟩
 | .fld a f => by
  have h : NX (evb C (.fld a f)).1 := Ze (ZaH (Zt C a).1) fun x => Z6 _
  exact ⟨h, Z5 h⟩
 | .lst es => by
  have h : NX (evb C (.lst es)).1 := Ze (Zez C es) fun x => Z6 _
  exact ⟨h, Z5 h⟩
 | .tup es => by
  have h : NX (evb C (.tup es)).1 := Ze (Zez C es) fun x => Z6 _
  exact ⟨h, Z5 h⟩
 | .kl vs => ⟨Z6 _, Z5 (Z6 _)⟩
 | .dct0 => ⟨Zm _, Z5 (e := .dct0) (c := M.ret (D.node (.dic []) true [])) (Zm _)⟩
 | .call f es => by
  have h : NX (evb C (.call f es)).1 := Ze (ZV C es) fun x => Zgi _ _
  exact ⟨h, Z5 h⟩
 | .bf f es => by
  have h : NX (evb C (.bf f es)).1 := Ze (ZV C es) fun x => Ze (ZcP _) fun _ => Z6 _
  exact ⟨h, Z5 h⟩
 | .bm m o es => by
  have h : NX (evb C (.bm m o es)).1 := Ze (ZaH (Zt C o).1) fun w => Ze (Z6 _) fun z => Ze (ZV C es) fun x => Ze (ZcP _) fun _ => Z6 _
  exact ⟨h, Z5 h⟩
 | .mut m i ps es => by
  have h1 : NX ((chkL i).bnd fun _ => (evs C es).bnd fun ds => appM i ds) := Ze (Zhy i) fun _ => Ze (Zez C es) fun _ => Zmb _ _
  have h2 : ∀ m, NX ((chkL i).bnd fun _ => (opds C es).bnd fun ps => (views ps).bnd fun ws => modS i (mutD m ws)) := fun m => Ze (Zhy i) fun _ => Ze (ZV C es) fun _ => Ze (ZcP _) fun _ => ZcC _ _
  have h : NX (evb C (.mut m i ps es)).1 := by
   cases ps with
   | nil => cases m <;> first | exact h1 | exact h2 _
   | cons p ps => cases m <;> exact ZG
  exact ⟨h, Z5 h⟩
 | .meth A m f o es => by
  have h : NX (evb C (.meth A m f o es)).1 := Ze (Zac (Zt C o).1) fun p => Ze (Zhx _ _ _) fun _ => Ze (ZV C es) fun x => Zgi _ _
  exact ⟨h, Z5 h⟩
 | .new A f es => by
  have h : NX (evb C (.new A f es)).1 := Ze (ZV C es) fun x => ZlZ _ _ _
  exact ⟨h, Z5 h⟩
 | .comp k js tg ik ies cond elt => by
  have h : NX (evb C (.comp k js tg ik ies cond elt)).1 := Ze (ZV C ies) fun ps => Ze (Zdo _) fun h => Ze (Z6 _) fun items => Ze (ZjU _ _ _) fun d => Ze (Zgk _) fun _ => Zm _
  exact ⟨h, Z5 h⟩
 | .fs es => by
  have h : NX (evb C (.fs es)).1 := ZiP C es _
  exact ⟨h, Z5 h⟩
 | .dct1 k e => by
  have h : NX (evb C (.dct1 k e)).1 := Ze (Zt C e).1 fun d => Zm _
  exact ⟨h, Z5 h⟩
theorem ZiP (C : Ctx) : ∀ (es : List E) (acc : Str), NX (fss C es acc)
 | [], acc => Zm _
 | e :: es, acc => Ze (ZaH (Zt C e).1) fun w => Ze (Z6 _) fun acc' => ZiP C es acc'
theorem ZV (C : Ctx) : ∀ es : List E, NX (opds C es)
 | [] => Zm _
 | e :: es => Ze (Zac (Zt C e).1) fun p => Ze (ZV C es) fun ps => Zm _
theorem Zez (C : Ctx) : ∀ es : List E, NX (evs C es)
 | [] => Zm _
 | e :: es => Ze (Zt C e).1 fun p => Ze (Zez C es) fun ps => Zm _
end
def Zmd (C : Ctx) (e : E) : NX (retV C e) := by
 unfold retV
 split
 . exact Zdm (ZeT _) (ZlY _)
 . exact (Zt C _).1
noncomputable def leaf : S -> Bool
 | .asg _ _ => true | .sub _ [] _ _ => true | .attr _ _ _ => true | .attrX _ _ _ => true | .ex _ => true | .ret _ => true | .retN => true | .pass => true | .brk => true | .cnt => true
 | _ => false
theorem Zme (C : Ctx) (s : S) (h : leaf s = true) : NX (ex C s) := by
 cases s with
 | asg i e => exact Ze (Zt C e).1 fun d => Ze (ZdG _ _ _) fun _ => Zm _
 | sub i ps x e =>
  cases ps with
  | nil => exact Ze (Zt C e).1 fun d => Ze (ZcB i) fun _ => Ze (ZaH (Zt C x).1) fun w => Ze (ZcC _ _) fun _ => Zm _
  | cons p ps => cases h
 | attr i f e => exact Ze (Zt C e).1 fun d => Ze (ZcB i) fun _ => Ze (ZcC _ _) fun _ => Zm _
 | attrX i f e => exact Ze (Zt C e).1 fun d => Ze (ZcB i) fun _ => Ze (ZcC _ _) fun _ => Zm _
 | ex e => exact Ze (Zt C e).1 fun _ => Zm _
 | ret e => exact Ze (Zmd C e) fun _ => Zm _
 | retN => exact Zm _
 | pass => exact Zm _
 | brk => exact Zm _
 | cnt => exact Zm _
 | _ => cases h
def ZdH (K : Fg) (lk : Nat -> Bool) (xc : Addr -> St -> Hp -> Prop) (σ : St) (H Hs : Hp) (M : Bud) (x : D) (δ' : List D) : Prop :=
 ∀ (ea : Addr) (σ' : St) (H' Hs' : Hp) (m M' : Bud), Keeps lk σ σ' -> Good H' Hs' (fun b => m b + M' b) -> Stp H Hs M H' Hs' (fun b => m b + M' b) -> Rep K H' Hs' (.ref ea) x m -> RepS K H' Hs' σ' δ' M' -> xc ea σ' H'
def Zan (K : Fg) (lk : Nat -> Bool) (E : EndX) (σ : St) (H Hs : Hp) (M : Bud) : Rs (Fl × List D) -> Prop
 | .ok (f, δ') => Post K lk E.toEnds σ H Hs M f δ'
 | .exc x δ' => ZdH K lk E.xc σ H Hs M x δ'
 | .stuck => False
def tX (K : Fg) (lk : Nat -> Bool) (c : M Fl) : TX := fun E σ H => ∃ (δ : List D) (Hs : Hp) (M : Bud), Good H Hs M /\ RepS K H Hs σ δ M /\ Zan K lk E σ H Hs M (c δ)
section
variable {K : Fg} {H' H0 Hs0 : Hp} {M M0 : Bud}
theorem Good.up (g : Good H Hs M) (k : Same H H') : Good H' Hs M := ⟨fun b o e => k b o (g.sub b o e), g.le, g.ne, fun b h => by
 have := g.has b h
 cases e : H b with
 | none => exact absurd e this
 | some o => rw [k b o e]; simp⟩
theorem Stp.up (s : Stp H0 Hs0 M0 H Hs M) (k : Same H H') : Stp H0 Hs0 M0 H' Hs M := ⟨fun b o e z => k b o (s.keep b o e z), s.own, s.grow, s.shr, fun b h => by
 have := s.stay b h
 cases e : H b with
 | none => exact absurd e this
 | some o => rw [k b o e]; simp⟩
theorem Zbv (k : Same H H') : ∀ b, H b ≠ none -> H' b = H b := fun b h => by
 cases e : H b with
 | none => exact absurd e h
 | some o => exact k b o e
def ZdH.ahead {xc : Addr -> St -> Hp -> Prop} {M1 : Bud} {x : D} {δ' : List D} (k : Keeps lk σ σ1) (g : Good H Hs M) (g1 : Good H1 Hs1 M1) (st : Stp H Hs M H1 Hs1 M1) (h : ZdH K lk xc σ H Hs M x δ') : ZdH K lk xc σ1 H1 Hs1 M1 x δ' :=
 fun ea σ' H' Hs' m M' k' g' st' rv r => h ea σ' H' Hs' m M' (k.trans k') g' (by
  have z := Zq (m1 := fun _ => 0) g (g1.re fun b => by simp) (st.drop (fun b => by simp) g1.le) g' st'
  exact z.2.1.drop (fun b => by simp) z.1.le) rv r
theorem Zan.ahead {E : EndX} {M1 : Bud} {r : Rs (Fl × List D)} (k : Keeps lk σ σ1) (g : Good H Hs M) (g1 : Good H1 Hs1 M1) (st : Stp H Hs M H1 Hs1 M1) (h : Zan K lk E σ H Hs M r) : Zan K lk E σ1 H1 Hs1 M1 r := by
 cases r with
 | ok z => exact Post.ahead k g g1 st h
 | exc x δ' => exact ZdH.ahead k g g1 st h
 | stuck => exact h
end
section
variable {e a b c o : Expr} {st : Stmt} {rest : List Stmt} {i : Nat} {x : Str}
theorem ZiQ {c : M Fl} (h : PS X st (tS X.K lk c)) (n : NX c) : PX X st (tX X.K lk c) := PX.imp (PS.x h) fun E σ H z0 => by
 obtain ⟨δ, Hs, M, g, s, q⟩ := z0
 cases e : c δ with
 | ok z => rw [e] at q; exact ⟨δ, Hs, M, z.1, z.2, g, s, e, q⟩
 | exc x δ' => exact absurd e (n _ _ _)
 | stuck => rw [e] at q; exact q.elim
def ZD {C : Ctx} {s : S} (h : PS X st (tS X.K lk (ex C s))) (n : leaf s = true := by rfl) : PX X st (tX X.K lk (ex C s)) := ZiQ h (Zme C s n)
def ZR : PXs X [] (tX X.K lk (M.ret .nx)) := PXs.imp Zlv fun E σ H ⟨δ, Hs, M, g, s, q⟩ => q σ H Hs M (Keeps.refl _ _) g (Stp.refl _ _ _) s
theorem Zy {c r : M Fl} (h1 : PX X st (tX X.K lk c)) (h2 : PXs X rest (tX X.K lk r)) : PXs X (st :: rest) (tX X.K lk (seqL c r)) := PXs.imp (Zjy h1 h2) fun E σ H z0 => by
 obtain ⟨δ, Hs, M, g, s, q⟩ := z0
 refine ⟨δ, Hs, M, g, s, ?_⟩
 unfold seqL T.M.bnd at q
 cases e : c δ with
 | ok z =>
  obtain ⟨f, δ1⟩ := z
  rw [e] at q
  cases f with
  | nx => exact fun σ' H' Hs' M' k g' st' r => ⟨δ1, Hs', M', g', r, Zan.ahead k g g' st' q⟩
  | bk => exact q
  | ct => exact q
  | rt d => exact q
 | exc x δ' => rw [e] at q; exact q
 | stuck => rw [e] at q; exact q
theorem Zmf (n : NX cc) (hc : PT X c (tT X.K cc)) (ha : PXs X A (tX X.K lk ca)) (hb : PXs X B (tX X.K lk cb)) : PX X (.If c A B pos) (tX X.K lk (cc.bnd fun t => if t then ca else cb)) := PX.imp (Zpw hc ha hb) fun E σ H z0 => by
 obtain ⟨δ, Hs, M, g, s, q⟩ := z0
 unfold T.M.bnd at q
 cases e : cc δ with
 | ok z =>
  obtain ⟨t, δ1⟩ := z
  rw [e] at q
  refine ⟨δ, Hs, M, t, δ1, g, s, e, fun H' Hs' M' g' st' s' => ?_⟩
  cases t with
  | true => exact ⟨δ1, Hs', M', g', s', Zan.ahead (Keeps.refl _ _) g g' st' q⟩
  | false => exact ⟨δ1, Hs', M', g', s', Zan.ahead (Keeps.refl _ _) g g' st' q⟩
 | exc x δ' => exact absurd e (n _ _ _)
 | stuck => rw [e] at q; exact q.elim
def Zdp (hc : PT X c (tT X.K (evb C ce).2)) (ha : PXs X A (tX X.K lk (exs C sa))) (hb : PXs X B (tX X.K lk (exs C sb))) : PX X (.If c A B pos) (tX X.K lk (ex C (.iff ce sa sb))) := Zmf (Zt C ce).2 hc ha hb
end
section
theorem ZbA : ∀ (h : List (Nat × D)) (δ : List D), ∃ δ', Z8 h δ = .ok ((), δ')
 | [], δ => ⟨δ, rfl⟩
 | (i, d) :: r, δ => ZbA r (δ.set i d)
theorem Zgn (nx : NX cs) (F : Fr0 X X.A) (hx : ∀ e s, ¬ X.xe e s) (hc : X.calm = true) (hl : LkLe lk lk') (hw : HWs cs lk')
 (hi : PI X tg iter (tI X.K ik cs)) (hg : PG X tg (gT X.K tgt)) (hb : PXs X body (tX X.K lk' cb)) (hs : ∀ x, foldedSetIterable iter X.env x = pure x := by intro _; rfl) :
 PX X (.For tg iter body [] pos) (tX X.K lk (cs.bnd fun ps => (Zw ps).bnd fun h => (lift (itW ik h.1)).bnd fun items δ => finB h.2 (forL (asgT lk' tgt) cb items δ))) :=
 PX.imp (Znk F hx hc hi hg hb hs) fun E σ H z0 => by
 obtain ⟨δ, Hs, M, g, s, q⟩ := z0
 have nx2 : NX (cs.bnd Zw) := Ze nx fun p => Zdo p
 have hbb : (cs.bnd fun ps => (Zw ps).bnd fun h => (lift (itW ik h.1)).bnd fun items δ => finB h.2 (forL (asgT lk' tgt) cb items δ)) δ = ((cs.bnd Zw).bnd fun h => (lift (itW ik h.1)).bnd fun items δ => finB h.2 (forL (asgT lk' tgt) cb items δ)) δ := by
  unfold T.M.bnd
  cases cs δ <;> rfl
 rw [hbb] at q
 cases e12 : (cs.bnd Zw) δ with
 | exc x δ' => exact absurd e12 (nx2 _ _ _)
 | stuck => unfold T.M.bnd at e12 q; rw [e12] at q; exact q.elim
 | ok z =>
  obtain ⟨hh, δ3⟩ := z
  have q : Zan X.K lk E σ H Hs M (((lift (itW ik hh.1)).bnd fun items δ => finB hh.2 (forL (asgT lk' tgt) cb items δ)) δ3) := by
   have : ((cs.bnd Zw).bnd fun h => (lift (itW ik h.1)).bnd fun items δ => finB h.2 (forL (asgT lk' tgt) cb items δ)) δ = ((lift (itW ik hh.1)).bnd fun items δ => finB hh.2 (forL (asgT lk' tgt) cb items δ)) δ3 := by
    show T.M.bnd (cs.bnd Zw) _ δ = _
    unfold T.M.bnd at e12 ⊢
    rw [e12]
   rw [this] at q
   exact q
  cases e3' : itW ik hh.1 with
  | none => rw [e3'] at q; exact q.elim
  | some items =>
   rw [e3'] at q
   have q : Zan X.K lk E σ H Hs M (finB hh.2 (forL (asgT lk' tgt) cb items δ3)) := q
   have locked := hw _ _ _ e12
   refine ⟨δ, Hs, M, hh, items, δ3, g, s, e12, e3', fun J Pp H1 Hs1 B M1 g1 st1 s1 held wk pp => ?_⟩
   have kl : ∀ {σ1 σ2 : St}, Keeps lk' σ1 σ2 -> Keeps lk σ1 σ2 := fun k i h => k i (hl i h)
   refine ⟨fun i m σ2 H2 => m = items.length - i /\ i <= items.length /\ Keeps lk' σ σ2 /\ ∃ (δ2 : List D) (Hs2 : Hp) (M2 : Bud), Good H2 Hs2 (fun b => B b + M2 b) /\ Stp H Hs M H2 Hs2 (fun b => B b + M2 b) /\ RepS X.K H2 Hs2 σ2 δ2 M2 /\ Held X.K H2 Hs2 σ2 hh.2 B /\ Pp H2 Hs2 /\ Zan X.K lk E σ H Hs M (finB hh.2 (forL (asgT lk' tgt) cb (items.drop i) δ2)),
    ⟨items.length, by simp, Nat.zero_le _, Keeps.refl _ _, δ3, Hs1, M1, g1, st1, s1, held, pp, by rw [List.drop_zero]; exact q⟩, ?_⟩
   rintro i m σ2 H2 ⟨rfl, hle, k2, δ2, Hs2, M2, g2, st2, s2, held2, pp2, q7⟩
   by_cases hlt : i < items.length
   . right
     have hd : items[i]? = some (items[i]'(by omega)) := List.getElem?_eq_getElem (by omega)
     have hdrop : items.drop i = items[i]'(by omega) :: items.drop (i + 1) := List.drop_eq_getElem_cons (by omega)
     rw [hdrop, Zbd] at q7
     refine ⟨wk.go g2.sub pp2 hlt, fun σ3 H3 => Keeps lk' σ σ3 /\ ∃ (δ2 : List D) (Hs2 : Hp) (M2 : Bud), Good H3 Hs2 (fun b => B b + M2 b) /\ Stp H Hs M H3 Hs2 (fun b => B b + M2 b) /\ RepS X.K H3 Hs2 σ3 δ2 M2 /\ Held X.K H3 Hs2 σ3 hh.2 B /\ Pp H3 Hs2 /\ Zan X.K lk E σ H Hs M (finB hh.2 (forL (asgT lk' tgt) cb (items.drop (i + 1)) δ2)),
      fun σ3 H3 ⟨k3, z⟩ => ⟨items.length - (i + 1), by omega, rfl, hlt, k3, z⟩, fun x H' y => ?_⟩
     obtain ⟨Hs3, gr, rv⟩ := wk.yld g2.sub pp2 hd y
     obtain ⟨sm, fr, _⟩ := gr.same g2.sub
     have pp2 := wk.stay pp2 sm fun b _ n => fr b n
     have s2 := RepS.frame sm (fun b _ n => fr b n) s2
     have held2 := held2.frame sm fun b _ n => fr b n
     have st2 := gr.stp g2 st2
     have g2 := gr.good g2
     clear gr sm fr y
     generalize Hs3 = Hs2 at *
     cases e8 : asgT lk' tgt (items[i]'(by omega)) δ2 with
     | exc x δ' => exact absurd e8 (Zma _ _ _ _ _ _)
     | stuck => rw [show ((asgT lk' tgt (items[i]'(by omega))).bnd fun _ => cb) δ2 = .stuck by show T.M.bnd _ _ δ2 = _; unfold T.M.bnd; rw [e8]] at q7; exact q7.elim
     | ok z =>
      obtain ⟨u1, δ5'⟩ := z
      rw [show ((asgT lk' tgt (items[i]'(by omega))).bnd fun _ => cb) δ2 = cb δ5' by show T.M.bnd _ _ δ2 = _; unfold T.M.bnd; rw [e8]] at q7
      refine ZeK (Hs := Hs2) g2.sub e8 rv s2 fun σ3 k3 s3 => ?_
      refine ⟨δ5', Hs2, M2, g2.re, s3, ?_⟩
      have held3 : Held X.K H' Hs2 σ3 hh.2 B := held2.keeps k3 locked
      have nxt : ∀ {σ4 : St} {H4 Hs4 : Hp} {M4 : Bud}, Keeps lk' σ3 σ4 -> Good H4 Hs4 M4 -> Stp H' Hs2 M2 H4 Hs4 M4 ->
       Keeps lk' σ σ4 /\ Good H4 Hs4 (fun b => B b + M4 b) /\ Stp H Hs M H4 Hs4 (fun b => B b + M4 b) /\ Held X.K H4 Hs4 σ4 hh.2 B /\ Pp H4 Hs4 := fun {σ4 H4 Hs4 M4} k4 g4 st4 => by
       obtain ⟨G, S, kk⟩ := Zq g g2 st2 g4 st4
       exact ⟨k2.trans (k3.trans k4), G, S, (held3.keeps k4 locked).frame st4.grow kk, wk.stay pp2 st4.grow kk⟩
      cases e10 : cb δ5' with
      | stuck => rw [e10] at q7; exact q7.elim
      | exc x δ6 =>
       rw [e10] at q7
       obtain ⟨δ7, e11⟩ := ZbA hh.2 δ6
       have q8 : ZdH X.K lk E.xc σ H Hs M x δ7 := by
        have : Zan X.K lk E σ H Hs M (match Z8 hh.2 δ6 with | .ok (_, δ') => .exc x δ' | _ => .stuck) := q7
        rw [e11] at this
        exact this
       refine fun ea σ4 H4 Hs4 m4 M4 k4 g4 st4 rd s4 => ?_
       obtain ⟨a1, a2, a3, a4, a6⟩ := nxt k4 g4 st4
       exact q8 ea σ4 H4 Hs4 m4 (fun b => B b + M4 b) (kl a1) (a2.re fun b => by (try dsimp only); omega) (a3.drop (fun b => by (try dsimp only); omega) a2.le) rd (Za7 e11 a4 s4)
      | ok z =>
       obtain ⟨fl, δ6⟩ := z
       rw [e10] at q7
       cases fl with
       | nx =>
        refine fun σ4 H4 Hs4 M4 k4 g4 st4 s4 => ?_
        obtain ⟨a1, a2, a3, a4, a6⟩ := nxt k4 g4 st4
        exact ⟨a1, δ6, Hs4, M4, a2, a3, s4, a4, a6, q7⟩
       | ct =>
        refine fun σ4 H4 Hs4 M4 k4 g4 st4 s4 => ?_
        obtain ⟨a1, a2, a3, a4, a6⟩ := nxt k4 g4 st4
        exact ⟨a1, δ6, Hs4, M4, a2, a3, s4, a4, a6, q7⟩
       | bk =>
        obtain ⟨δ7, e11⟩ := ZbA hh.2 δ6
        have q8 : Post X.K lk E.toEnds σ H Hs M .nx δ7 := by
         have : Zan X.K lk E σ H Hs M (((Z8 hh.2).bnd fun _ => T.M.ret Fl.nx) δ6) := q7
         rw [show ((Z8 hh.2).bnd fun _ => T.M.ret Fl.nx) δ6 = .ok (.nx, δ7) by show T.M.bnd _ _ δ6 = _; unfold T.M.bnd; rw [e11]; rfl] at this
         exact this
        refine fun σ4 H4 Hs4 M4 k4 g4 st4 s4 => ?_
        obtain ⟨a1, a2, a3, a4, a6⟩ := nxt k4 g4 st4
        exact q8 σ4 H4 Hs4 _ (kl a1) a2 a3 (Za7 e11 a4 s4)
       | rt d =>
        obtain ⟨δ7, e11⟩ := ZbA hh.2 δ6
        have q8 : Post X.K lk E.toEnds σ H Hs M (.rt d) δ7 := by
         have : Zan X.K lk E σ H Hs M (((Z8 hh.2).bnd fun _ => T.M.ret (Fl.rt d)) δ6) := q7
         rw [show ((Z8 hh.2).bnd fun _ => T.M.ret (Fl.rt d)) δ6 = .ok (.rt d, δ7) by show T.M.bnd _ _ δ6 = _; unfold T.M.bnd; rw [e11]; rfl] at this
         exact this
        refine fun v σ4 H4 Hs4 m4 M4 k4 g4 st4 rd s4 => ?_
        obtain ⟨a1, a2, a3, a4, a6⟩ := nxt k4 g4 st4
        exact q8 v σ4 H4 Hs4 m4 (fun b => B b + M4 b) (kl a1) (a2.re fun b => by (try dsimp only); omega) (a3.drop (fun b => by (try dsimp only); omega) a2.le) rd (Za7 e11 a4 s4)
   . left
     have hi : i = items.length := by omega
     have hd0 : items.drop i = [] := by rw [hi]; simp
     rw [hd0, ZkG] at q7
     obtain ⟨δ7, e11⟩ := ZbA hh.2 δ2
     have q8 : Post X.K lk E.toEnds σ H Hs M .nx δ7 := by
      have : Zan X.K lk E σ H Hs M (((Z8 hh.2).bnd fun _ => T.M.ret Fl.nx) δ2) := q7
      rw [show ((Z8 hh.2).bnd fun _ => T.M.ret Fl.nx) δ2 = .ok (.nx, δ7) by show T.M.bnd _ _ δ2 = _; unfold T.M.bnd; rw [e11]; rfl] at this
      exact this
     exact ⟨wk.stop g2.sub pp2 (by omega), q8 σ2 H2 Hs2 _ (kl k2) g2 st2 (Za7 e11 held2 s2)⟩
end
def spX (K : Fg) (F : List D -> Rs (D × List D)) : Sp := fun vs H Q E => ∃ (ds : List D) (Hs : Hp) (m : Bud), Good H Hs m /\ RepL K H Hs vs ds m /\ match F ds with
 | .ok (d, ds') => ∀ (v : V) (H' Hs' : Hp) (m1 m' : Bud), Good H' Hs' (fun b => m1 b + m' b) -> Stp H Hs m H' Hs' (fun b => m1 b + m' b) -> Rep K H' Hs' v d m1 -> RepL K H' Hs' vs ds' m' -> Q v H'
 | .exc x ds' => ∀ (ea : Addr) (H' Hs' : Hp) (m1 m' : Bud), Good H' Hs' (fun b => m1 b + m' b) -> Stp H Hs m H' Hs' (fun b => m1 b + m' b) -> Rep K H' Hs' (.ref ea) x m1 -> RepL K H' Hs' vs ds' m' -> E (.ref ea) none H'
 | .stuck => False
section
def Zhz (F : Fun K x qual st f fd) (Sc : FnScope N ps (Zp st)) (hn : ps.length = n) (hN : N.length = nN)
 (hb : ∀ (cdv : Value) (A : Around) (outer : List Env) (s : Shared) (H : Hp) (E : XK), Fr0 (cxOf CX0 P w K mg base N qual (Zp st) f cdv A outer s H E).nox (A.deeper (PyProof.Rows.envOfC qual (Zp st) s.heap.objs.size f cdv)) -> Room k (A.deeper (PyProof.Rows.envOfC qual (Zp st) s.heap.objs.size f cdv)) ->
  PXs (cxOf CX0 P w K mg base N qual (Zp st) f cdv A outer s H E).nox (ZT st) (tX K (fun i => decide (i < n)) (exs { C with lock := fun i => decide (i < n) } body))) :
 FnOk P w K mg base (CXx P w) (k + 1) f fd ps (spX K (Zr C n nN body)) := by
 subst hn hN
 obtain ⟨oc, od, kV, doc, pm, an, cdv, ct, osl, rfl, lk, hcd⟩ := F.ex
 refine Znl lk hcd Sc (fun vs H Q E h => ?_) fun A outer s H vs Q E hr h => ⟨_, fun hfr => hb cdv A outer s H E ⟨rfl, rfl, Around.frames_deeper hfr⟩ hr, ?_⟩
 . obtain ⟨ds, Hs, m, g, r, q⟩ := h
   unfold Zr at q
   rw [r.len]
   split at q
   . rename_i hl
     split at hl
     . assumption
     . cases hl
   . rename_i hl
     split at hl
     . assumption
     . cases hl
   . exact q.elim
 . obtain ⟨ds, Hs, m, g, r, q⟩ := h
   unfold Zr at q
   by_cases hl : ds.length = ps.length
   . rw [if_pos hl] at q
     have hv : vs.length = ps.length := by rw [r.len]; exact hl
     have hr0 := Zfm (N := N) r
     rw [hl] at hr0
     refine ⟨_, Hs, m, g, hr0, ?_⟩
     have back : ∀ {δ' : List D} {σ' : St} {H' Hs' : Hp} {M' : Bud}, Keeps (fun i => decide (i < ps.length)) (L2.start N vs) σ' -> RepS K H' Hs' σ' δ' M' -> RepL K H' Hs' vs (δ'.take ps.length) M' := fun k' s' => by
      have z := s'.take ps.length
      rw [Zen hv k'] at z
      exact RepS.toL z
     cases he : exs { C with lock := fun i => decide (i < ps.length) } body (ds ++ List.replicate (N.length - ps.length) .hole) with
     | ok z =>
      obtain ⟨fl, δ'⟩ := z
      rw [he] at q
      cases fl with
      | nx => exact fun σ' H' Hs' M' k' g' st' s' => q .non H' Hs' (fun _ => 0) M' (Za4 g') (st'.drop (fun b => by simp) g'.le) (.sc _ _) (back k' s')
      | rt dd => exact fun v σ' H' Hs' m1 M' k' g' st' rv s' => q v H' Hs' m1 M' g' st' rv (back k' s')
      | bk => exact q.elim
      | ct => exact q.elim
     | exc x y =>
      rw [he] at q
      exact fun ea σ' H' Hs' m1 M' k' g' st' rv s' => q ea H' Hs' m1 M' g' st' rv (back k' s')
     | stuck => rw [he] at q; exact q.elim
   . rw [if_neg hl] at q
     exact q.elim
theorem FnOk.calm (F : FnOk P w K mg base (CXx P w) k f fd ps (spX K R)) : FnOk P w K mg base CX0 k f fd ps (spF K R) := by
 have im : ∀ {vs : List V} {H : Hp} {Q : VK} {E : XK}, spF K R vs H Q E -> spX K R vs H Q E0 := fun {vs H Q E} h => by
  obtain ⟨ds, Hs, m, d, ds', g, r, e, q⟩ := h
  refine ⟨ds, Hs, m, g, r, ?_⟩
  rw [e]
  exact q
 refine ⟨fun vs H Q E h => F.len vs H Q E0 (im h), fun A outer s H args us vs Q E hr e0 hb hv hs => codeAny_mono (F.run A outer s H args us vs Q E0 hr e0 hb hv (im hs)) fun r s' h => ?_⟩
 cases r with
 | error e =>
  obtain ⟨ea, H', rfl, os, bare, un, hok, fl, q⟩ := h
  exact q H' (Same.refl _)
 | ok fl => cases fl <;> exact h
end
structure FnAtX (P : Program) (w : World) (K : Fg) (mg : SO) (base : Heap) (x : Str) (k : Nat) (ps : List Str) (sp : Sp) : Prop where
 ex : ∃ (f : Addr) (fd : FuncData), FnOk P w K mg base (CXx P w) k f fd ps sp /\ mg x = some (.ref f) /\ PySem.W.keepIn K (.ref f) = true /\ Binds K fd ps []
def FnAtX.calm (G : FnAtX P w K mg base x k ps (spX K R)) : FnAt P w K mg base x k ps (spF K R) := by
 obtain ⟨f, fd, F, h⟩ := G.ex
 exact ⟨f, fd, FnOk.calm F, h⟩
noncomputable def tMX (K : Fg) (c : M D) : TEX := fun σ H Q Ex => ∃ (δ : List D) (Hs : Hp) (M : Bud), Good H Hs M /\ RepS K H Hs σ δ M /\ match c δ with
 | .ok (d, δ') => ∀ (v : V) (H' Hs' : Hp) (m M' : Bud), Good H' Hs' (fun b => m b + M' b) -> Stp H Hs M H' Hs' (fun b => m b + M' b) -> Rep K H' Hs' v d m -> RepS K H' Hs' σ δ' M' -> Q v H'
 | .exc x δ' => ∀ (ea : Addr) (H' Hs' : Hp) (m M' : Bud), Good H' Hs' (fun b => m b + M' b) -> Stp H Hs M H' Hs' (fun b => m b + M' b) -> Rep K H' Hs' (.ref ea) x m -> RepS K H' Hs' σ δ' M' -> Ex ea H'
 | .stuck => False
theorem ZbJ : ∀ (ps : List Op) (ds : List D) (δ : List D), ∃ δ', Z4 ps ds δ = .ok ((), δ')
 | [], ds, δ => ⟨δ, by unfold Z4; rfl⟩
 | _ :: _, [], δ => ⟨δ, by unfold Z4; rfl⟩
 | p :: ps, d :: ds, δ => by
  have : ∃ δ1, giveA p d δ = .ok ((), δ1) := by
   cases p with
   | tmp d' => exact ⟨δ, rfl⟩
   | late i =>
    unfold giveA
    dsimp only
    split
    . exact ⟨_, rfl⟩
    . exact ⟨_, rfl⟩
  obtain ⟨δ1, e1⟩ := this
  obtain ⟨δ2, e2⟩ := ZbJ ps ds δ1
  refine ⟨δ2, ?_⟩
  show T.M.bnd _ _ δ = _
  unfold T.M.bnd
  rw [e1]
  exact e2
theorem Zfo {K : Fg} {M m1 M1 : Bud} {δ1 : List D} {ps : List Op} {vs : List V} {Q : VK} {Ex : Addr -> Hp -> Prop} (g : Good H Hs M) (g1 : Good H1 Hs1 (fun b => m1 b + M1 b)) (st1 : Stp H Hs M H1 Hs1 (fun b => m1 b + M1 b))
 (r1 : ZaF K H1 Hs1 σ vs ps m1) (s1 : RepS K H1 Hs1 σ δ1 M1)
 (q : match ZaQ fi ps δ1 with
  | .ok (d, δ') => ∀ (v : V) (H' Hs' : Hp) (m M' : Bud), Good H' Hs' (fun b => m b + M' b) -> Stp H Hs M H' Hs' (fun b => m b + M' b) -> Rep K H' Hs' v d m -> RepS K H' Hs' σ δ' M' -> Q v H'
  | .exc x δ' => ∀ (ea : Addr) (H' Hs' : Hp) (m M' : Bud), Good H' Hs' (fun b => m b + M' b) -> Stp H Hs M H' Hs' (fun b => m b + M' b) -> Rep K H' Hs' (.ref ea) x m -> RepS K H' Hs' σ δ' M' -> Ex ea H'
  | .stuck => False) : spX K fi.run vs H1 Q (fun v _ H' => ∃ ea, v = .ref ea /\ Ex ea H') := by
 unfold ZaQ T.M.bnd at q
 cases e2 : Zab fi.lend ps δ1 with
 | exc x y => exact absurd e2 (Zb9 _ _ _ _ _)
 | stuck => rw [e2] at q; exact q.elim
 | ok z =>
  obtain ⟨ds, δ2⟩ := z
  rw [e2] at q
  dsimp only at q
  obtain ⟨Hs2, m2, M2, g2, st2, q2, s2⟩ := ZbV (B := fun _ => 0) (g1.re fun b => by simp) s1 r1 e2
  have z0 := Zq (m1 := fun _ => 0) g (g1.re fun b => by simp) (st1.drop (fun b => by simp) g1.le) (g2.re fun b => by simp) (M1 := fun b => m1 b + M1 b) (M2 := fun b => m2 b + M2 b) (by
   have := st2
   exact ⟨fun b o h z => this.keep b o h (by simpa using z), fun b h => by have := this.own b (by simpa using h); simpa using this, this.grow, fun b h h' => by have := this.shr b h h'; simpa using this, this.stay⟩)
  have G2 : Good H1 Hs2 (fun b => M2 b + m2 b) := g2.re fun b => by simp; omega
  have S2 : Stp H Hs M H1 Hs2 (fun b => M2 b + m2 b) := z0.2.1.drop (fun b => by simp; omega) z0.1.le
  refine ⟨ds, Hs2, m2, G2.re fun b => by omega, q2, ?_⟩
  cases hF : fi.run ds with
  | stuck => rw [hF] at q; exact q.elim
  | ok r =>
   obtain ⟨d', ds'⟩ := r
   rw [hF] at q
   obtain ⟨δ3, e3⟩ := ZbJ ps ds' δ2
   dsimp only at q
   rw [e3] at q
   intro v H3 Hs3 n1 n2 g3 st3 r3 r4
   obtain ⟨G, S, k⟩ := Zq g G2 S2 g3 st3
   have s3 := RepS.frame st3.grow k s2
   have fin := Zbs s3 r4 (lates r1) e3
   exact q v H3 Hs3 n1 (fun b => n2 b + M2 b) (G.re fun b => by (try dsimp only); omega) (S.drop (fun b => by (try dsimp only); omega) G.le) r3 fin
  | exc x ds' =>
   rw [hF] at q
   obtain ⟨δ3, e3⟩ := ZbJ ps ds' δ2
   dsimp only at q
   rw [e3] at q
   intro ea H3 Hs3 n1 n2 g3 st3 r3 r4
   obtain ⟨G, S, k⟩ := Zq g G2 S2 g3 st3
   have s3 := RepS.frame st3.grow k s2
   have fin := Zbs s3 r4 (lates r1) e3
   exact ⟨ea, rfl, q ea H3 Hs3 n1 (fun b => n2 b + M2 b) (G.re fun b => by (try dsimp only); omega) (S.drop (fun b => by (try dsimp only); omega) G.le) r3 fin⟩
section
variable {a e c : Expr} {es : List Expr} {p : Pos} {x : Str} {n : Nat} {ps : List Str} {cs : M (List Op)}
theorem Zo0 (nx : NX cs) (G : FnAtX X.prog X.w X.K X.mg X.base x j ps (spX X.K fi.run)) (hr : Room n X.A) (ha : PA X (e :: es) (tPs X.K cs)) (hj : j <= n := by decide) (hz : glOk X.env.scope x = true := by kernel_rfl) (he : SE X e es := by rfl) (hpl : SFx X pos es := by rfl) :
 PEx X (.Call (.Name x p) (e :: es) [] pos) (tMX X.K (cs.bnd fun ps => ZaQ fi ps)) := by
 obtain ⟨f, fd, F, hm, hk, hb⟩ := G.ex
 refine PEx.imp (Zjz F (hr.mono hj) (glk hz) hm hk hb .nil ha (dbk hz) he hpl) fun σ H Q Ex z0 => ?_
 obtain ⟨δ, Hs, M, g, s, q⟩ := z0
 unfold T.M.bnd at q
 cases e1 : cs δ with
 | exc x y => exact absurd e1 (nx _ _ _)
 | stuck => rw [e1] at q; exact q.elim
 | ok z =>
  obtain ⟨ps, δ1⟩ := z
  rw [e1] at q
  refine ⟨δ, Hs, M, ps, δ1, g, s, e1, fun vs H1 Hs1 m1 M1 g1 st1 r1 s1 => ?_⟩
  show spX X.K fi.run (vs ++ []) H1 Q _
  rw [List.append_nil]
  exact Zfo g g1 st1 r1 s1 q
end
section
theorem ZjV (hN : X.N.Nodup) (hi : X.N[i]? = some x) (hx : Loc X.env.scope x) (he : PEx X e (tMX X.K c)) (hs : swapsWith e (some (.Name x pos')) pos.line X.env = pure false := by rfl)
 (hf : X.fn x = true \/ X.env.scope.names.lookup x = some .local := by first | exact .inl rfl | exact .inr rfl | assumption) :
 PX X (.Assign [.Name x pos'] e pos) (tX X.K lk (c.bnd fun d => (asgN lk i d).bnd fun _ => M.ret .nx)) := PX.imp (Znn hN hi hx he hs hf) fun E σ H z0 => by
 obtain ⟨δ, Hs, M, g, s, q⟩ := z0
 refine ⟨δ, Hs, M, g, s, ?_⟩
 unfold T.M.bnd at q
 cases e1 : c δ with
 | stuck => rw [e1] at q; exact q.elim
 | exc x δ' => rw [e1] at q; exact fun ea H' Hs' m M' g' st' r s' => q ea σ H' Hs' m M' (Keeps.refl _ _) g' st' r s'
 | ok z =>
  obtain ⟨d, δ1⟩ := z
  rw [e1] at q
  dsimp only at q ⊢
  cases e3 : asgN lk i d δ1 with
  | exc x y => exact absurd e3 (ZdG _ _ _ _ _ _)
  | stuck => rw [e3] at q; exact q.elim
  | ok z =>
   obtain ⟨u, δ2⟩ := z
   rw [e3] at q
   obtain ⟨h1, h2, rfl⟩ := Zc4 e3
   exact fun v H' Hs' m M' g' st' r s' => q _ H' Hs' _ (Za6 h2) g' st' (ZaT s' h1 r)
theorem ZiR (he : PEx X e (tMX X.K c)) (hs : swapsWith e none pos.line X.env = pure false := by rfl) : PX X (.Expr e pos) (tX X.K lk (c.bnd fun _ => M.ret .nx)) := PX.imp (Zlw he hs) fun E σ H z0 => by
 obtain ⟨δ, Hs, M, g, s, q⟩ := z0
 refine ⟨δ, Hs, M, g, s, ?_⟩
 unfold T.M.bnd at q
 cases e1 : c δ with
 | stuck => rw [e1] at q; exact q.elim
 | exc x δ' => rw [e1] at q; exact fun ea H' Hs' m M' g' st' r s' => q ea σ H' Hs' m M' (Keeps.refl _ _) g' st' r s'
 | ok z =>
  obtain ⟨d, δ1⟩ := z
  rw [e1] at q
  exact fun v H' Hs' m M' g' st' r s' => q σ H' Hs' M' (Keeps.refl _ _) g'.re (st'.drop (fun b => by omega) g'.le) s'
end
section
variable {e : Expr} {es : List Expr} {p : Pos} {i n : Nat} {x : Str} {ns : List Str} {C f : Addr} {ps : List Str} {cs : M (List Op)}
def Zo1 {K : Fg} {H'' : Hp} {M : Bud} {δ : List D} {a : Addr} {o : HO} (ha : H a = none) (g : Good H Hs M) (s : RepS K H Hs σ δ M) (k : Same (upd H a o) H'') :
 Good H'' Hs (fun b => one a b + M b) /\ Stp H Hs M H'' Hs (fun b => one a b + M b) /\ RepS K H'' Hs σ δ M /\ H'' a = some o /\ Same H H'' := by
 have k1 : Same H H'' := fun b u e => k b u (by rw [Zk (ZX e ha)]; exact e)
 have ka : H'' a = some o := k a o Zl
 have m0 : M a = 0 := by
  have := g.le a
  by_cases q : M a = 1
  . exact absurd ha (g.has a q)
  . omega
 have hs0 : Hs a = none := by
  cases e : Hs a with
  | none => rfl
  | some u => rw [g.sub a u e] at ha; cases ha
 have cs1 : ∀ b, one a b + M b = 1 -> b = a \/ M b = 1 := fun b h => by
  by_cases q : b = a
  . exact .inl q
  . simp only [one, if_neg q] at h; exact .inr (by omega)
 refine ⟨⟨fun b u e => k1 b u (g.sub b u e), fun b => ?_, fun b h => ?_, fun b h => ?_⟩, ⟨fun b u e _ => k1 b u e, fun b h => ?_, Same.refl _, fun b h h' => absurd h h', fun b h => ?_⟩, s.frame (Same.refl _) fun b _ hn => Zbv k1 b hn, ka, k1⟩
 . have := g.le b
   unfold one
   split
   . rename_i q; subst q; omega
   . omega
 . rcases cs1 b h with q | q
   . rw [q]; exact hs0
   . exact g.ne b q
 . rcases cs1 b h with q | q
   . rw [q, ka]; simp
   . rw [Zbv k1 b (g.has b q)]; exact g.has b q
 . rcases cs1 b h with q | q
   . exact .inr (by rw [q]; exact ha)
   . exact .inl q
 . rw [Zbv k1 b h]; exact h
theorem Zmg {K : Fg} {Q : VK} (xn : XN K ns C) (nx : NX cs) {E : EndX} (h : ∃ (δ : List D) (Hs : Hp) (M : Bud), Good H Hs M /\ RepS K H Hs σ δ M /\ Zan K lk E σ H Hs M (((cs.bnd fun ps => newX ns fi ps).bnd ZbS) δ)) :
 tPs K cs σ H fun vs H1 => vs.length <= sizeLine /\ ∀ x, H1 x = none -> spF K fi.run (.ref x :: vs) (upd H1 x (.exc C none true [])) (fun v H2 => v = .non /\ ∃ a C dx fs, V.ref x = .ref a /\ XC K C /\ H2 a = some (.exc C dx true fs) /\ ∀ H'', Same (upd H2 a (.exc C dx false fs)) H'' -> E.xc a σ H'') E0 := by
 obtain ⟨δ, Hs, M, g, s, q⟩ := h
 unfold T.M.bnd at q
 cases e1 : cs δ with
 | exc x y => exact absurd e1 (nx _ _ _)
 | stuck => rw [e1] at q; exact q.elim
 | ok z =>
  obtain ⟨ps, δ1⟩ := z
  rw [e1] at q
  dsimp only at q
  unfold newX at q
  by_cases hlen : 1000 < ps.length
  . rw [if_pos hlen] at q; exact q.elim
  rw [if_neg hlen] at q
  unfold T.M.bnd at q
  refine ⟨δ, Hs, M, ps, δ1, g, s, e1, fun vs H1 Hs1 m1 M1 g1 st1 r1 s1 => ?_⟩
  have hlv : vs.length = ps.length := by
   have : ∀ {vs : List V} {ps : List Op} {m : Bud}, ZaF K H1 Hs1 σ vs ps m -> vs.length = ps.length := by
    intro vs
    induction vs with
    | nil => intro ps m h; cases ps with
     | nil => rfl
     | cons _ _ => exact h.elim
    | cons v vs ih => intro ps m h; cases ps with
     | nil => exact h.elim
     | cons p ps => obtain ⟨a, b, c, d, _⟩ := h; rw [List.length_cons, List.length_cons, ih d]
   exact this r1
  refine ⟨by rw [hlv, sizeLine_eq]; omega, fun x hx => ?_⟩
  cases e2 : Zab fi.lend ps δ1 with
  | exc x y => exact absurd e2 (Zb9 _ _ _ _ _)
  | stuck => rw [e2] at q; exact q.elim
  | ok z =>
   obtain ⟨ds, δ2⟩ := z
   rw [e2] at q
   dsimp only at q
   obtain ⟨Hs2, m2, M2, g2, st2, q2, s2⟩ := ZbV (B := fun _ => 0) (g1.re fun b => by simp) s1 r1 e2
   have z0 := Zq (m1 := fun _ => 0) g (g1.re fun b => by simp) (st1.drop (fun b => by simp) g1.le) (g2.re fun b => by simp) (M1 := fun b => m1 b + M1 b) (M2 := fun b => m2 b + M2 b) (by
    have := st2
    exact ⟨fun b o h z => this.keep b o h (by simpa using z), fun b h => by have := this.own b (by simpa using h); simpa using this, this.grow, fun b h h' => by have := this.shr b h h'; simpa using this, this.stay⟩)
   have G2 : Good H1 Hs2 (fun b => m2 b + M2 b) := g2.re fun b => by simp
   have S2 : Stp H Hs M H1 Hs2 (fun b => m2 b + M2 b) := z0.2.1.drop (fun b => by simp) z0.1.le
   have full : RepS K H1 Hs2 (vs.map some ++ σ) (ds ++ δ2) (fun b => m2 b + M2 b) := Sep.append (RepL.slots q2) s2
   obtain ⟨G3, S3, R3, ka, k1⟩ := Zo1 (o := .exc C none true []) hx G2 full (Same.refl _)
   have q3 := q2.frame (H' := upd H1 x (.exc C none true [])) (Same.refl _) fun b _ hn => Zbv k1 b hn
   have s3 := s2.frame (H' := upd H1 x (.exc C none true [])) (Same.refl _) fun b _ hn => Zbv k1 b hn
   have S3' := Zq (m1 := fun _ => 0) g (G2.re fun b => by simp) (S2.drop (fun b => by simp) G2.le) G3 S3
   have SA : Stp H Hs M (upd H1 x (.exc C none true [])) Hs2 (fun b => M2 b + (one x b + m2 b)) := S3'.2.1.drop (fun b => by simp; omega) S3'.1.le
   have GA : Good (upd H1 x (.exc C none true [])) Hs2 (fun b => M2 b + (one x b + m2 b)) := G3.re fun b => by omega
   cases hF : fi.run (.node (.exc ns true []) true [] :: ds) with
   | exc x y => rw [hF] at q; exact q.elim
   | stuck => rw [hF] at q; exact q.elim
   | ok r =>
    obtain ⟨d', ds'⟩ := r
    rw [hF] at q
    match d', ds', q, hF with
    | .sc .non, dI :: ds', q, hF =>
     dsimp only at q
     obtain ⟨δ3, e3⟩ := ZbJ ps ds' δ2
     rw [e3] at q
     have q : Zan K lk E σ H Hs M (ZbS dI δ3) := q
     refine ⟨.node (.exc ns true []) true [] :: ds, Hs2, fun b => one x b + m2 b, .sc .non, dI :: ds', GA.re fun b => by omega, .cons (m1 := one x) (m2 := m2) (.own (vs := []) (m' := fun _ => 0) ⟨rfl, C, none, xn, ka⟩ (.nil _) fun b => by simp) q3 fun b => Nat.le_refl _, hF, fun v H4 Hs4 n1 n2 g4 st4 r4 r5 => ?_⟩
     cases r4
     refine ⟨rfl, ?_⟩
     obtain ⟨G, S, kk⟩ := Zq g GA SA g4 st4
     have s4 := RepS.frame st4.grow kk s3
     cases r5 with
     | @cons _ _ _ _ n3 n4 _ rI rd l5 =>
      have fin := Zbs s4 rd (lates r1) e3
      unfold ZbS at q
      split at q
      . rename_i nsI fsI dsI hqI
        cases rI with
        | @own a _ vsI _ _ mI n r lI =>
         obtain ⟨hl, C', dx', xn', hH⟩ := n
         refine ⟨x, C', dx', _, rfl, xn'.toXC, hH, fun H'' k => ?_⟩
         have hx4 : H4 x ≠ none := by rw [hH]; simp
         have k1' : ∀ b, b ≠ x -> H4 b ≠ none -> H'' b = H4 b := fun b hb hn => by
          have := Zbv k b (by rw [Zk hb]; exact hn)
          rw [this, Zk hb]
         have kx : H'' x = some (.exc C' dx' false (fsI.zip vsI)) := k x _ Zl
         have one_x : one x x = 1 := by simp [one]
         have le5 : ∀ b, (one x b + mI b) + (n4 b + M2 b) <= n1 b + (n2 b) + M2 b := fun b => by have := lI b; have := l5 b; omega
         have GG : Good H4 Hs4 (fun b => M2 b + (n1 b + n2 b)) := G
         have G5 : Good H4 Hs4 (fun b => (one x b + mI b) + (n4 b + M2 b)) := GG.re fun b => by have := le5 b; omega
         have S5 : Stp H Hs M H4 Hs4 (fun b => (one x b + mI b) + (n4 b + M2 b)) := S.drop (fun b => by have := le5 b; omega) GG.le
         have zx : mI x = 0 /\ n4 x = 0 /\ M2 x = 0 := by
          have : (one x x + mI x) + (n4 x + M2 x) <= 1 := G5.le x
          omega
         have up : ∀ b, H4 b ≠ none -> H'' b ≠ none := fun b hn => by
          by_cases hb : b = x
          . rw [hb, kx]; simp
          . rw [k1' b hb hn]; exact hn
         have hsx : Hs4 x = none := G5.ne x (by show (one x x + mI x) + (n4 x + M2 x) = 1; omega)
         have G6 : Good H'' Hs4 (fun b => (one x b + mI b) + (n4 b + M2 b)) := ⟨fun b o e => by
          have hb : b ≠ x := fun z => by rw [z, hsx] at e; cases e
          have e4 := G5.sub b o e
          rw [k1' b hb (by rw [e4]; simp)]; exact e4, G5.le, G5.ne, fun b h => up b (G5.has b h)⟩
         have S6 : Stp H Hs M H'' Hs4 (fun b => (one x b + mI b) + (n4 b + M2 b)) := ⟨fun b o e z => by
          have e4 := S5.keep b o e z
          have hb : b ≠ x := fun w => by
           rw [w] at e z
           rcases S5.own x (by show (one x x + mI x) + (n4 x + M2 x) = 1; omega) with t | t
           . omega
           . rw [e] at t; cases t
          rw [k1' b hb (by rw [e4]; simp)]; exact e4, S5.own, S5.grow, S5.shr, fun b h => up b (S5.stay b h)⟩
         refine q x σ H'' Hs4 (fun b => one x b + mI b) (fun b => n4 b + M2 b) (Keeps.refl _ _) G6 S6 (.own (vs := vsI) (m' := mI) ⟨hl, C', dx', xn', kx⟩ (r.frame (Same.refl _) fun b hb hn => k1' b (fun w => by rw [w] at hb; omega) hn) fun b => Nat.le_refl _) (fin.frame (Same.refl _) fun b hb hn => k1' b (fun w => by rw [w] at hb; (try dsimp only at hb); omega) hn)
      . exact q.elim
    | .sc .non, [], q, hF => exact q.elim
    | .sc (.bl _), _, q, hF => exact q.elim
    | .sc (.int _), _, q, hF => exact q.elim
    | .sc (.str _), _, q, hF => exact q.elim
    | .sc (.byt _), _, q, hF => exact q.elim
    | .sc (.flt _), _, q, hF => exact q.elim
    | .sc (.ref _), _, q, hF => exact q.elim
    | .sc (.ty _), _, q, hF => exact q.elim
    | .hole, _, q, hF => exact q.elim
    | .node _ _ _, _, q, hF => exact q.elim
structure XMk (P : Program) (w : World) (K : Fg) (mg : SO) (base : Heap) (x : Str) (ns : List Str) (k : Nat) (ps : List Str) (sp : Sp) : Prop where
 ex : ∃ (C f : Addr) (fd : FuncData), XN K ns C /\ PySem.W.findIn K (.ref C) (Str.ofString "__init__") = some (some (.ref f)) /\ PySem.W.typeIn K (.ref f) = some (.type "function") /\ FnOk P w K mg base CX0 k f fd ps sp /\ mg x = some (.ref C) /\ Binds K fd ps []
def ZcQ (hc : X.calm = true) (nx : NX cs) (G : XMk X.prog X.w X.K X.mg X.base x ns j ps (spF X.K fi.run)) (hr : Room n X.A) (ha : PA X (e :: es) (tPs X.K cs)) (hj : j + 1 <= n := by decide) (hz : glOk X.env.scope x = true := by kernel_rfl) (he : SE X e es := by rfl) (hpl : (backTo pos' (starEach es X.env)).any (·.1) = false := by rfl) :
 PX X (.Raise (some (.Call (.Name x p) (e :: es) [] pos')) none pos) (tX X.K lk ((cs.bnd fun ps => newX ns fi ps).bnd ZbS)) := by
 obtain ⟨C, f, fd, xn, hi, hf, F, hm, hb⟩ := G.ex
 refine PX.imp (Zj5 hc (Zly xn.toXC hi hf F (hr.mono hj) (glk hz) hm hb .nil ha (dbk hz) he hpl)) fun E σ H h => ?_
 obtain ⟨δ, Hs, M, aa, δ', g, s, e, q⟩ := Zmg (Q := fun _ _ => True) xn nx h
 refine ⟨δ, Hs, M, aa, δ', g, s, e, fun vs H' Hs' m M' g' st r s' => ?_⟩
 obtain ⟨l, q⟩ := q vs H' Hs' m M' g' st r s'
 refine ⟨l, fun x hx => ?_⟩
 have := q x hx
 rw [List.append_nil]
 exact this
end
end T
namespace L2
open PySem PySem.Spec PyProof.Rows
section
def Zrk (K : Fg) (ta : TE) (f : Str) : TE := fun σ H Q => ta σ H fun x H1 => ∃ a C dx fr fs v, x = .ref a /\ H1 a = some (.exc C dx fr fs) /\ XD K C /\ ZJ K C f /\ fs.lookup f = some v /\ Q v H1
def Zmh (he : PE X e ta) (hb : attributeBase e f X.env (eval e X.env) = eval e X.env) : PE X (.Attribute e f pos) (Zrk X.K ta f) := by
 intro pins s σ H Q I h
 refine Zha hb (thn (he pins s σ H _ I h) fun u s1 z0 => ?_)
 obtain ⟨x, H1, I1, rx, a, C, dx, fr, fs, v, ex, ea, c, n, l, q⟩ := z0
 subst ex
 obtain rfl : u = Value.ref a := rx
 exact ZgJ I1 ea c n l fun u' s2 I2 ru => ⟨v, H1, I2, ru, q⟩
def Zrl (K : Fg) (ta tv : TE) (f : Str) : TS := fun D σ H => tv σ H fun y H1 => ta σ H1 fun x H2 => ∃ a C dx fr fs, x = .ref a /\ H2 a = some (.exc C dx fr fs) /\ XC K C /\ ZJ K C f /\ fs.length < 1000 /\
 ∀ H' d', H' a = some (.exc C (some d') fr (putF f y fs)) -> (∀ b o, b ≠ a -> H2 b = some o -> H' b = some o) -> D.nx σ H'
def Zmi (ha : PE X o ta) (hv : PE X value tv) (hs : swapsWith value (some (.Attribute o f pos')) pos.line X.env = pure false) : PS X (.Assign [.Attribute o f pos'] value pos) (Zrl X.K ta tv f) := by
 intro pins s σ H D I h
 refine plainObj_wpAny_Assign_Attribute (thn (hv pins s σ H _ I h) fun u s1 ⟨y, H1, I1, ry, q⟩ => thn (ha pins s1 σ H1 _ I1 q) fun ov s2 ⟨x, H2, I2, rx, a, C, dx, fr, fs, ex, ea, c, n, l, q2⟩ => ?_) hs
 subst ex
 obtain rfl : ov = Value.ref a := rx
 exact ZgK I2 ea c n l ry fun s3 H' d' h1 h2 I3 => ⟨σ, _, I3, q2 H' d' h1 h2⟩
theorem Zfp (cv : V) (cu : Value) (rc : RelV cv cu) (huniq : ∀ u, RelV cv u -> u = cu) : ZI X (.builtin "isinstance") (fun xs H Q => ∃ a C dx fr fs b, xs = [.ref a, cv] /\ XD X.K C /\ H a = some (.exc C dx fr fs) /\ PySem.W.kitOne X.K (.ref C) cu = some b /\ Q (.bl b) H) := by
 intro pins s σ H xs us Q I r h
 obtain ⟨a, C, dx, fr, fs, b, ex, xd, ea, k, q⟩ := h
 subst ex
 cases r with
 | @cons _ u1 _ _ r1 r2 =>
  cases r2 with
  | @cons _ u2 _ _ r2 r3 =>
   cases r3
   obtain rfl := huniq _ r2
   obtain rfl : u1 = Value.ref a := r1
   exact ZhL I ea xd k fun tk => ⟨.bl b, H, I.tok tk, rfl, q⟩
end
end L2
namespace T
open PySem PySem.Spec L2
section
variable {X : Cx} {a o e c : Expr} {es : List Expr} {body suite : List Stmt} {b₀ : Stmt} {pos pos' p apos np hp : Pos} {lk : Nat -> Bool} {i j n : Nat} {x nm cn f : Str} {ca : M Op} {cs : M (List Op)}
theorem Zmj (F : Fr0 X X.A) (hx : ∀ e s, ¬ X.xe e s) (hb : PXs X body (tX X.K lk cb)) (hs : ∀ v, PSs (X.inH v) (b₀ :: suite) (tS X.K lk csu)) (hg : Gl X cn) (hm : X.mg cn = some (.ref D')) (xc : XC X.K D') (gx : GX X.K cn D') (hdb : (cn == ("__debug__" : Str)) = false)
 (hN : X.N.Nodup) (hi : X.N[i]? = some nm) (hl : X.env.scope.names.lookup nm = some .local) :
 PX X (.Try body [.ExceptHandler (some (.Name cn np)) (some nm) (b₀ :: suite) hp] [] [] pos) (tX X.K lk (tryM lk cb cn (some i) csu)) :=
 PX.imp (Znr F hx hb (.cons (.as_ hg hm xc gx hdb hN hi hl hs) .nil)) fun E σ H z0 => by
 obtain ⟨δ, Hs, M, g, s, q⟩ := z0
 refine ⟨δ, Hs, M, g, s, ?_⟩
 unfold tryM at q
 cases e1 : cb δ with
 | ok z => rw [e1] at q; exact q
 | stuck => rw [e1] at q; exact q.elim
 | exc xd δ' =>
  rw [e1] at q
  dsimp only at q
  intro ea σ' H' Hs' m M' k' g' st' r s'
  by_cases hh : hits cn xd = true
  . rw [if_pos hh] at q
    unfold hits at hh
    split at hh
    . rename_i ns fs ds
      have hc : cn ∈ ns := of_decide_eq_true hh
      cases r with
      | @own _ _ vs _ _ m' nd rl lm =>
       obtain ⟨hl', C, dx, xn, hH⟩ := nd
       refine ⟨C, dx, _, ns, xn, hH, ?_⟩
       unfold Zci
       rw [if_pos hc]
       by_cases hi' : (decide (i < δ'.length) && !lk i) = true
       . rw [if_pos hi'] at q
         simp only [Bool.and_eq_true, decide_eq_true_eq, Bool.not_eq_true'] at hi'
         have rx : Rep X.K H' Hs' (.ref ea) (.node (.exc ns false fs) true ds) m := .own ⟨hl', C, dx, xn, hH⟩ rl lm
         have s2 := ZaT s' hi'.1 rx
         cases e2 : csu (δ'.set i (.node (.exc ns false fs) true ds)) with
         | exc y z => rw [e2] at q; exact q.elim
         | stuck => rw [e2] at q; exact q.elim
         | ok z =>
          obtain ⟨fl, δ2⟩ := z
          rw [e2] at q
          have q : Post X.K lk E.toEnds σ H Hs M fl (δ2.set i .hole) := q
          have q2 := Post.ahead k' g g' st' q
          refine ⟨_, Hs', _, fl, δ2, g', s2, e2, ?_⟩
          have hole : ∀ {σ2 : St} {H2 Hs2 : Hp} {M2 : Bud}, RepS X.K H2 Hs2 σ2 δ2 M2 -> RepS X.K H2 Hs2 (σ2.set i none) (δ2.set i .hole) M2 := fun {σ2 H2 Hs2 M2} r2 => by
           by_cases hlt : i < δ2.length
           . obtain ⟨o, m1, m2, z1, z2, z3, ff⟩ := r2.focus (List.getElem?_eq_getElem hlt)
             exact (ff (RepO X.K H2 Hs2) none .hole (fun _ => 0) (fun a d m' _ q => q) (.inl rfl)).mono fun b => by have := z3 b; (try dsimp only); omega
           . have hlσ := r2.length
             rw [List.set_eq_of_length_le (by omega), List.set_eq_of_length_le (by omega)]
             exact r2
          have kp : ∀ {σ2 : St}, Keeps lk (σ'.set i (some (.ref ea))) σ2 -> Keeps lk σ' (σ2.set i none) := fun k2 => (Za6 hi'.2).trans (k2.trans (Za6 hi'.2))
          cases fl with
          | nx => exact fun σ2 H2 Hs2 M2 k2 g2 st2 r2 => q2 _ H2 Hs2 M2 (kp k2) g2 st2 (hole r2)
          | bk => exact fun σ2 H2 Hs2 M2 k2 g2 st2 r2 => q2 _ H2 Hs2 M2 (kp k2) g2 st2 (hole r2)
          | ct => exact fun σ2 H2 Hs2 M2 k2 g2 st2 r2 => q2 _ H2 Hs2 M2 (kp k2) g2 st2 (hole r2)
          | rt d => exact fun v σ2 H2 Hs2 m2 M2 k2 g2 st2 rv r2 => q2 v _ H2 Hs2 m2 M2 (kp k2) g2 st2 rv (hole r2)
       . rw [if_neg hi'] at q; exact q.elim
    . cases hh
  . rw [if_neg hh] at q; exact q.elim
def Zgo (ho : PE X o (tVar i)) (hv : PE X value (tM X.K cv)) (hs : swapsWith value (some (.Attribute o f pos')) pos.line X.env = pure false := by rfl) :
 PS X (.Assign [.Attribute o f pos'] value pos) (tS X.K lk (cv.bnd fun d => (ZK i).bnd fun _ => (modS i (putX f d)).bnd fun _ => M.ret .nx)) := PS.imp (Zmi ho hv hs) fun E σ H h => by
 obtain ⟨δ, Hs, M, fl, δ', g, s, ea, q⟩ := h
 obtain ⟨d, δ1, e1, eb⟩ := Zb ea
 obtain ⟨p0, δ2, e2, ec⟩ := Zb eb
 obtain ⟨r0, δ3, e3, ed⟩ := Zb ec
 have := Zg ed
 cases this
 obtain ⟨kk, ds0, k', ds', hi, hff, rfl⟩ := ZdC e3
 refine ⟨δ, Hs, M, d, δ1, g, s, e1, fun v H1 Hs1 m1 M1 g1 st1 r1 s1 => ?_⟩
 obtain ⟨rfl, vo, hvo⟩ := ZeJ s1 e2
 obtain ⟨p1, us, m', n2, e8, nn, rl, le, fin⟩ := modL g1 s1 hi
 rw [hvo] at e8
 cases e8
 refine ⟨_, hvo, ?_⟩
 unfold putX at hff
 split at hff
 . rename_i ds ns fr fs
   split at hff
   . rename_i hc
     cases hff
     obtain ⟨hl, C, dx, xn, hH⟩ := nn
     obtain ⟨z1, z2⟩ := ZdZ f v fs us hl
     refine ⟨p1, C, dx, fr, fs.zip us, rfl, hH, xn.toXC, xn.nof f hc.2, ?_, fun H' d' h1 h2 => ?_⟩
     . rw [List.length_zip, hl, Nat.min_self]
       rw [<- hl]
       exact hc.1
     . obtain ⟨G, S, R, SS⟩ := fin (.exc C (some d') fr (putF f v (fs.zip us))) (.exc ns fr (putN f fs)) (T.putV f v fs us) (T.putV f d fs ds0) (fun b => m' b + m1 b) (fun _ => 0) .non (.sc .non) (fun b => by (try dsimp only); omega) ⟨z2, C, some d', xn, by rw [Zl, z1]⟩ (rl.putV f r1 hl) (.sc _ _)
       have z := Zq (m1 := fun _ => 0) g (g1.re fun b => by simp) (st1.drop (fun b => by simp) g1.le) G S
       have k : Same (upd H1 p1 (.exc C (some d') fr (putF f v (fs.zip us)))) H' := fun b o eb => by
        by_cases hb : b = p1
        . subst hb
          rw [Zl] at eb
          cases eb
          exact h1
        . rw [Zk hb] at eb
          exact h2 b o hb eb
       exact q σ _ Hs1 _ (Keeps.refl _ _) ((G.re fun b => by (try dsimp only); omega).up k) (((z.2.1.drop (fun b => by simp) z.1.le).drop (fun b => by (try dsimp only); omega) G.le).up k) (SS.frame (Same.refl _) fun b _ hn => Zbv k b hn)
   . cases hff
 . cases hff
def arg1 {K : Fg} {f : BF} {σ : St} {H : Hp} {Q : VK} (h : tM K ((ca.bnd fun p => (M.ret ([] : List Op)).bnd fun ps => M.ret (p :: ps)).bnd fun ps => (views ps).bnd fun ws => lift (bfW f ws)) σ H Q) : tM K ((ca.bnd view).bnd fun w => lift (bfW f [w])) σ H Q := by
 obtain ⟨δ, Hs, M, d, δ', g, s, e, q⟩ := h
 refine ⟨δ, Hs, M, d, δ', g, s, ?_, q⟩
 obtain ⟨ps, δ1, e1, e⟩ := Zb e
 obtain ⟨pp, δ2, e2, e3⟩ := Zb e1
 obtain ⟨z, δ3, e4, e5⟩ := Zb e3
 have := Zg e4
 cases this
 have := Zg e5
 cases this
 obtain ⟨ws, δ4, e6, e⟩ := Zb e
 obtain ⟨w, δ5, e7, e8⟩ := Zb e6
 obtain ⟨z, δ6, e9, e10⟩ := Zb e8
 have := Zg e9
 cases this
 have := Zg e10
 cases this
 show T.M.bnd (ca.bnd view) _ δ = _
 unfold T.M.bnd
 rw [e2]
 dsimp only
 rw [e7]
 exact e
def Zmk (ha : PE X a (tP X.K ca)) (hb : attributeBase a f X.env (eval a X.env) = eval a X.env := by rfl) :
 PE X (.Attribute a f pos) (tM X.K ((ca.bnd fun p => (M.ret ([] : List Op)).bnd fun ps => M.ret (p :: ps)).bnd fun ps => (views ps).bnd fun ws => lift (bfW (.xfld f) ws))) :=
 PE.imp (Zmh ha hb) fun σ H Q h => by
  have h2 := arg1 h
  refine op1 (r := fun x H1 Q => ∃ a C dx fr fs v, x = .ref a /\ H1 a = some (.exc C dx fr fs) /\ XD X.K C /\ ZJ X.K C f /\ fs.lookup f = some v /\ Q v H1) h2 fun x H Hs w m d g h1 h2 v e o => ?_
  replace e : ZhV f [w] = some d := e
  unfold ZhV at e
  split at e
  . rename_i ns fr fs ds hw
    cases hw
    split at e
    . rename_i hf
      cases v with
      | nd n r =>
       obtain ⟨hl, C, dx, xn, n⟩ := n
       obtain ⟨z, m1, e1, rz, l⟩ := ZeI r hl e
       exact ⟨_, C, dx, _, _, z, rfl, n, xn.toXD, xn.nof f hf, e1, o.part h1 h2 l rz⟩
    . cases e
  . cases e
end
section
def Zml (gx : GX X.K cn D') (ht : PySem.W.typeIn X.K (.ref D') = some (.type "type")) (hg : Gl X "isinstance") (hm : X.mg "isinstance" = none) (ha : PE X a (tP X.K ca)) (hc : PE X c (tC (.ref D'))) (hs : starEach [a, c] X.env = [(false, eval a X.env), (false, eval c X.env)] := by rfl)
 (hs1 : starEach [c] X.env = [(false, eval c X.env)] := by rfl) :
 PE X (.Call (.Name "isinstance" p) [a, c] [] pos) (tM X.K ((ca.bnd fun p => (M.ret ([] : List Op)).bnd fun ps => M.ret (p :: ps)).bnd fun ps => (views ps).bnd fun ws => lift (bfW (.isiX cn) ws))) :=
 PE.imp (ZcI (Zfp (.ref D') (.ref D') rfl fun u h => h) hg hm ZbR (Zaf ha (Zaf hc ZaX (by show _ = _; rw [hs1]; rfl)) (by show _ = _; rw [hs, hs1])) (by decide) (by decide) (by show _ = _; rw [hs, hs1]) (by show _ = _; rw [hs1]; rfl)) fun σ H Q h => by
  refine op1 (r := fun x H1 Q => ∃ a C dx fr fs b, [x, V.ref D'] = [V.ref a, V.ref D'] /\ XD X.K C /\ H1 a = some (.exc C dx fr fs) /\ PySem.W.kitOne X.K (.ref C) (.ref D') = some b /\ Q (.bl b) H1) (arg1 h) fun x H Hs w m d g h1 h2 v e o => ?_
  replace e : ZhT cn [w] = some d := e
  unfold ZhT at e
  split at e
  . rename_i ns fr fs ds hw
    cases hw
    cases e
    cases v with
    | nd n r =>
     obtain ⟨hl, C, dx, xn, n⟩ := n
     exact ⟨_, C, dx, _, _, _, rfl, xn.toXD, n, xn.isa gx ht, o.sc⟩
  . cases e
def Zmm : PySem.W.kitMeta "ValueError" = true := by decide +kernel
def Zo2 : bmV.contains (.type "ValueError") = true := by decide +kernel
def Zmn (hg : Gl X "isinstance") (hm : X.mg "isinstance" = none) (ha : PE X a (tP X.K ca)) (hc : PE X c (tC (.ty "ValueError"))) (hs : starEach [a, c] X.env = [(false, eval a X.env), (false, eval c X.env)] := by rfl)
 (hs1 : starEach [c] X.env = [(false, eval c X.env)] := by rfl) :
 PE X (.Call (.Name "isinstance" p) [a, c] [] pos) (tM X.K ((ca.bnd fun p => (M.ret ([] : List Op)).bnd fun ps => M.ret (p :: ps)).bnd fun ps => (views ps).bnd fun ws => lift (bfW .isiV ws))) :=
 PE.imp (ZcI (Zfp (.ty "ValueError") (.type "ValueError") rfl fun u h => h) hg hm ZbR (Zaf ha (Zaf hc ZaX (by show _ = _; rw [hs1]; rfl)) (by show _ = _; rw [hs, hs1])) (by decide) (by decide) (by show _ = _; rw [hs, hs1]) (by show _ = _; rw [hs1]; rfl)) fun σ H Q h => by
  refine op1 (r := fun x H1 Q => ∃ a C dx fr fs b, [x, V.ty "ValueError"] = [V.ref a, V.ty "ValueError"] /\ XD X.K C /\ H1 a = some (.exc C dx fr fs) /\ PySem.W.kitOne X.K (.ref C) (.type "ValueError") = some b /\ Q (.bl b) H1) (arg1 h) fun x H Hs w m d g h1 h2 v e o => ?_
  replace e : ZhU [w] = some d := e
  unfold ZhU at e
  split at e
  . rename_i ns fr fs ds hw
    cases hw
    cases e
    cases v with
    | nd n r =>
     obtain ⟨hl, C, dx, xn, n⟩ := n
     exact ⟨_, C, dx, _, _, _, rfl, xn.toXD, n, xn.isaB Zo2 Zmm, o.sc⟩
  . cases e
def Zgp (M1 : XI X.K L) (hg : Gl X x) (hm : X.mg x = some (.ref L)) (ha : PA X (e :: es) (tPs X.K cs)) (hdb : (x == ("__debug__" : Str)) = false := by decide)
 (hst : SE X e es := by rfl) (hpl : SFx X pos es := by rfl)
 (ht : eval (.Call (.Attribute (.Name x p) "__init__" apos) (e :: es) [] pos) X.env = (do
  let ov <- eval (.Name x p) X.env
  standAt apos.atName
  let (f, first) <- holding [ov] (getMethod ov "__init__" pl)
  callWith pos f first (backTo pos (starEach (e :: es) X.env)) (backToKw pos (keywordEach [] X.env))) := by rfl) :
 PE X (.Call (.Attribute (.Name x p) "__init__" apos) (e :: es) [] pos) (tM X.K (cs.bnd fun ps => (views ps).bnd fun ws => lift (bfW .xinit ws))) :=
 PE.imp (Zj4 (pl := pl) M1 hg hm ha hdb hst hpl ht) fun σ H Q h => by
  obtain ⟨δ, Hs, M, ps, δ', g, s, e, q⟩ := opN h
  refine ⟨δ, Hs, M, ps, δ', g, s, e, fun vs H' Hs' m M' g' st r s' => ?_⟩
  obtain ⟨Hs2, ws, m2, d, hs, h1, h2, v, e2, o⟩ := q vs H' Hs' m M' g' st r s'
  replace e2 : ZfL ws = some d := e2
  unfold ZfL at e2
  split at e2
  . rename_i ns fr fs ds u
    cases e2
    obtain ⟨y, y', m1, m3, rfl, v1, v2, l⟩ := v.two
    cases v1 with
    | nd n r =>
     obtain ⟨hl, C, dx, xn, n⟩ := n
     exact ⟨_, y', C, dx, _, _, rfl, xn.toXC, n, o.sc⟩
  . cases e2
end
end T
namespace L2
open PySem PySem.Spec PyProof.Rows
section
variable {K : Fg} {n : Str} {C L : Addr} {q qL : Str} {N NL : Addr} {bs bsL : List Value} {sn snL : List Str} {sub subL : List Value} {ab abL : Bool} {col colL : Option Bool} {dd ddL : Option Addr} {k0 k1 k2 k3 k5 l0 l1 l2 l3 l5 : Option Value}
def ZkM (lk : K.lookup C = some (excClassObj n q C N bs bm true sn sub ab col dd k0 k1 k2 k3 k5 "ValueError.__new__")) (tl : PySem.W.tailIn K bmV bm = true) (tv : Zbw bm = true)
 (sa : PySem.W.findIn K (.ref C) (Str.ofString "__setattr__") = some (some (.builtin "object.__setattr__"))) (ga : PySem.W.findIn K (.ref C) (Str.ofString "__getattribute__") = some (some (.builtin "BaseException.__getattribute__"))) (kp : PySem.W.keepIn K (.ref C) = true) : XC K C :=
 ⟨⟨n, q, N, bs, bm, sn, sub, ab, col, dd, k0, k1, k2, k3, k5, lk, tl, tv⟩, sa, ga, kp⟩
noncomputable def Zgq (e : DictEntry) : Bool := match e.key with
 | .str _ _ => true
 | _ => false
def ZkN : PySem.W.tailIn K bmV bmV = true := by
 unfold PySem.W.tailIn bmV
 simp
def Zrm (lL : K.lookup L = some (excClassObj "LabelError" qL L NL bsL bmV true snL subL abL colL ddL l0 l1 l2 l3 l5 "ValueError.__new__")) (ln : K.lookup NL = some ⟨oc, od, .dict es ep, sl⟩) (he : es.all Zgq = true)
 (hi : PySem.W.nsIn K NL (Str.ofString "__init__") = some none) : PySem.W.tailIn K bmV (.ref L :: bmV) = true := by
 unfold PySem.W.tailIn
 dsimp only
 rw [lL]
 have ok : PySem.W.nsOkIn K NL = true := by
  unfold PySem.W.nsOkIn
  rw [ln]
  exact he
 show ((_ :: _ == bmV) || (PySem.W.nsOkIn K NL && PySem.W.nsIn K NL (Str.ofString "__init__") == some none && PySem.W.tailIn K bmV bmV)) = true
 rw [ok, hi, ZkN]
 simp
def Zie (x : PySem.W.nsIn K mainGlobals n = some (some (.ref C))) (lk : K.lookup C = some (excClassObj n q C N bs bm true sn sub ab col dd k0 k1 k2 k3 k5 "ValueError.__new__")) : GX K n C := ⟨x, by unfold PySem.W.clsIn; rw [lk]; rfl⟩
def Zrn (lk : K.lookup C = some (excClassObj n q C N bs bm true sn sub ab col dd k0 k1 k2 k3 k5 "ValueError.__new__")) : PySem.W.typeIn K (.ref C) = some (.type "type") := by
 show Option.map (fun x => x.cls) (List.lookup C K) = _
 rw [lk]
 rfl
def Zro (x : PySem.W.nsIn K mainGlobals n = some (some (.ref C))) (lk : K.lookup C = some (excClassObj n q C N bs (.ref L :: bmV) true sn sub ab col dd k0 k1 k2 k3 k5 "ValueError.__new__"))
 (gL : GX K "LabelError" L) (tl : PySem.W.tailIn K bmV (.ref L :: bmV) = true)
 (sa : PySem.W.findIn K (.ref C) (Str.ofString "__setattr__") = some (some (.builtin "object.__setattr__"))) (ga : PySem.W.findIn K (.ref C) (Str.ofString "__getattribute__") = some (some (.builtin "BaseException.__getattribute__"))) (kp : PySem.W.keepIn K (.ref C) = true)
 (hk : PySem.W.findIn K (.ref C) (Str.ofString "__getattr__") = some none) (hc : PySem.W.findIn K (.ref C) "__class__" = some (some (.builtin "object.__class__")))
 (hn : PySem.W.specialIn K (.builtin "object.__class__") "__get__" = some (some (.builtin "getset_descriptor.__get__"))) (ht : PySem.W.takesIn K (.builtin "object.__class__") = some true)
 (n1 : PySem.W.findIn K (.ref C) "row" = some none) (n2 : PySem.W.findIn K (.ref C) "number" = some none) (n3 : PySem.W.findIn K (.ref C) "length" = some none) (n4 : PySem.W.findIn K (.ref C) "numbers" = some none) : XN K [n, "LabelError"] C :=
 ⟨⟨ZkM lk tl (show Zbw bmV = true by decide +kernel) sa ga kp, hk, hc, hn, ht⟩, ⟨_, by unfold PySem.W.clsIn; rw [lk], C, _, rfl, Zie x lk, L, _, rfl, gL, rfl⟩, fun f hf => by
   simp only [ZdA, List.mem_cons, List.not_mem_nil, or_false] at hf
   rcases hf with rfl | rfl | rfl | rfl
   . exact n1
   . exact n2
   . exact n3
   . exact n4⟩
end
end L2
namespace T
open PySem PySem.Spec L2
variable {st : Stmt} {X : Cx} {oc doc pm cdv : Value} {od an : Option Addr} {osl sl : Array (Option Value)} {nN : Nat} {pos : Pos} {lk : Nat -> Bool} {L : Addr}
section
def ZjW (h : Zv sc N i x b = true) (nd : N.Nodup) (he : PEx X e (tMX X.K c)) (hs : swapsWith e (some (.Name x pos')) pos.line X.env = pure false := by rfl) (e1 : X.env.scope = sc := by rfl) (e2 : X.N = N := by rfl)
 (hf : X.fn x = true \/ b = false := by first | exact .inl rfl | exact .inr rfl) : PX X (.Assign [.Name x pos'] e pos) (tX X.K lk (c.bnd fun d => (asgN lk i d).bnd fun _ => M.ret .nx)) := by
 obtain ⟨h1, h2, h3, h4⟩ := Zv.at h
 have l := Zv.loc h
 subst e1 e2
 refine ZjV nd h1 l he hs ?_
 rcases hf with q | q
 . exact .inl q
 . subst q
   exact .inr h2
def ZjX (F : Fr0 X X.A) (hx : ∀ e s, ¬ X.xe e s) (h : Zv sc N i x false = true) (nd : N.Nodup) (hb : PXs X body (tX X.K lk cb)) (hs : ∀ v, PSs (X.inH v) (b₀ :: suite) (tS X.K lk csu)) (hg : Gl X cn) (hm : X.mg cn = some (.ref D')) (xc : XC X.K D') (gx : GX X.K cn D') (hdb : (cn == ("__debug__" : Str)) = false)
 (e1 : X.env.scope = sc := by rfl) (e2 : X.N = N := by rfl) :
 PX X (.Try body [.ExceptHandler (some (.Name cn np)) (some x) (b₀ :: suite) hp] [] [] pos) (tX X.K lk (tryM lk cb cn (some i) csu)) := by
 obtain ⟨h1, h2, h3, h4⟩ := Zv.at h
 subst e1 e2
 exact Zmj F hx hb hs hg hm xc gx hdb nd h1 h2
def Zgr : bootBuiltins "ValueError" = some (.type "ValueError") := by decide +kernel
end
section
def Zo3 (C : Ctx) (i : Nat) (f : FI) (es : List E) : ex C (.asgX i f es) = (((opds C es).bnd fun ps => ZaQ f ps).bnd fun d => (asgN C.lock i d).bnd fun _ => M.ret .nx) := (rfl)
def Zrp (C : Ctx) (f : FI) (es : List E) : ex C (.exX f es) = (((opds C es).bnd fun ps => ZaQ f ps).bnd fun _ => M.ret .nx) := (rfl)
def ZjY (C : Ctx) (ns : List Str) (f : FI) (es : List E) : ex C (.raiseI ns f es) = (((opds C es).bnd fun ps => newX ns f ps).bnd ZbS) := (rfl)
def Zo4 (ns : List Str) (fs : List Str) (ds δ : List D) : ZbS (α := Fl) (.node (.exc ns true fs) true ds) δ = .exc (.node (.exc ns false fs) true ds) δ := (rfl)
def Zmo (C : Ctx) (i : Nat) (f : Str) (e : E) : ex C (.attrX i f e) = ((evb C e).1.bnd fun d => (ZK i).bnd fun _ => (modS i (putX f d)).bnd fun _ => M.ret .nx) := (rfl)
def Zo5 (C : Ctx) (tg : Tg) (ik : IK) (ies : List E) (body : List S) : ex C (.forX tg ik ies body) = ((opds C ies).bnd fun ps => (Zw ps).bnd fun h => (lift (itW ik h.1)).bnd fun items δ => finB h.2 (forL (asgT (fun j => C.lock j || walked ies j) tg) (exs { C with lock := fun j => C.lock j || walked ies j } body) items δ)) := (rfl)
noncomputable def cxR (ps : List Op) (δ : List D) : Rs (D × List D) -> Rs (D × List D)
 | .ok (d, ds') => ((Z4 ps ds').bnd fun _ => M.ret d) δ
 | .exc x ds' => (match Z4 ps ds' δ with
  | .ok (_, δ') => .exc x δ'
  | _ => .stuck)
 | .stuck => .stuck
theorem Zo6 : ZaQ fi ps = (Zab fi.lend ps).bnd fun ds δ => cxR ps δ (fi.run ds) := by
 unfold ZaQ cxR
 congr 1
 funext ds δ
 cases fi.run ds with
 | ok r => obtain ⟨d, ds'⟩ := r; rfl
 | exc x y => rfl
 | stuck => rfl
def Zo7 : cxR ps δ (.ok (d, ds')) = ((Z4 ps ds').bnd fun _ => M.ret d) δ := (rfl)
def ZjZ (f : α -> M β) (x : D) (δ : List D) : bndR f (.exc x δ) = .exc x δ := (rfl)
def Zka (r : M Fl) (x : D) (δ : List D) : seqR r (.exc x δ) = .exc x δ := (rfl)
def Zkb (asg : D -> M Unit) (body : M Fl) (ds : List D) (x : D) (δ : List D) : forR asg body ds (.exc x δ) = .exc x δ := (rfl)
def endX : Zbb n (.exc x δ) = .exc x (δ.take n) := (rfl)
noncomputable def nxR (ps : List Op) (δ : List D) : Rs (D × List D) -> Rs (D × List D)
 | .ok (.sc .non, d :: ds') => ((Z4 ps ds').bnd fun _ => M.ret d) δ
 | _ => .stuck
theorem Zf4 (h : ¬ 1000 < ps.length) : newX ns fi ps = (Zab fi.lend ps).bnd fun ds δ => nxR ps δ (fi.run (.node (.exc ns true []) true [] :: ds)) := by
 unfold newX nxR
 rw [if_neg h]
 congr 1
 funext ds δ
 cases fi.run (.node (.exc ns true []) true [] :: ds) with
 | ok r =>
  obtain ⟨d, ds'⟩ := r
  cases d with
  | sc v => cases v <;> cases ds' <;> rfl
  | _ => rfl
 | exc x y => rfl
 | stuck => rfl
def Zo8 : nxR ps δ (.ok (.sc .non, d :: ds')) = ((Z4 ps ds').bnd fun _ => M.ret d) δ := (rfl)
def Zmp (h : List (Nat × D)) (f : Fl) (δ : List D) : finB h (.ok (f, δ)) = ((Z8 h).bnd fun _ => M.ret f) δ := (rfl)
def ZiS (i : Nat) (d x : D) (δ : List D) : finB [(i, d)] (.exc x δ) = .exc x (δ.set i d) := (rfl)
def Zrq (ns : List Str) (fr : Bool) (fs : List Str) (ds : List D) (v : V) : bfW .xinit [.nd (.exc ns fr fs) ds, .sc v] = some (.sc .non) := (rfl)
end
section
variable {e k v : Expr}
def Zkc (hk : PE X k (tC (kV key))) (hv : PE X v (tM X.K c)) : PE X (.Dict [some k] [v] pos) (tM X.K (c.bnd fun d => M.ret (.node (.dic [key]) true [d]))) := PE.imp (Zlt (Zju hk hv Zls) rfl rfl (by simp) (by simp)) fun σ H Q h => by
 obtain ⟨δ, Hs, M, d, δ', g, s, e, q⟩ := h
 obtain ⟨d0, δ1, e1, e2⟩ := Zb e
 have := Zg e2
 cases this
 intro p hp
 have hs := Zdh (o := .dK []) hp
 have Mp : M p = 0 := by
  have := g.le p
  by_cases q : M p = 1
  . exact absurd hp (g.has p q)
  . omega
 have ne : ∀ b, H b ≠ none -> b ≠ p := fun b h e => by subst e; exact h hp
 have Hsp : Hs p = none := by
  cases q : Hs p with
  | none => rfl
  | some o => rw [g.sub p o q] at hp; cases hp
 refine ⟨δ, Hs, M, d0, δ', ⟨fun b o e => hs b o (g.sub b o e), g.le, g.ne, fun b h => by rw [Zk (ne b (g.has b h))]; exact g.has b h⟩, s.frame (Same.refl _) fun b _ hn => Zk (ne b hn), e1, fun v H' Hs' m M' g2 st r s2 => ?_⟩
 have tot : m p + M' p = 0 := by
  have l : m p + M' p <= 1 := g2.le p
  by_cases q : m p + M' p = 1
  . rcases st.own p q with z | z
    . omega
    . rw [Zl] at z; cases z
  . omega
 have Hsp' : Hs' p = none := by
  cases q : Hs' p with
  | none => rfl
  | some o =>
   rcases st.shr p Hsp (by rw [q]; simp) with z | z
   . omega
   . rw [Zl] at z; cases z
 refine ⟨st.keep p _ Zl Mp, [(key, v)], rfl, by simp, ?_⟩
 have u1 : ∀ {o : HO} {b : Addr}, b ≠ p -> upd H' p o b = H' b := fun h => Zk h
 refine q (.ref p) _ Hs' (fun b => one p b + m b) M' ⟨fun b o e => ?_, fun b => ?_, fun b h => ?_, fun b h => ?_⟩ ⟨fun b o e z => ?_, fun b h => ?_, st.grow, fun b h h' => ?_, fun b h => ?_⟩ (.own (vs := [v]) (m' := m) ⟨rfl, Zl⟩ (.cons (m1 := m) (m2 := fun _ => 0) (r.frame (Same.refl _) fun b hb hn => ?_) (.nil _) fun b => by simp) fun b => Nat.le_refl _) (s2.frame (Same.refl _) fun b hb hn => ?_)
 . have : b ≠ p := fun z => by subst z; rw [Hsp'] at e; cases e
   rw [u1 this]
   exact g2.sub b o e
 . have l : m b + M' b <= 1 := g2.le b
   show one p b + m b + M' b <= 1
   unfold one
   split
   . rename_i z; subst z; omega
   . omega
 . by_cases z : b = p
   . rw [z]; exact Hsp'
   . have h : one p b + m b + M' b = 1 := h
     simp only [one, if_neg z] at h
     exact g2.ne b (by show m b + M' b = 1; omega)
 . by_cases z : b = p
   . rw [z, Zl]; simp
   . have h : one p b + m b + M' b = 1 := h
     simp only [one, if_neg z] at h
     rw [u1 z]
     exact g2.has b (by show m b + M' b = 1; omega)
 . have z1 : b ≠ p := ne b (by rw [e]; simp)
   rw [u1 z1]
   exact st.keep b o (by rw [Zk z1]; exact e) z
 . by_cases z : b = p
   . right; rw [z]; exact hp
   . have h : one p b + m b + M' b = 1 := h
     simp only [one, if_neg z] at h
     rcases st.own b (show m b + M' b = 1 by omega) with y | y
     . exact .inl y
     . rw [Zk z] at y; exact .inr y
 . rcases st.shr b h h' with y | y
   . exact .inl y
   . by_cases z : b = p
     . right; rw [z]; exact hp
     . rw [Zk z] at y; exact .inr y
 . have z1 := ne b h
   rw [u1 z1]
   exact st.stay b (by rw [Zk z1]; exact h)
 . have : b ≠ p := fun z => by subst z; omega
   exact u1 this
 . have : b ≠ p := fun z => by subst z; omega
   exact u1 this
def Zrr (hg : Gl X x) (h : ∃ t, X.mg x = some (.str z t)) (hd : (x == ("__debug__" : Str)) = false) : PE X (.Name x p) (tM X.K (M.ret (.sc (.str z)))) := by
 obtain ⟨t, h⟩ := h
 exact ok_k (Zd6 hg h ⟨t, rfl⟩ hd)
structure ModT (K : Fg) (mg : SO) (x : Str) (vs : List V) : Prop where
 ex : ∃ a, mg x = some (.ref a) /\ ∃ (o : Obj) (its : Array Value) (n : Nat), K.lookup a = some o /\ o.cls = .type "tuple" /\ o.data = .seq its n /\ its.size <= sizeLine /\ Vals vs its.toList
def Zmq (hg : Gl X x) (h : ModT X.K X.mg x vs) (hd : (x == ("__debug__" : Str)) = false) : PE X (.Name x p) (tM X.K (M.ret (.node .ftp false (vs.map D.sc)))) := by
 obtain ⟨a, h, z⟩ := h.ex
 exact Zqf (Zd6 (v := .ref a) hg h rfl hd) fun H Hs m => .shd (vs := vs) (.inr z) (ZdD vs)
theorem Zcg : ∀ {is : List Int} {its : List Value}, (its.map fun u => match u with | .int i _ => some i | _ => none) = is.map some -> Vals (is.map V.int) its
 | [], [], _ => .nil
 | [], _ :: _, h => by simp at h
 | _ :: _, [], h => by simp at h
 | i :: is, u :: its, h => by
  (simp only [List.map_cons, List.cons.injEq] at h)
  refine .cons ?_ (Zcg h.2)
  cases u <;> simp at h
  rename_i j t
  exact ⟨t, by rw [h.1]⟩
end
section
def Zmr (hp : PassesOwn (model X.prog X.w) X.A X.env X.xe) (hc : X.calm = true) (he : PE X iter (tM X.K (M.ret d))) (hg : PG X tg (gT X.K tgt)) (hb : PSs X body (tS X.K (fun j => C.lock j || walked [.g d] j) (exs { C with lock := fun j => C.lock j || walked [.g d] j } body'))) (hs : ∀ x, foldedSetIterable iter X.env x = pure x := by intro _; rfl) (hl : C.lock = lk := by rfl) :
 PS X (.For tg iter body [] pos) (tS X.K lk (ex C (.for_ tgt .val [.g d] body'))) := by
 subst hl
 have e : ex C (.for_ tgt .val [.g d] body') = ((((M.ret d).bnd fun d => M.ret (.tmp d)).bnd fun p => (M.ret ([] : List Op)).bnd fun ps => M.ret (p :: ps)).bnd fun ps => (Zw ps).bnd fun h => (lift (itW .val h.1)).bnd fun items => (forL (asgT (fun j => C.lock j || walked [.g d] j) tgt) (exs { C with lock := fun j => C.lock j || walked [.g d] j } body') items).bnd fun f => (Z8 h.2).bnd fun _ => M.ret f) := rfl
 rw [e]
 exact ZaM hp hc (ZaR _ _) (hw_1 ZfX) (ZbX (Za he)) hg hb hs
def Zms (hp : PassesOwn (model X.prog X.w) X.A X.env X.xe) (hc : X.calm = true) (he : PE X iter (tM X.K (M.ret (.sc v)))) (hg : PG X tg (gT X.K tgt)) (hb : PSs X body (tS X.K (fun j => C.lock j || walked [.k v] j) (exs { C with lock := fun j => C.lock j || walked [.k v] j } body'))) (hs : ∀ x, foldedSetIterable iter X.env x = pure x := by intro _; rfl) (hl : C.lock = lk := by rfl) :
 PS X (.For tg iter body [] pos) (tS X.K lk (ex C (.for_ tgt .val [.k v] body'))) := by
 subst hl
 have e : ex C (.for_ tgt .val [.k v] body') = ((((M.ret (D.sc v)).bnd fun d => M.ret (.tmp d)).bnd fun p => (M.ret ([] : List Op)).bnd fun ps => M.ret (p :: ps)).bnd fun ps => (Zw ps).bnd fun h => (lift (itW .val h.1)).bnd fun items => (forL (asgT (fun j => C.lock j || walked [.k v] j) tgt) (exs { C with lock := fun j => C.lock j || walked [.k v] j } body') items).bnd fun f => (Z8 h.2).bnd fun _ => M.ret f) := rfl
 rw [e]
 exact ZaM hp hc (ZaR _ _) (hw_1 ZfX) (ZbX (Za he)) hg hb hs
end
theorem us1 {P : List Value -> Prop} (h : ∀ a, P [a]) : ∀ us : List Value, us.length = 1 -> P us
 | [a], _ => h a
theorem us2 {P : List Value -> Prop} (h : ∀ a b, P [a, b]) : ∀ us : List Value, us.length = 2 -> P us
 | [a, b], _ => h a b
theorem us3 {P : List Value -> Prop} (h : ∀ a b c, P [a, b, c]) : ∀ us : List Value, us.length = 3 -> P us
 | [a, b, c], _ => h a b c
open PyProof.Rows
noncomputable def ZbZ (i : Int) (is : List Int) : Int := is.foldl (fun a b => if b < a then b else a) i
theorem ZdN : ∀ (is : List Int) (i : Int), ZbZ i is ∈ i :: is /\ ∀ a ∈ i :: is, ZbZ i is <= a
 | [], i => ⟨List.mem_cons_self, fun a h => by rw [List.mem_singleton.mp h]; exact Int.le_refl _⟩
 | j :: is, i => by
  obtain ⟨h1, h2⟩ := ZdN is (if j < i then j else i)
  have e : ZbZ i (j :: is) = ZbZ (if j < i then j else i) is := rfl
  rw [e]
  refine ⟨?_, fun a ha => ?_⟩
  . rcases List.mem_cons.mp h1 with h | h
    . rw [h]
      split <;> simp
    . exact List.mem_cons_of_mem _ (List.mem_cons_of_mem _ h)
  . have h0 := h2 _ List.mem_cons_self
    have hm : (if j < i then j else i) <= i /\ (if j < i then j else i) <= j := by split <;> omega
    (rcases List.mem_cons.mp ha with rfl | ha)
    . exact Int.le_trans h0 hm.1
    . (rcases List.mem_cons.mp ha with rfl | ha)
      . exact Int.le_trans h0 hm.2
      . exact h2 a (List.mem_cons_of_mem _ ha)
def ZiT {i M : Int} {is : List Int} (h1 : M ∈ i :: is) (h2 : ∀ a ∈ i :: is, M <= a) : M = ZbZ i is := by
 obtain ⟨g1, g2⟩ := ZdN is i
 have := h2 _ g1
 have := g2 _ h1
 omega
section
theorem Ze0 : ∀ (is : List Int) (us : List Value), Vals (is.map V.int) us -> ∃ ts : List (Int × Tok), us = ts.map (fun p => Value.int p.1 p.2) /\ ts.map (·.1) = is
 | [], us, r => by cases r; exact ⟨[], rfl, rfl⟩
 | n :: is, us, r => by
  cases r with
  | cons r rr =>
   obtain ⟨t, rfl⟩ := r
   obtain ⟨ts, e1, e2⟩ := Ze0 is _ rr
   exact ⟨(n, t) :: ts, by rw [e1]; rfl, by rw [List.map_cons, e2]⟩
def Zfv (hc : X.calm = true) : ZI X (.builtin "min") (fun xs H Q => ∃ (l : Addr) (i : Int) (is : List Int), xs = [.ref l] /\ SqL X.K H l ((i :: is).map V.int) /\ Q (.int (ZbZ i is)) H) := by
 intro pins s σ H xs us Q I r h
 obtain ⟨l, i, is, rfl, hl, q⟩ := h
 obtain ⟨u, rfl, ru⟩ := r.one
 cases (show u = Value.ref l from ru)
 obtain ⟨its, rv, p, hz⟩ := I.list hl
 obtain ⟨ts, e1, e2⟩ := Ze0 (i :: is) its rv
 have e3 : its.toArray = intItems ts.toArray := by rw [e1]; unfold intItems; simp
 have hl' := p.isList
 rw [e3] at hl'
 have hn : ts.length = is.length + 1 := by have := congrArg List.length e2; rwa [List.length_map, List.length_cons] at this
 have hsz : 0 < ts.toArray.size := by rw [List.size_toArray]; omega
 refine min_intList (I.ok.hd hc) hl' hsz fun v h' tk hv hk => ?_
 (obtain ⟨t, rfl⟩ := intItems_at hv)
 obtain ⟨h1, h2⟩ := argBest_lt (numAt ts.toArray) (ts.toArray.size - 1)
 have e4 : numAt ts.toArray (argBest (fun i j => decide (numAt ts.toArray i < numAt ts.toArray j)) (ts.toArray.size - 1)) = ZbZ i is := by
  apply ZiT
  . rw [numAt_eq, <- e2]
    exact getD_mem (by rw [List.length_map]; rw [List.size_toArray] at h1 ⊢; omega)
  . intro a ha
    rw [<- e2] at ha
    (obtain ⟨j, hj, rfl⟩ := mem_getD ha)
    rw [List.length_map] at hj
    have := h2 j (by rw [List.size_toArray]; omega)
    rw [numAt_eq (j := j)] at this
    exact this
 rw [e4]
 exact ⟨.int _, H, I.kept hk, ⟨_, rfl⟩, q⟩
def Zmt (hc : X.calm = true) : ZI X (.builtin "min") (rNW X.K (bfW .minL)) := by
 intro pins s σ H xs us Q I r h
 obtain ⟨Hs, ws, m, d, hs, h1, h2, v, e, o⟩ := h
 replace e : ZhW _ = _ := e
 unfold ZhW at e
 split at e <;> first | (rename_i z; cases z; done) | skip
 all_goals first
  | (obtain ⟨y, m1, rfl, v, l⟩ := v.one
     cases v with
     | nd n r' =>
      rw [Option.bind_eq_some_iff] at e
      obtain ⟨is, e, e'⟩ := e
      have ei := ZdY r' e
      subst ei
      cases is with
      | nil => cases e'
      | cons i is =>
       cases e'
       exact Zfv hc pins s σ H _ us Q I r ⟨_, _, _, rfl, .inl (.inl n), o.sc⟩)
  | cases e
end
noncomputable def nmOk (X : Cx) (i : Nat) (x : Str) : Bool := Zv X.env.scope X.N i x false || Zv X.env.scope X.N i x true || ZfK X.env.scope X.N i x
noncomputable def tgOk (X : Cx) (i : Nat) (x : Str) : Bool := (Zv X.env.scope X.N i x false || Zv X.env.scope X.N i x true && X.fn x) && decide X.N.Nodup
abbrev glX (X : Cx) (x : Str) : Prop := glOk X.env.scope x = true
section
def qv (h : nmOk X i x = true := by kernel_rfl) : PE X (.Name x pos) (tVar i) := by
 unfold nmOk at h
 simp only [Bool.or_eq_true] at h
 rcases h with (h | h) | h
 . exact pvs h
 . exact pvs h
 . exact pvf h
def ql (h : nmOk X i x = true := by kernel_rfl) : PE X (.Name x pos) (tP X.K (ZK i)) := Zhi (qv h)
def qq (h : tgOk X i x = true) : ∃ b, Zv X.env.scope X.N i x b = true /\ X.N.Nodup /\ (X.fn x = true \/ b = false) := by
 unfold tgOk at h
 simp only [Bool.or_eq_true, Bool.and_eq_true, decide_eq_true_eq] at h
 rcases h with ⟨h | ⟨h, hf⟩, n⟩
 . exact ⟨_, h, n, .inr rfl⟩
 . exact ⟨_, h, n, .inl hf⟩
def qa (he : PE X e (tM X.K c)) (h : tgOk X i x = true := by kernel_rfl) (hs : swapsWith e (some (.Name x pos')) pos.line X.env = pure false := by rfl) : PS X (.Assign [.Name x pos'] e pos) (tS X.K lk (c.bnd fun d => (asgN lk i d).bnd fun _ => M.ret .nx)) := by
 obtain ⟨b, h, n, f⟩ := qq h
 exact ZlH h n he hs (hf := f)
def qg (hr : PGs X es (gNs is)) (h : tgOk X i x = true := by kernel_rfl) (hs : (assignEach (.Name x pos :: es) X.env).map (·.2) = assign (.Name x pos) X.env :: (assignEach es X.env).map (·.2) := by rfl) : PGs X (.Name x pos :: es) (gNs (i :: is)) := by
 obtain ⟨b, h, n, f⟩ := qq h
 exact Zqd h n hr rfl rfl f hs
def qt (h : tgOk X i x = true := by kernel_rfl) : PG X (.Name x pos) (gT X.K (.name i)) := by
 obtain ⟨b, h, n, f⟩ := qq h
 exact Zqe h n rfl rfl f
def cS (N' : List Str) (h : ZfI X.env.scope X.N k js N' scope = true := by kernel_rfl) : CompScope X k js N' scope := .of h rfl rfl
def qs (S : CompScope X k js N' scope) (hi : PI X tg iter (tI X.K ik cs))
 (hin : ∀ (cl : List (Str × Addr)) (C : Addr) (s₀ : Shared) (H₀ : Hp) (ex : List Addr), PG (cxC X N' scope cl C s₀ H₀ ex) tg (gT X.K tgt) /\ PIf (cxC X N' scope cl C s₀ H₀ ex) ifs (tT X.K cc) /\ PE (cxC X N' scope cl C s₀ H₀ ex) elt (tM X.K celt))
 (h : (Zv X.env.scope X.N i x false && decide X.N.Nodup && Zdf X.env.scope scope x) = true := by kernel_rfl) (hc : X.calm = true := by rfl) (hl : (pos'.line == pos.line) = true := by rfl) (hs : ∀ x, foldedSetIterable iter X.env x = pure x := by intro _; rfl) :
 PS X (.Assign [.Name x pos'] (.ListComp elt [⟨tg, iter, ifs, 0⟩] scope pos) spos) (tS X.K lk ((cs.bnd fun ps => (Zw ps).bnd fun h => (lift (itW ik h.1)).bnd fun items => (Za3 k js (Zai (asgT (fun i => decide (k <= i)) tgt) cc celt items [])).bnd fun d => (Z8 h.2).bnd fun _ => M.ret d).bnd fun d => (asgN lk i d).bnd fun _ => M.ret .nx)) := by
 simp only [Bool.and_eq_true, decide_eq_true_eq] at h
 exact ZlG h.1.1 h.1.2 h.2 hc S hi hin hl rfl rfl hs
end
section
variable {e a b l r o k ke : Expr} {es : List Expr} {p p2 pos2 : Pos} {x : Str} {j n : Nat} {ps : List Str} {fi : FI} {cs : M (List Op)} {ca cb : M Op} {A : Addr} {f : BF} {id ty : String} {tg : Expr}
def qi {t : Ty} {n : String} (hm : X.mg "isinstance" = none) (ha : PE X a (tP X.K ca)) (hm2 : X.mg (Str.ofString n) = none) (hv : bootBuiltins (Str.ofString n) = some (.type n)) (h : glX X "isinstance" := by kernel_rfl) (h2 : glX X (Str.ofString n) := by kernel_rfl) (hn : tyS t = some n := by rfl)
 (hs : starEach [a, .Name (Str.ofString n) p2] X.env = [(false, eval a X.env), (false, eval (.Name (Str.ofString n) p2) X.env)] := by rfl) (hs1 : starEach [.Name (Str.ofString n) p2] X.env = [(false, eval (.Name (Str.ofString n) p2) X.env)] := by rfl) :
 PE X (.Call (.Name "isinstance" p) [a, .Name (Str.ofString n) p2] [] pos) (tM X.K ((ca.bnd fun p => (M.ret ([] : List Op)).bnd fun ps => M.ret (p :: ps)).bnd fun ps => (views ps).bnd fun ws => lift (bfW (.isi t) ws))) :=
 Zn9 hn (glk h) hm ha (ZgU (glk h2) hm2 hv rfl (nmk h2) (dbk h2)) hs hs1
def qb (ha : PE X a (tP X.K ca)) (hb : PE X b (tP X.K cb)) :
 PE X (.BinOp a op b pos) (tM X.K (ca.bnd fun p => cb.bnd fun q => (view p).bnd fun x => (view q).bnd fun y => lift (binW op x y))) := Zn0 (Zn1 _) ha hb
def qgi (h : ∃ t, X.mg x = some (.int i t)) (g : glX X x := by kernel_rfl) : PE X (.Name x p) (tM X.K (M.ret (.sc (.int i)))) := Zri (glk g) h (dbk g)
def qgt (h : ∃ t, X.mg x = some (.str z t)) (g : glX X x := by kernel_rfl) : PE X (.Name x p) (tM X.K (M.ret (.sc (.str z)))) := Zrr (glk g) h (dbk g)
def qgu (h : ModT X.K X.mg x vs) (g : glX X x := by kernel_rfl) : PE X (.Name x p) (tM X.K (M.ret (.node .ftp false (vs.map D.sc)))) := Zmq (glk g) h (dbk g)
def g_ (h : glX X x := by kernel_rfl) : Gl X x := glk h
end
structure En where
 P : Program
 w : World
 K : Fg
 mg : Str -> Option Value
 base : Heap
abbrev En.fn (e : En) (x : Str) (k : Nat) (ps : List Str) (f : FI) : Prop := FnAt e.P e.w e.K e.mg e.base x k ps (spF e.K f.run)
abbrev En.me (e : En) (C : Addr) (x : Str) (k : Nat) (ps : List Str) (f : FI) : Prop := MeAt e.P e.w e.K e.mg e.base C x k ps (spF e.K f.run)
abbrev En.nw (e : En) (x : Str) (C : Addr) (k : Nat) (ps : List Str) (f : FI) : Prop := MkAt e.P e.w e.K e.mg e.base x C k ps (spF e.K f.run)
noncomputable def scOk (N P : List Str) (sc : Scope) : Bool := sc.kind == .function && !sc.isCoroutine && !sc.isGenerator && decide N.Nodup && N.take P.length == P && P.all (fun x => sc.names.lookup x == some .local || sc.names.lookup x == some .cell) && sc.names.all (fun y => y.2 != .free)
def ZcR (h : scOk N P sc = true) : FnScope N P sc := by
 unfold scOk at h
 simp only [Bool.and_eq_true, decide_eq_true_eq, List.all_eq_true, Bool.or_eq_true, beq_iff_eq, bne_iff_ne, Bool.not_eq_true'] at h
 obtain ⟨⟨⟨⟨⟨⟨h1, h2⟩, h3⟩, h4⟩, h5⟩, h6⟩, h7⟩ := h
 exact ⟨h1, h2, h3, h4, h5, h6, h7⟩
def NI (K : Fg) (x : Str) : Prop := PySem.W.nsIn K mainGlobals x = some none
def TI (K : Fg) (x : Str) (st : Stmt) : Prop := ∃ f fd, PySem.W.nsIn K mainGlobals x = some (some (.ref f)) /\ Fun K x x st f fd
def MI (K : Fg) (C : Addr) (x q : Str) (st : Stmt) : Prop := ∃ f fd, PySem.W.findIn K (.ref C) x = some (some (.ref f)) /\ PySem.W.isFn K (.ref f) = true /\ Fun K x q st f fd
structure CI (K : Fg) (x : Str) (C : Addr) : Prop where
 at_ : PySem.W.nsIn K mainGlobals x = some (some (.ref C))
 pg : PySem.W.plainGet K C Str.empty = true
 hd : PySem.W.hasDictIn K C = true
 po : PySem.W.plainOver K C = true
 sa : PySem.W.findIn K (.ref C) "__setattr__" = some (some (.builtin "object.__setattr__"))
 mk_ : PySem.W.makesIn K C = true
 kp : PySem.W.keepIn K (.ref C) = true
section
variable {K : Fg} {x q : Str} {f C : Addr} {kV ct : Value}
def Zrs (h : PySem.W.nsIn K mainGlobals x = some (some (.ref f))) (l : K.lookup f = some ⟨oc, od, .func (PySem.W.fnOf x x (ZaB st) (ZT st) (Zp st) .none kV doc pm an cdv ct), osl⟩) (c : PySem.W.codeIn K cdv x = true) (k : PySem.W.keepIn K (.ref f) = true) : TI K x st := ⟨f, _, h, ZfF l c k⟩
def Zrt (h : PySem.W.findIn K (.ref C) x = some (some (.ref f))) (y : PySem.W.isFn K (.ref f) = true) (l : K.lookup f = some ⟨oc, od, .func (PySem.W.fnOf x q (ZaB st) (ZT st) (Zp st) .none kV doc pm an cdv ct), osl⟩) (c : PySem.W.codeIn K cdv q = true) (k : PySem.W.keepIn K (.ref f) = true) : MI K C x q st := ⟨f, _, h, y, ZfF l c k⟩
end
def CI.cl {K : Fg} {x : Str} {C : Addr} (c : CI K x C) : Cls K C := ⟨c.pg, c.hd, c.po, c.sa⟩
def Bo (e : En) : Prop := ∃ h, e.K.In h /\ h.Ns mainGlobals e.mg
section
variable {e : En} {x q : Str} {N ps : List Str} {k n : Nat} {C : Ctx} {body : List S} {A : Addr}
abbrev us_ (st : Stmt) (x q : Str) (ps : List Str) : Prop := ∀ (kV doc pm : Value) (an : Option Addr) (cdv ct : Value) (us : List Value), us.length = ps.length -> bindArgs (PySem.W.fnOf x q (ZaB st) (ZT st) (Zp st) .none kV doc pm an cdv ct) ⟨us, []⟩ = pure (ps.zip us)
abbrev bd_ (e : En) (N : List Str) (q : Str) (st : Stmt) (k n : Nat) (C : Ctx) (body : List S) : Prop := ∀ (f : Addr) (cdv : Value) (A : Around) (outer : List Env) (s : Shared) (H : Hp) (E : XK), Room k (A.deeper (envOfC q (Zp st) s.heap.objs.size f cdv)) ->
 PSs (cxOf CX0 e.P e.w e.K e.mg e.base N q (Zp st) f cdv A outer s H E).nox (ZT st) (tS e.K (fun i => decide (i < n)) (exs { C with lock := fun i => decide (i < n) } body))
def Zau (Y : Bo e) (F : TI e.K x st) (N : List Str) (hb : bd_ e N x st k n C body) (hs : scOk N ps (Zp st) = true := by kernel_rfl) (hn : ps.length = n := by rfl) (hN : N.length = nN := by rfl)
 (us : us_ st x x ps := by intro _ _ _ _ _ _; first | exact us1 fun _ => rfl | exact us2 fun _ _ => rfl | exact us3 fun _ _ _ => rfl | exact us4 fun _ _ _ _ => rfl | exact us5 fun _ _ _ _ _ => rfl | exact us6 fun _ _ _ _ _ _ => rfl) :
 FnAt e.P e.w e.K e.mg e.base x (k + 1) ps (spF e.K (Zr C n nN body)) := by
 obtain ⟨f, fd, h1, F⟩ := F
 obtain ⟨h, X, G⟩ := Y
 exact ⟨f, fd, Zc6 F (ZcR hs) hn hN fun cdv A o s H E => hb f cdv A o s H E, PySem.W.mg_of X G h1, F.kp, F.binds us⟩
def Zru (cl : Cls e.K A) (F : MI e.K A x q st) (N : List Str) (hb : bd_ e N q st k n C body) (hs : scOk N ps (Zp st) = true := by kernel_rfl) (hn : ps.length = n := by rfl) (hN : N.length = nN := by rfl)
 (us : us_ st x q ps := by intro _ _ _ _ _ _; first | exact us1 fun _ => rfl | exact us2 fun _ _ => rfl | exact us3 fun _ _ _ => rfl | exact us4 fun _ _ _ _ => rfl | exact us5 fun _ _ _ _ _ => rfl | exact us6 fun _ _ _ _ _ _ => rfl) :
 MeAt e.P e.w e.K e.mg e.base A x (k + 1) ps (spF e.K (Zr C n nN body)) := by
 obtain ⟨f, fd, h1, y, F⟩ := F
 exact ⟨⟨f, fd, Zc6 F (ZcR hs) hn hN fun cdv A o s H E => hb f cdv A o s H E, ⟨h1, y, F.kp⟩, F.binds us⟩, cl⟩
def Zrv (Y : Bo e) (c : CI e.K x A) (F : MI e.K A "__init__" q st) (N : List Str) (hb : bd_ e N q st k n C body) (hs : scOk N ps (Zp st) = true := by kernel_rfl) (hn : ps.length = n := by rfl) (hN : N.length = nN := by rfl)
 (us : us_ st "__init__" q ps := by intro _ _ _ _ _ _; first | exact us1 fun _ => rfl | exact us2 fun _ _ => rfl | exact us3 fun _ _ _ => rfl | exact us4 fun _ _ _ _ => rfl | exact us5 fun _ _ _ _ _ => rfl | exact us6 fun _ _ _ _ _ _ => rfl) :
 MkAt e.P e.w e.K e.mg e.base x A (k + 1) ps (spF e.K (Zr C n nN body)) := by
 obtain ⟨f, fd, h1, y, F⟩ := F
 obtain ⟨h, X, G⟩ := Y
 exact ⟨f, fd, Zc6 F (ZcR hs) hn hN fun cdv A o s H E => hb f cdv A o s H E, ⟨c.mk_, h1, y, c.kp⟩, PySem.W.mg_of X G c.at_, F.binds us⟩
def Zo9 (F : Fun e.K x x st f fd) (N : List Str) (hb : bd_ e N x st k n C body) (hs : scOk N ps (Zp st) = true := by kernel_rfl) (hn : ps.length = n := by rfl) (hN : N.length = nN := by rfl) :
 FnOk e.P e.w e.K e.mg e.base CX0 (k + 1) f fd ps (spF e.K (Zr C n nN body)) := Zc6 F (ZcR hs) hn hN fun cdv A o s H E => hb f cdv A o s H E
end
def LT (K : Fg) (mg : SO) (cn : Str) : Prop := ∃ D', mg cn = some (.ref D') /\ XC K D' /\ GX K cn D'
def LX (K : Fg) (mg : SO) (cn : Str) : Prop := ∃ D', mg cn = some (.ref D') /\ GX K cn D' /\ PySem.W.typeIn K (.ref D') = some (.type "type")
def LI (K : Fg) (mg : SO) (cn : Str) : Prop := ∃ D', mg cn = some (.ref D') /\ XI K D'
section
def qax (he : PEx X e (tMX X.K c)) (h : tgOk X i x = true := by kernel_rfl) (hs : swapsWith e (some (.Name x pos')) pos.line X.env = pure false := by rfl) : PX X (.Assign [.Name x pos'] e pos) (tX X.K lk (c.bnd fun d => (asgN lk i d).bnd fun _ => M.ret .nx)) := by
 obtain ⟨b, h, n, f⟩ := qq h
 exact ZjW h n he hs (hf := f)
def qty (F : Fr0 X X.A) (L : LT X.K X.mg cn) (hb : PXs X body (tX X.K lk cb)) (hs : ∀ v, PSs (X.inH v) (b₀ :: suite) (tS X.K lk csu)) (h : (Zv X.env.scope X.N i x false && decide X.N.Nodup) = true := by kernel_rfl) (g : glX X cn := by kernel_rfl) (hx : ∀ e s, ¬ X.xe e s := by exact fun _ _ h => h) :
 PX X (.Try body [.ExceptHandler (some (.Name cn np)) (some x) (b₀ :: suite) hp] [] [] pos) (tX X.K lk (tryM lk cb cn (some i) csu)) := by
 obtain ⟨D', h1, h2, h3⟩ := L
 simp only [Bool.and_eq_true, decide_eq_true_eq] at h
 exact ZjX F hx h.1 h.2 hb hs (glk g) h1 h2 h3 (dbk g)
def qiX (L : LX X.K X.mg cn) (hm : X.mg "isinstance" = none) (ha : PE X a (tP X.K ca)) (h : glX X "isinstance" := by kernel_rfl) (g : glX X cn := by kernel_rfl)
 (hs : starEach [a, .Name cn p2] X.env = [(false, eval a X.env), (false, eval (.Name cn p2) X.env)] := by rfl) (hs1 : starEach [.Name cn p2] X.env = [(false, eval (.Name cn p2) X.env)] := by rfl) :
 PE X (.Call (.Name "isinstance" p) [a, .Name cn p2] [] pos) (tM X.K ((ca.bnd fun p => (M.ret ([] : List Op)).bnd fun ps => M.ret (p :: ps)).bnd fun ps => (views ps).bnd fun ws => lift (bfW (.isiX cn) ws))) := by
 obtain ⟨D', h1, h2, h3⟩ := L
 exact Zml h2 h3 (glk h) hm ha (Zd6 (v := .ref D') (glk g) h1 rfl (dbk g)) hs hs1
def qiV (hm2 : X.mg "ValueError" = none) (hm : X.mg "isinstance" = none) (ha : PE X a (tP X.K ca)) (h : glX X "isinstance" := by kernel_rfl) (g : glX X "ValueError" := by kernel_rfl)
 (hs : starEach [a, .Name "ValueError" p2] X.env = [(false, eval a X.env), (false, eval (.Name "ValueError" p2) X.env)] := by rfl) (hs1 : starEach [.Name "ValueError" p2] X.env = [(false, eval (.Name "ValueError" p2) X.env)] := by rfl) :
 PE X (.Call (.Name "isinstance" p) [a, .Name "ValueError" p2] [] pos) (tM X.K ((ca.bnd fun p => (M.ret ([] : List Op)).bnd fun ps => M.ret (p :: ps)).bnd fun ps => (views ps).bnd fun ws => lift (bfW .isiV ws))) :=
 Zmn (glk h) hm ha (ZgU (v := .ty "ValueError") (glk g) hm2 Zgr rfl (nmk g) (dbk g)) hs hs1
structure XMd (P : Program) (w : World) (K : Fg) (mg : SO) (base : Heap) (x : Str) (ns : List Str) (k : Nat) (ps : List Str) (sp : Sp) : Prop where
 ex : ∃ (C f : Addr) (fd : FuncData), XN K ns C /\ PySem.W.findIn K (.ref C) (Str.ofString "__init__") = some (some (.ref f)) /\ PySem.W.typeIn K (.ref f) = some (.type "function") /\ FnOk P w K mg base CX0 k f fd ps sp /\ mg x = some (.ref C) /\ Binds K fd ps [.none]
end
section
variable {e : En} {x q : Str} {N ps : List Str} {k n : Nat} {C : Ctx} {body : List S} {A : Addr}
abbrev En.fx (e : En) (x : Str) (k : Nat) (ps : List Str) (f : FI) : Prop := FnAtX e.P e.w e.K e.mg e.base x k ps (spX e.K f.run)
abbrev En.xi (e : En) (x : Str) (k : Nat) (ps : List Str) (f : FI) : Prop := XMk e.P e.w e.K e.mg e.base x [x, "LabelError"] k ps (spF e.K f.run)
abbrev En.xd (e : En) (x : Str) (k : Nat) (ps : List Str) (f : FI) : Prop := XMd e.P e.w e.K e.mg e.base x [x, "LabelError"] k ps (spF e.K f.run)
abbrev bx_ (e : En) (N : List Str) (q : Str) (st : Stmt) (k n : Nat) (C : Ctx) (body : List S) : Prop := ∀ (f : Addr) (cdv : Value) (A : Around) (outer : List Env) (s : Shared) (H : Hp) (E : XK), Fr0 (cxOf CX0 e.P e.w e.K e.mg e.base N q (Zp st) f cdv A outer s H E).nox (A.deeper (envOfC q (Zp st) s.heap.objs.size f cdv)) -> Room k (A.deeper (envOfC q (Zp st) s.heap.objs.size f cdv)) ->
 PXs (cxOf CX0 e.P e.w e.K e.mg e.base N q (Zp st) f cdv A outer s H E).nox (ZT st) (tX e.K (fun i => decide (i < n)) (exs { C with lock := fun i => decide (i < n) } body))
def ZkO (Y : Bo e) (F : TI e.K x st) (N : List Str) (hb : bx_ e N x st k n C body) (hs : scOk N ps (Zp st) = true := by kernel_rfl) (hn : ps.length = n := by rfl) (hN : N.length = nN := by rfl)
 (us : us_ st x x ps := by intro _ _ _ _ _ _; first | exact us1 fun _ => rfl | exact us2 fun _ _ => rfl | exact us3 fun _ _ _ => rfl | exact us4 fun _ _ _ _ => rfl | exact us5 fun _ _ _ _ _ => rfl | exact us6 fun _ _ _ _ _ _ => rfl) :
 FnAtX e.P e.w e.K e.mg e.base x (k + 1) ps (spX e.K (Zr C n nN body)) := by
 obtain ⟨f, fd, h1, F⟩ := F
 obtain ⟨h, X, G⟩ := Y
 exact ⟨f, fd, Zhz F (ZcR hs) hn hN fun cdv A o s H E => hb f cdv A o s H E, PySem.W.mg_of X G h1, F.kp, F.binds us⟩
def DI (K : Fg) (C : Addr) (q : Str) (st : Stmt) : Prop := ∃ f fd T dt it nt sl, PySem.W.findIn K (.ref C) (Str.ofString "__init__") = some (some (.ref f)) /\ PySem.W.typeIn K (.ref f) = some (.type "function") /\ FunV (.ref T) K "__init__" q st f fd /\ K.lookup T = some ⟨.type "tuple", dt, .seq it nt, sl⟩ /\ it = #[Value.none]
def Zrw {K : Fg} {C f T : Addr} {dt : Option Addr} {kV ct : Value} {it : Array Value} {nt : Nat} (h : PySem.W.findIn K (.ref C) (Str.ofString "__init__") = some (some (.ref f))) (y : PySem.W.typeIn K (.ref f) = some (.type "function")) (l : K.lookup f = some ⟨oc, od, .func (PySem.W.fnOf "__init__" q (ZaB st) (ZT st) (Zp st) (.ref T) kV doc pm an cdv ct), osl⟩)
 (c : PySem.W.codeIn K cdv q = true) (k : PySem.W.keepIn K (.ref f) = true) (t : K.lookup T = some ⟨.type "tuple", dt, .seq it nt, sl⟩) (z : it = #[Value.none]) : DI K C q st := ⟨f, _, T, dt, it, nt, sl, h, y, ⟨⟨oc, od, kV, doc, pm, an, cdv, ct, osl, rfl, l, c⟩, k⟩, t, z⟩
structure LB (K : Fg) (L : Addr) : Prop where
 x : PySem.W.nsIn K mainGlobals "LabelError" = some (some (.ref L))
 gx : GX K "LabelError" L
 xc : XC K L
 tl : PySem.W.tailIn K bmV (.ref L :: bmV) = true
structure XB (K : Fg) (L : Addr) (x : Str) (C : Addr) : Prop where
 at_ : PySem.W.nsIn K mainGlobals x = some (some (.ref C))
 lk : ∃ (q : Str) (N : Addr) (bs : List Value) (sn : List Str) (sub : List Value) (ab : Bool) (col : Option Bool) (dd : Option Addr) (k0 k1 k2 k3 k5 : Option Value), K.lookup C = some (excClassObj x q C N bs (.ref L :: bmV) true sn sub ab col dd k0 k1 k2 k3 k5 "ValueError.__new__")
structure XA (K : Fg) (C : Addr) : Prop where
 sa : PySem.W.findIn K (.ref C) (Str.ofString "__setattr__") = some (some (.builtin "object.__setattr__"))
 ga : PySem.W.findIn K (.ref C) (Str.ofString "__getattribute__") = some (some (.builtin "BaseException.__getattribute__"))
 kp : PySem.W.keepIn K (.ref C) = true
 hk : PySem.W.findIn K (.ref C) (Str.ofString "__getattr__") = some none
 hc : PySem.W.findIn K (.ref C) "__class__" = some (some (.builtin "object.__class__"))
 hn : PySem.W.specialIn K (.builtin "object.__class__") "__get__" = some (some (.builtin "getset_descriptor.__get__"))
 ht : PySem.W.takesIn K (.builtin "object.__class__") = some true
 n1 : PySem.W.findIn K (.ref C) "row" = some none
 n2 : PySem.W.findIn K (.ref C) "number" = some none
 n3 : PySem.W.findIn K (.ref C) "length" = some none
 n4 : PySem.W.findIn K (.ref C) "numbers" = some none
end
section
variable {K : Fg} {n : Str} {C : Addr} {q qL : Str} {N NL : Addr} {bs bsL : List Value} {sn snL : List Str} {sub subL : List Value} {ab abL : Bool} {col colL : Option Bool} {dd ddL : Option Addr} {k0 k1 k2 k3 k5 l0 l1 l2 l3 l5 : Option Value}
def Zrx (x : PySem.W.nsIn K mainGlobals "LabelError" = some (some (.ref L))) (lL : K.lookup L = some (excClassObj "LabelError" qL L NL bsL bmV true snL subL abL colL ddL l0 l1 l2 l3 l5 "ValueError.__new__")) (ln : K.lookup NL = some ⟨oc, od, .dict es ep, sl⟩) (he : es.all Zgq = true)
 (hi : PySem.W.nsIn K NL (Str.ofString "__init__") = some none) (sa : PySem.W.findIn K (.ref L) (Str.ofString "__setattr__") = some (some (.builtin "object.__setattr__"))) (ga : PySem.W.findIn K (.ref L) (Str.ofString "__getattribute__") = some (some (.builtin "BaseException.__getattribute__"))) (kp : PySem.W.keepIn K (.ref L) = true) : LB K L :=
 ⟨x, Zie x lL, ZkM lL ZkN (show Zbw bmV = true by decide +kernel) sa ga kp, Zrm lL ln he hi⟩
def Zry (x : PySem.W.nsIn K mainGlobals n = some (some (.ref C))) (lk : K.lookup C = some (excClassObj n q C N bs (.ref L :: bmV) true sn sub ab col dd k0 k1 k2 k3 k5 "ValueError.__new__")) : XB K L n C := ⟨x, _, _, _, _, _, _, _, _, _, _, _, _, _, lk⟩
def XB.xn (b : XB K L n C) (l : LB K L) (a : XA K C) : XN K [n, "LabelError"] C := by
 obtain ⟨x, q, N, bs, sn, sub, ab, col, dd, k0, k1, k2, k3, k5, lk⟩ := b
 exact Zro x lk l.gx l.tl a.sa a.ga a.kp a.hk a.hc a.hn a.ht a.n1 a.n2 a.n3 a.n4
def XB.lx (b : XB K L n C) (X : K.In h) (G : h.Ns mainGlobals mg) : LX K mg n := by
 obtain ⟨x, q, N, bs, sn, sub, ab, col, dd, k0, k1, k2, k3, k5, lk⟩ := b
 exact ⟨C, PySem.W.mg_of X G x, Zie x lk, Zrn lk⟩
end
structure MeAtX (P : Program) (w : World) (K : Fg) (mg : SO) (base : Heap) (C : Addr) (m : Str) (k : Nat) (ps : List Str) (sp : Sp) : Prop where
 ex : ∃ (f : Addr) (fd : FuncData), FnOk P w K mg base (CXx P w) k f fd ps sp /\ Meth K C m f /\ Binds K fd ps []
 cl : Cls K C
section
theorem Zkd (nxa : NX ca) (nx : NX cs) (G : MeAtX X.prog X.w X.K X.mg X.base A m j ps (spX X.K fi.run)) (hr : Room n X.A) (ho : PE X o (tP X.K ca)) (ha : PA X (e :: es) (tPs X.K cs)) (hj : j <= n := by decide)
 (hst : SE X e es := by rfl) (hpl : SFx X pos es := by rfl)
 (ht : eval (.Call (.Attribute o m apos) (e :: es) [] pos) X.env = (do
  let ov <- eval o X.env
  standAt apos.atName
  let (f, first) <- holding [ov] (getMethod ov m pl)
  callWith pos f first (backTo pos (starEach (e :: es) X.env)) (backToKw pos (keywordEach [] X.env))) := by rfl) :
 PEx X (.Call (.Attribute o m apos) (e :: es) [] pos) (tMX X.K (ca.bnd fun p => (chkI A m p).bnd fun _ => cs.bnd fun ps => ZaQ fi (p :: ps))) := by
 obtain ⟨f, fd, F, hm, hb⟩ := G.ex
 refine PEx.imp (Zj6 ho G.cl hm F (hr.mono hj) hb .nil ha hst hpl ht) fun σ H Q Ex h => ?_
 obtain ⟨δ, Hs, M, g, s, q⟩ := h
 unfold T.M.bnd at q
 cases e1 : ca δ with
 | exc x y => exact absurd e1 (nxa _ _ _)
 | stuck => rw [e1] at q; exact q.elim
 | ok z =>
  obtain ⟨p, δ1⟩ := z
  rw [e1] at q
  dsimp only at q
  cases e2 : chkI A m p δ1 with
  | exc x y => exact absurd e2 (Zhx _ _ _ _ _ _)
  | stuck => rw [e2] at q; exact q.elim
  | ok z =>
   obtain ⟨u, δ2⟩ := z
   rw [e2] at q
   dsimp only at q
   cases e3 : cs δ2 with
   | exc x y => exact absurd e3 (nx _ _ _)
   | stuck => rw [e3] at q; exact q.elim
   | ok z =>
    obtain ⟨qs, δ3⟩ := z
    rw [e3] at q
    refine ⟨δ, Hs, M, p, δ1, g, s, e1, fun x H1 Hs1 m1 M1 g1 st1 r1 s1 => ?_⟩
    obtain ⟨rfl, a, dx, fs, hx, ha', hl⟩ := Zhs g1 s1 r1 e2
    refine ⟨a, dx, fs, hx, ha', hl, δ2, Hs1, M1, qs, δ3, g1.re, s1, e3, fun vs H2 Hs2 m2 M2 g2 st2 r2 s2 => ?_⟩
    obtain ⟨G2, S2, k2⟩ := Zq g g1 st1 g2 st2
    have r1' := RepP.frame st2.grow k2 r1
    show spX X.K fi.run (x :: (vs ++ [])) H2 Q _
    rw [List.append_nil]
    exact Zfo (m1 := fun b => m1 b + m2 b) g (G2.re fun b => by (try dsimp only); omega) (S2.drop (fun b => by (try dsimp only); omega) G2.le) (show ZaF X.K H2 Hs2 σ (x :: vs) (p :: qs) (fun b => m1 b + m2 b) from ⟨m1, m2, r1', r2, fun b => Nat.le_refl _⟩) s2 q
end
section
def qmx (G : MeAtX X.prog X.w X.K X.mg X.base A m j ps (spX X.K fi.run)) (hr : Room n X.A) (ho : PE X o (tP X.K (ZK i))) (ha : PA X (e :: es) (tPs X.K (opds C es'))) (hj : j <= n := by decide)
 (hst : SE X e es := by rfl) (hpl : SFx X pos es := by rfl)
 (ht : eval (.Call (.Attribute o m apos) (e :: es) [] pos) X.env = (do
  let ov <- eval o X.env
  standAt apos.atName
  let (f, first) <- holding [ov] (getMethod ov m pl)
  callWith pos f first (backTo pos (starEach (e :: es) X.env)) (backToKw pos (keywordEach [] X.env))) := by rfl) :
 PEx X (.Call (.Attribute o m apos) (e :: es) [] pos) (tMX X.K (yev C (.meth A m fi (.v i) es'))) := Zkd (ZcB i) (ZV _ _) G hr ho ha hj hst hpl ht
end
section
variable {e : En} {x q : Str} {N ps : List Str} {k n : Nat} {C : Ctx} {body : List S} {A : Addr}
abbrev En.mx (e : En) (C : Addr) (x : Str) (k : Nat) (ps : List Str) (f : FI) : Prop := MeAtX e.P e.w e.K e.mg e.base C x k ps (spX e.K f.run)
def ZoA (cl : Cls e.K A) (F : MI e.K A x q st) (N : List Str) (hb : bx_ e N q st k n C body) (hs : scOk N ps (Zp st) = true := by kernel_rfl) (hn : ps.length = n := by rfl) (hN : N.length = nN := by rfl)
 (us : us_ st x q ps := by intro _ _ _ _ _ _; first | exact us1 fun _ => rfl | exact us2 fun _ _ => rfl | exact us3 fun _ _ _ => rfl) :
 MeAtX e.P e.w e.K e.mg e.base A x (k + 1) ps (spX e.K (Zr C n nN body)) := by
 obtain ⟨f, fd, h1, y, F⟩ := F
 exact ⟨⟨f, fd, Zhz F (ZcR hs) hn hN fun cdv A o s H E => hb f cdv A o s H E, ⟨h1, y, F.kp⟩, F.binds us⟩, cl⟩
def II (K : Fg) (C : Addr) (q : Str) (st : Stmt) : Prop := ∃ f fd, PySem.W.findIn K (.ref C) (Str.ofString "__init__") = some (some (.ref f)) /\ PySem.W.typeIn K (.ref f) = some (.type "function") /\ Fun K "__init__" q st f fd
def Zrz {K : Fg} {C f : Addr} {kV ct : Value} (h : PySem.W.findIn K (.ref C) (Str.ofString "__init__") = some (some (.ref f))) (y : PySem.W.typeIn K (.ref f) = some (.type "function")) (l : K.lookup f = some ⟨oc, od, .func (PySem.W.fnOf "__init__" q (ZaB st) (ZT st) (Zp st) .none kV doc pm an cdv ct), osl⟩)
 (c : PySem.W.codeIn K cdv q = true) (k : PySem.W.keepIn K (.ref f) = true) : II K C q st := ⟨f, _, h, y, ZfF l c k⟩
def ZkP (Y : Bo e) (c : ∃ C, e.mg x = some (.ref C) /\ XN e.K [x, "LabelError"] C /\ II e.K C q st) (N : List Str) (hb : bd_ e N q st k n C body) (hs : scOk N ps (Zp st) = true := by kernel_rfl) (hn : ps.length = n := by rfl) (hN : N.length = nN := by rfl)
 (us : us_ st "__init__" q ps := by intro _ _ _ _ _ _; exact us2 fun _ _ => rfl) :
 XMk e.P e.w e.K e.mg e.base x [x, "LabelError"] (k + 1) ps (spF e.K (Zr C n nN body)) := by
 obtain ⟨C', m, xn, f, fd, h1, h2, F⟩ := c
 exact ⟨C', f, fd, xn, h1, h2, Zc6 F (ZcR hs) hn hN fun cdv A o s H E => hb f cdv A o s H E, m, F.binds us⟩
end
section
def Zmu (hp : PassesOwn (model X.prog X.w) X.A X.env X.xe) (hc : X.calm = true) (hw : HWs (opds C ies) (fun j => C.lock j || walked ies j)) (hi : PI X tg iter (tI X.K ik (opds C ies))) (hg : PG X tg (gT X.K tgt)) (hb : PSs X body (tS X.K (fun j => C.lock j || walked ies j) (exs { C with lock := fun j => C.lock j || walked ies j } body'))) (hs : ∀ x, foldedSetIterable iter X.env x = pure x := by intro _; rfl) (hl : C.lock = lk := by rfl) :
 PS X (.For tg iter body [] pos) (tS X.K lk (ex C (.for_ tgt ik ies body'))) := by
 subst hl
 have e : ex C (.for_ tgt ik ies body') = ((opds C ies).bnd fun ps => (Zw ps).bnd fun h => (lift (itW ik h.1)).bnd fun items => (forL (asgT (fun j => C.lock j || walked ies j) tgt) (exs { C with lock := fun j => C.lock j || walked ies j } body') items).bnd fun f => (Z8 h.2).bnd fun _ => M.ret f) := rfl
 rw [e]
 exact ZaM hp hc (ZaR _ _) hw hi hg hb hs
end
theorem us4 {P : List Value -> Prop} (h : ∀ a b c d, P [a, b, c, d]) : ∀ us : List Value, us.length = 4 -> P us
 | [a, b, c, d], _ => h a b c d
theorem us5 {P : List Value -> Prop} (h : ∀ a b c d e, P [a, b, c, d, e]) : ∀ us : List Value, us.length = 5 -> P us
 | [a, b, c, d, e], _ => h a b c d e
theorem us6 {P : List Value -> Prop} (h : ∀ a b c d e f, P [a, b, c, d, e, f]) : ∀ us : List Value, us.length = 6 -> P us
 | [a, b, c, d, e, f], _ => h a b c d e f
def ZoB (C : Ctx) (i : Nat) (y : YE) : ex C (.asgY i y) = ((yev C y).bnd fun d => (asgN C.lock i d).bnd fun _ => M.ret .nx) := (rfl)
def Zke (C : Ctx) (A : Addr) (m : Str) (fi : FI) (o : E) (es : List E) : yev C (.meth A m fi o es) = ((Zn o (evb C o).1).bnd fun p => (chkI A m p).bnd fun _ => (opds C es).bnd fun ps => ZaQ fi (p :: ps)) := (rfl)
noncomputable def unV : Value -> Option V
 | .int i _ => some (.int i)
 | .none => some .non
 | _ => none
theorem Zh0 : ∀ {vs : List V} {its : List Value}, its.map unV = vs.map some -> Vals vs its
 | [], [], _ => .nil
 | [], _ :: _, h => by simp at h
 | _ :: _, [], h => by simp at h
 | v :: vs, u :: its, h => by
  (simp only [List.map_cons, List.cons.injEq] at h)
  refine .cons ?_ (Zh0 h.2)
  cases u <;> simp [unV] at h
  . rw [<- h.1]; exact rfl
  . rw [<- h.1]; exact ⟨_, rfl⟩
def Zgs {K : Fg} {h : Heap} {mg : SO} {x : Str} {a : Addr} {vs : List V} {dct : Option Addr} {its : Array Value} {n : Nat} (X : K.In h) (G : h.Ns mainGlobals mg) (hx : PySem.W.nsIn K mainGlobals x = some (some (.ref a))) (hl : K.lookup a = some ⟨.type "tuple", dct, .seq its n, sl⟩) (hs : its.size <= sizeLine) (hi : its.toList.map unV = vs.map some) : ModT K mg x vs :=
 ⟨a, PySem.W.mg_of X G hx, _, its, n, hl, rfl, rfl, hs, Zh0 hi⟩
end T
namespace T
open PySem PySem.Spec L2
variable {X : Cx} {pos : Pos}
def Zf {i : Int} {j} : PE X (.Constant (.int i) j pos) (tP X.K ((M.ret (.sc (.int i))).bnd fun d => M.ret (.tmp d))) := Za (ok_k Zam)
def ZrE {sc : Scope} {N} {i : Nat} {x : Str} {b : Bool} (h : Zv sc N i x b = true) (e1 : X.env.scope = sc := by rfl) (e2 : X.N = N := by rfl) : PE X (.Name x pos) (tP X.K (ZK i)) := Zhi (pvs h e1 e2)
end T
namespace My
open PySem PySem.Spec L2 T
variable {n p i c j : Nat} {rs : List (List Str)} {C : Addr} {δ : List D} {a : Option Nat} {d : D} {s : Str} {o : Bool} {lk : Nat -> Bool} {body suite : M Fl} {q : Nat × Option Nat}
local macro_rules | `(tactic| walk_at "d") => `(tactic| decide +kernel)
section
seal L2.PE L2.PS L2.PSs L2.PT L2.PI L2.PA L2.PG L2.PGs L2.PX L2.PXs L2.PEx
noncomputable def top (i : Nat) : Stmt := PySem.Challenge.pw_barlabel_k03_rows_read.main.body.getD i (.Pass ⟨0, 0, 0, 0⟩)
noncomputable def Zax (s : Stmt) (i : Nat) : Stmt := match s with
 | .ClassDef (body := b) .. => b.getD i (.Pass ⟨0, 0, 0, 0⟩)
 | _ => .Pass ⟨0, 0, 0, 0⟩
noncomputable def CK (C : Addr) : T.Ctx := { C0 with fok := fun A f => decide (A = C) && (f == "size" || f == "meanings" || f == "text") }
noncomputable def Ze1 (K : Fg) : Addr := match PySem.W.nsIn K mainGlobals "Table" with
 | some (some (.ref C)) => C
 | _ => 0
structure Txt (e : T.En) (C : Addr) : Prop where
 Y : T.Bo e
 ValueError_ : e.mg "ValueError" = none
 all_ : e.mg "all" = none
 any_ : e.mg "any" = none
 bool_ : e.mg "bool" = none
 enumerate_ : e.mg "enumerate" = none
 int_ : e.mg "int" = none
 isinstance_ : e.mg "isinstance" = none
 len_ : e.mg "len" = none
 list_ : e.mg "list" = none
 min_ : e.mg "min" = none
 range_ : e.mg "range" = none
 str_ : e.mg "str" = none
 MOST_ROWS_ : ∃ t, e.mg "MOST_ROWS" = some (.int 5 t)
 SIGNS_ : ∃ t, e.mg "SIGNS" = some (.str "abcdefghijklmnopqrstuvwxyz0123456789" t)
 BEGINNING_ : T.ModT e.K e.mg "BEGINNING" ([.int 0, .non] : List V)
 PRIMES_ : T.ModT e.K e.mg "PRIMES" (([5, 7, 11, 13, 17, 19, 23, 29, 31, 37, 41, 43, 47] : List Int).map V.int)
 x_a : T.LX e.K e.mg "Lost"
 x_b : T.LX e.K e.mg "Mixed"
 x_c : T.LX e.K e.mg "NoForm"
 x_d : T.LX e.K e.mg "NoFount"
 x_e : T.LX e.K e.mg "NoLabel"
 x_f : T.LX e.K e.mg "NoName"
 x_g : T.LX e.K e.mg "NoReading"
 x_h : T.LX e.K e.mg "NoRoom"
 x_i : T.LX e.K e.mg "NoSymbol"
 x_j : T.LX e.K e.mg "NoTable"
 x_k : T.LX e.K e.mg "NoWriting"
 x_l : T.LX e.K e.mg "Spoilt"
 x_m : T.LX e.K e.mg "TooLong"
 le : T.LT e.K e.mg "LabelError"
 li : T.LI e.K e.mg "LabelError"
 i_g : ∃ C, e.mg "NoReading" = some (.ref C) /\ XN e.K ["NoReading", "LabelError"] C /\ T.II e.K C "NoReading.__init__" (Zax (top 5) 0)
 i_i : ∃ C, e.mg "NoSymbol" = some (.ref C) /\ XN e.K ["NoSymbol", "LabelError"] C /\ T.II e.K C "NoSymbol.__init__" (Zax (top 4) 0)
 ci : T.CI e.K "Table" C
 nF_size : ZJ e.K C "size"
 nF_meanings : ZJ e.K C "meanings"
 nF_text : ZJ e.K C "text"
def Txt.fok {e : T.En} (Z : Txt e C) : ∀ A f, (CK C).fok A f = true -> Cls e.K A /\ ZJ e.K A f := fun A f h => by
 unfold CK at h
 simp only [Bool.and_eq_true, Bool.or_eq_true, decide_eq_true_eq, beq_iff_eq] at h
 obtain ⟨rfl, h⟩ := h
 rcases h with (rfl | rfl) | rfl
 . exact ⟨Z.ci.cl, Z.nF_size⟩
 . exact ⟨Z.ci.cl, Z.nF_meanings⟩
 . exact ⟨Z.ci.cl, Z.nF_text⟩
variable {e : T.En}
noncomputable def Zbe : List T.S := [.ex (.bf .xinit [.v 0, .fs [.k (.str "no symbol: number "), .v 1]]), .attrX 0 "number" (.v 1)]
noncomputable def Z9 : T.FI := ⟨true, T.Zr C0 2 2 Zbe⟩
abbrev Zbn (e : T.En) : Prop := e.xi "NoSymbol" 1 ["self", "number"] Z9
def ZcS (Z : Txt e C)  : Zbn e :=
 T.ZkP (C := C0) (body := Zbe) (k := 0) Z.Y Z.i_i ["self", "number"] fun _ _ _ _ _ _ _ hr =>
 (Zc (Zbt (by obtain ⟨D', h1, h2⟩ := Z.li; exact Zgp h2 g_ h1 (Zd ql (Zd (Za (Zev (Zeu (Zet ql Zes)))) Zi))))
  (Zc (Zgo qv (ok_v qv))
  Zh))
noncomputable def ZaV : List T.S := [.ex (.bf .xinit [.v 0, .fs [.k (.str "not to be read: number "), .v 1]]), .attrX 0 "number" (.v 1)]
noncomputable def Z2 : T.FI := ⟨true, T.Zr C0 2 2 ZaV⟩
abbrev Zbf (e : T.En) : Prop := e.xi "NoReading" 1 ["self", "number"] Z2
def ZcD (Z : Txt e C)  : Zbf e :=
 T.ZkP (C := C0) (body := ZaV) (k := 0) Z.Y Z.i_g ["self", "number"] fun _ _ _ _ _ _ _ hr =>
 (Zc (Zbt (by obtain ⟨D', h1, h2⟩ := Z.li; exact Zgp h2 g_ h1 (Zd ql (Zd (Za (Zev (Zeu (Zet ql Zes)))) Zi))))
  (Zc (Zgo qv (ok_v qv))
  Zh))
noncomputable def ZdO : List T.S := [.ret (.and (.bf (.isi .int) [.v 0]) (.nt (.bf (.isi .bool) [.v 0])))]
noncomputable def Zaz : T.FI := ⟨true, T.Zr C0 1 1 ZdO⟩
abbrev Ze2 (e : T.En) : Prop := e.fn "is_whole" 1 ["thing"] Zaz
def ZgN (F : T.TI e.K "is_whole" (top 18)) (Z : Txt e C)  : Ze2 e :=
 T.Zau (C := C0) (body := ZdO) (k := 0) Z.Y F ["thing"] fun _ _ _ _ _ _ _ hr =>
 (Zc (Zx (Zhk (Za (qi Z.isinstance_ ql Z.int_ Zp3)) (ZfP (Zhl (Za (qi Z.isinstance_ ql Z.bool_ ZiF))))))
  Zh)
noncomputable def Zdq : List T.S := [.ret (.and (.call Zaz [.v 1]) (.chain .LtE .Lt (.k (.int 0)) (.v 1) (.v 0)))]
noncomputable def Zaq : T.FI := ⟨true, T.Zr C0 2 2 Zdq⟩
abbrev ZdP (e : T.En) : Prop := e.fn "is_symbol" 2 ["count", "thing"] Zaq
def Zgt (F : T.TI e.K "is_symbol" (top 19)) (Z : Txt e C) (g2 : Ze2 e) : ZdP e :=
 T.Zau (C := C0) (body := Zdq) (k := 1) Z.Y F ["count", "thing"] fun _ _ _ _ _ _ _ hr =>
 have hu := hr.units
 (Zc (Zx (Zhk (Za (Z3 g2 hr (Zd ql Zi))) (ZfP (ZjO hu Zf ql ql))))
  Zh)
noncomputable def Zca : List T.S := [.forX (.tup [2, 3]) .enum [.v 1, .k (.int 0)] [.iff (.nt (.call Zaq [.v 0, .v 3])) [.raiseI ["NoSymbol", "LabelError"] Z9 [.v 2]] []]]
noncomputable def Zao : T.FI := ⟨true, T.Zr C0 2 4 Zca⟩
abbrev Zcm (e : T.En) : Prop := e.fx "check_symbols" 3 ["count", "row"] Zao
def Zeb (F : T.TI e.K "check_symbols" (top 20)) (Z : Txt e C) (g3 : ZdP e) (g0 : Zbn e) : Zcm e :=
 T.ZkO (C := C0) (body := Zca) (k := 2) Z.Y F ["count", "row", "number", "thing"] fun _ _ _ _ _ _ _ hF hr =>
 (Zy (Zgn (ZV _ _) hF (fun _ _ h => h) rfl (ZaR _ _) (hw_2 (Zc7 rfl) (Zb8 rfl)) (Zgf g_ Z.enumerate_ ql) (ZkK rfl (qg (qg ZkD)))
  (Zy (Zdp (Zc2 (ZbT (Za (Z3 g3 hr (Zd ql (Zd ql Zi)))))) (Zy (ZcQ rfl (ZV _ _) g0 hr (Zd ql Zi))
  ZR) ZR)
  ZR))
  ZR)
noncomputable def ZcW : List T.S := [.for_ (.name 1) .val [.g (.node .ftp false ((([5, 7, 11, 13, 17, 19, 23, 29, 31, 37, 41, 43, 47] : List Int).map V.int).map D.sc))] [.iff (.cmp .Eq (.v 0) (.fs [.k (.str "symbols "), .v 1])) [.ret (.v 1)] []], .raise (.k .non)]
noncomputable def Zbg : T.FI := ⟨true, T.Zr C0 1 2 ZcW⟩
abbrev Zdr (e : T.En) : Prop := e.fn "prime_told" 1 ["first"] Zbg
def Zfw (F : T.TI e.K "prime_told" (top 25)) (Z : Txt e C)  : Zdr e :=
 T.Zau (C := C0) (body := ZcW) (k := 0) Z.Y F ["first", "prime"] fun _ _ _ _ _ _ _ hr =>
 have hu := hr.units
 (Zc (Zmr PassesOwn.never rfl (qgu Z.PRIMES_) qt
  (Zc (ZM (Zz hu ql (Za (Zev (Zeu (Zet ql Zes))))) (Zc (Zx (Zdj qv))
  Zh) Zh)
  Zh))
  (Zc ZbW
  Zh))
noncomputable def Zbh : List T.S := [.asg 1 (.dct1 (.inr "-") (.tup [.k (.str "nothing"), .k .non])), .for_ (.name 2) .val [.k (.str "abcdefghijklmnopqrstuvwxyz0123456789")] [.sub 1 [] (.v 2) (.tup [.k (.str "sign"), .v 2])], .for_ (.name 3) .rng1 [.v 0] [.sub 1 [] (.fs [.k (.str "lock"), .v 3]) (.tup [.k (.str "lock"), .v 3]), .sub 1 [] (.fs [.k (.str "shift"), .v 3]) (.tup [.k (.str "shift"), .v 3])], .ret (.v 1)]
noncomputable def Zaj : T.FI := ⟨true, T.Zr C0 1 4 Zbh⟩
abbrev Zbo (e : T.En) : Prop := e.fn "meanings_of_words" 1 ["cases"] Zaj
def ZcT (F : T.TI e.K "meanings_of_words" (top 26)) (Z : Txt e C)  : Zbo e :=
 T.Zau (C := C0) (body := Zbh) (k := 0) Z.Y F ["cases", "meanings", "sign", "case"] fun _ _ _ _ _ _ _ hr =>
 have hu := hr.units
 (Zc (qa (Zkc (key := .inr "-") Z0 (ZF (Zj (ok_k Z0) (Zj (ok_k Zb3) Zu)))))
  (Zc (Zms PassesOwn.never rfl (qgt Z.SIGNS_) qt
  (Zc (ZeR hu qv ql (ZF (Zj (ok_k Z0) (Zj (ok_v qv) Zu))))
  Zh))
  (Zc (ZaM PassesOwn.never rfl (ZaR _ _) (hw_1 (Zc7 rfl)) (ZbO Z.range_ ql) qt
  (Zc (ZeR hu qv (Za (Zev (Zeu (Zet ql Zes)))) (ZF (Zj (ok_k Z0) (Zj (ok_v qv) Zu))))
  (Zc (ZeR hu qv (Za (Zev (Zeu (Zet ql Zes)))) (ZF (Zj (ok_k Z0) (Zj (ok_v qv) Zu))))
  Zh)))
  (Zc (Zx (Zdj qv))
  Zh))))
noncomputable def Ze3 : List T.S := [.iff (.nt (.bf (.isi .str) [.v 0])) [.raise (.k .non)] [], .ret (.bm .split (.v 0) [.k (.str "\n")])]
noncomputable def Zcn : T.FI := ⟨true, T.Zr C0 1 1 Ze3⟩
abbrev Zfq (e : T.En) : Prop := e.fn "rows_of" 1 ["text"] Zcn
def Zif (F : T.TI e.K "rows_of" (top 27)) (Z : Txt e C)  : Zfq e :=
 T.Zau (C := C0) (body := Ze3) (k := 0) Z.Y F ["text"] fun _ _ _ _ _ _ _ hr =>
 (Zc (ZM (Zc2 (ZbT (Za (qi Z.isinstance_ ql Z.str_ Zk9)))) (Zc ZbW
  Zh) Zh)
  (Zc (Zx (Zgb ql (Zd (Za (ok_k Z0)) Zi)))
  Zh))
noncomputable def ZbB : List T.S := [.iff (.cmp .Gt (.bf .len [.v 0]) (.k (.int 5))) [.raise (.k .non)] [], .iff (.cmp .Eq (.bf .len [.v 0]) (.k (.int 1))) [.raise (.k .non)] []]
noncomputable def Zav : T.FI := ⟨true, T.Zr C0 1 1 ZbB⟩
abbrev ZbD (e : T.En) : Prop := e.fn "check_row_count" 1 ["rows"] Zav
def Zds (F : T.TI e.K "check_row_count" (top 28)) (Z : Txt e C)  : ZbD e :=
 T.Zau (C := C0) (body := ZbB) (k := 0) Z.Y F ["rows"] fun _ _ _ _ _ _ _ hr =>
 have hu := hr.units
 (Zc (ZM (Zz hu (Za (ZB ZL Z.len_ ZN (Zd ql Zi))) (Za (qgi Z.MOST_ROWS_))) (Zc ZbW
  Zh) Zh)
  (Zc (ZM (Zz hu (Za (ZB ZL Z.len_ ZN (Zd ql Zi))) Zf) (Zc ZbW
  Zh) Zh)
  Zh))
noncomputable def ZS : List T.S := [.asg 2 (.call Zaj [.bin .Sub (.bf .len [.v 1]) (.k (.int 1))]), .asg 3 (.lst []), .for_ (.name 4) .rng2 [.k (.int 1), .bf .len [.v 1]] [.asg 5 (.bm .split (.ix (.v 1) (.v 4)) [.k (.str " ")]), .iff (.or (.cmp .NotEq (.bf .len [.v 5]) (.v 0)) (.nt (.bf .all [.comp 1 [2] (.name 0) .val [.v 5] [] (.cmp .In (.v 0) (.v 1))]))) [.raise (.k .non)] [], .ex (.mut .append 3 [] [.comp 1 [2] (.name 0) .val [.v 5] [] (.ix (.v 1) (.v 0))])], .ret (.v 3)]
noncomputable def Zap : T.FI := ⟨true, T.Zr C0 2 6 ZS⟩
abbrev ZbC (e : T.En) : Prop := e.fn "meanings_of_rows" 2 ["prime", "rows"] Zap
def ZcY (F : T.TI e.K "meanings_of_rows" (top 29)) (Z : Txt e C) (g6 : Zbo e) : ZbC e :=
 T.Zau (C := C0) (body := ZS) (k := 1) Z.Y F ["prime", "rows", "words", "found", "number", "row"] fun _ _ _ _ _ _ _ hr =>
 have hu := hr.units
 (Zc (qa (Z3 g6 hr (Zd (Za (qb (Za (ZB ZL Z.len_ ZN (Zd ql Zi))) Zf)) Zi)))
  (Zc (qa (ZY Zu))
  (Zc (ZaM PassesOwn.never rfl (ZaR _ _) (hw_2 (Zb8 rfl) (Zb8 rfl)) (ZlE Z.range_ Zf (Za (ZB ZL Z.len_ ZN (Zd ql Zi)))) qt
  (Zc (qa (Zgb (Za (Zs hu ql ql)) (Zd (Za (ok_k Z0)) Zi)))
  (Zc (ZM (PW.pt (Zb7 (Zz hu (Za (ZB ZL Z.len_ ZN (Zd ql Zi))) ql) (Zc1 (Zc2 (ZbT (Za (ZB (Zn7 rfl) Z.all_ ZnE (Zd (Za (ZeL rfl (cS ["word", "words"]) (ZbX ql) (fun _ _ _ _ _ => ⟨qt, Zep, (Zhv hu ql ql)⟩))) Zi)))))))) (Zc ZbW
  Zh) Zh)
  (Zc (Zbt (Zck qv (Zj (ZeL rfl (cS ["word", "words"]) (ZbX ql) (fun _ _ _ _ _ => ⟨qt, Zep, (Zs hu ql ql)⟩)) Zu)))
  Zh))))
  (Zc (Zx (Zdj qv))
  Zh))))
noncomputable def ZbE (C : Addr) : List T.S := [.asg 2 (.call Zcn [.v 1]), .attr 0 "size" (.call Zbg [.ix (.v 2) (.k (.int 0))]), .ex (.call Zav [.v 2]), .attr 0 "meanings" (.call Zap [.fld (.v 0) "size", .v 2]), .attr 0 "text" (.v 1)]
noncomputable def ZaU (C : Addr) : T.FI := ⟨true, T.Zr (CK C) 2 3 (ZbE C)⟩
abbrev Zcb (e : T.En) (C : Addr) : Prop := e.nw "Table" C 3 ["self", "text"] (ZaU C)
def ZdK (F : T.MI e.K C "__init__" "Table.__init__" (Zax (top 30) 0)) (Z : Txt e C) (g7 : Zfq e) (g5 : Zdr e) (g8 : ZbD e) (g9 : ZbC e) : Zcb e C :=
 T.Zrv (C := (CK C)) (body := (ZbE C)) (k := 2) Z.Y Z.ci F ["self", "text", "rows"] fun _ _ _ _ _ _ _ hr =>
 have hu := hr.units
 (Zc (qa (Z3 g7 hr (Zd ql Zi)))
  (Zc (ZeO Z.fok qv (Z3 g5 hr (Zd (Za (Zs hu ql Zf)) Zi)))
  (Zc (Zbt (Z3 g8 hr (Zd ql Zi)))
  (Zc (ZeO Z.fok qv (Z3 g9 hr (Zd (Za (ZfQ Z.fok ql)) (Zd ql Zi))))
  (Zc (ZeO Z.fok qv (ok_v qv))
  Zh)))))
noncomputable def Zco (C : Addr) : List T.S := [.asg 3 (.ix (.v 1) (.k (.int 0))), .asg 4 (.ix (.v 1) (.k (.int 1))), .asg 5 (.ix (.ix (.fld (.v 0) "meanings") (.ife (.isN true (.v 4)) (.v 3) (.v 4))) (.v 2)), .iff (.cmp .Eq (.ix (.v 5) (.k (.int 0))) (.k (.str "sign"))) [.ret (.tup [.tup [.v 3, .k .non], .ix (.v 5) (.k (.int 1))])] [], .iff (.or (.cmp .Eq (.ix (.v 5) (.k (.int 0))) (.k (.str "nothing"))) (.isN false (.v 4))) [.ret (.tup [.k .non, .k (.str "")])] [], .iff (.cmp .Eq (.ix (.v 5) (.k (.int 0))) (.k (.str "lock"))) [.ret (.tup [.tup [.ix (.v 5) (.k (.int 1)), .k .non], .k (.str "")])] [], .ret (.tup [.tup [.v 3, .ix (.v 5) (.k (.int 1))], .k (.str "")])]
noncomputable def ZaI (C : Addr) : T.FI := ⟨true, T.Zr (CK C) 3 6 (Zco C)⟩
abbrev ZcE (e : T.En) (C : Addr) : Prop := e.me C "behind" 1 ["self", "place", "symbol"] (ZaI C)
def Ze4 (F : T.MI e.K C "behind" "Table.behind" (Zax (top 30) 5)) (Z : Txt e C)  : ZcE e C :=
 T.Zru (C := (CK C)) (body := (Zco C)) (k := 0) Z.ci.cl F ["self", "place", "symbol", "case", "shifted", "meaning"] fun _ _ _ _ _ _ _ hr =>
 have hu := hr.units
 (Zc (qa (Zs hu ql Zf))
  (Zc (qa (Zs hu ql Zf))
  (Zc (qa (Zs hu (Za (Zs hu (Za (ZfQ Z.fok ql)) (Za (Zn4 (ZeS ql) (ok_v qv) (ok_v qv))))) ql))
  (Zc (ZM (Zz hu (Za (Zs hu ql Zf)) (Za (ok_k Z0))) (Zc (Zx (ZF (Zj (ZF (Zj (ok_v qv) (Zj (ok_k Zb3) Zu))) (Zj (Zs hu ql Zf) Zu))))
  Zh) Zh)
  (Zc (ZM (PW.pt (Zb7 (Zz hu (Za (Zs hu ql Zf)) (Za (ok_k Z0))) (Zc1 (Zgh ql)))) (Zc (Zx (ZF (Zj (ok_k Zb3) (Zj (ok_k Z0) Zu))))
  Zh) Zh)
  (Zc (ZM (Zz hu (Za (Zs hu ql Zf)) (Za (ok_k Z0))) (Zc (Zx (ZF (Zj (ZF (Zj (Zs hu ql Zf) (Zj (ok_k Zb3) Zu))) (Zj (ok_k Z0) Zu))))
  Zh) Zh)
  (Zc (Zx (ZF (Zj (ZF (Zj (ok_v qv) (Zj (Zs hu ql Zf) Zu))) (Zj (ok_k Z0) Zu))))
  Zh)))))))
noncomputable def Zal (C : Addr) : List T.S := [.exX Zao [.fld (.v 0) "size", .v 1], .asg 2 (.lst []), .asg 3 (.g (.node .ftp false (([.int 0, .non] : List V).map D.sc))), .forX (.tup [4, 5]) .enum [.v 1, .k (.int 0)] [.asg 6 (.meth C "behind" (ZaI C) (.v 0) [.v 3, .v 5]), .iff (.isN true (.ix (.v 6) (.k (.int 0)))) [.raiseI ["NoReading", "LabelError"] Z2 [.v 4]] [], .asg 3 (.ix (.v 6) (.k (.int 0))), .ex (.mut .append 2 [] [.ix (.v 6) (.k (.int 1))])], .iff (.isN false (.ix (.v 3) (.k (.int 1)))) [.raiseI ["NoReading", "LabelError"] Z2 [.bf .len [.v 1]]] [], .ret (.bm .join (.k (.str "")) [.v 2])]
noncomputable def ZA (C : Addr) : T.FI := ⟨true, T.Zr (CK C) 2 7 (Zal C)⟩
abbrev Zdt (e : T.En) (C : Addr) : Prop := e.mx C "read" 4 ["self", "row"] (ZA C)
def Zfx (F : T.MI e.K C "read" "Table.read" (Zax (top 30) 6)) (Z : Txt e C) (g4 : Zcm e) (g11 : ZcE e C) (g1 : Zbf e) : Zdt e C :=
 T.ZoA (C := (CK C)) (body := (Zal C)) (k := 3) Z.ci.cl F ["self", "row", "signs", "place", "number", "symbol", "step"] fun _ _ _ _ _ _ _ hF hr =>
 have hu := hr.units
 (Zy (ZiR (Zo0 (ZV _ _) g4 hr (Zd (Za (ZfQ Z.fok ql)) (Zd ql Zi))))
  (Zy (ZD (qa (ZY Zu)))
  (Zy (ZD (qa (qgu Z.BEGINNING_)))
  (Zy (Zgn (ZV _ _) hF (fun _ _ h => h) rfl (ZaR _ _) (hw_2 (Zc7 rfl) (Zb8 rfl)) (Zgf g_ Z.enumerate_ ql) (ZkK rfl (qg (qg ZkD)))
  (Zy (ZD (qa (ZlK g11 hr ql (Zd ql (Zd ql Zi)))))
  (Zy (Zdp (ZeS (Za (Zs hu ql Zf))) (Zy (ZcQ rfl (ZV _ _) g1 hr (Zd ql Zi))
  ZR) ZR)
  (Zy (ZD (qa (Zs hu ql Zf)))
  (Zy (ZD (Zbt (Zck qv (Zj (Zs hu ql Zf) Zu))))
  ZR)))))
  (Zy (Zdp (Zgh (Za (Zs hu ql Zf))) (Zy (ZcQ rfl (ZV _ _) g1 hr (Zd (Za (ZB ZL Z.len_ ZN (Zd ql Zi))) Zi))
  ZR) ZR)
  (Zy (ZD (Zx (ZeN (Za (ok_k Z0)) (Zd ql Zi))))
  ZR))))))
noncomputable def Zdu : List T.S := [.iff (.cmp .GtE (.v 1) (.bf .len [.v 0])) [.ret (.k (.int 0))] [], .ret (.ix (.v 0) (.v 1))]
noncomputable def Za1 : T.FI := ⟨true, T.Zr C0 2 2 Zdu⟩
abbrev ZdQ (e : T.En) : Prop := e.fn "_law_cell" 1 ["_law_script", "_law_place"] Za1
def Zgu (F : T.TI e.K "_law_cell" (top 32)) (Z : Txt e C)  : ZdQ e :=
 T.Zau (C := C0) (body := Zdu) (k := 0) Z.Y F ["_law_script", "_law_place"] fun _ _ _ _ _ _ _ hr =>
 have hu := hr.units
 (Zc (ZM (Zz hu ql (Za (ZB ZL Z.len_ ZN (Zd ql Zi)))) (Zc (Zx (ok_k Zam))
  Zh) Zh)
  (Zc (Zx (Zs hu ql ql))
  Zh))
noncomputable def Zbi : List T.S := [.asg 3 (.bin .Mod (.v 0) (.k (.int 1000000009))), .asg 4 (.bin .Mod (.bin .FloorDiv (.v 0) (.k (.int 1000000009))) (.k (.int 998244353))), .asg 5 (.bin .Mod (.bin .Mult (.bin .Add (.bin .Add (.v 3) (.bin .Mult (.k (.int 7919)) (.v 1))) (.k (.int 1))) (.bin .Add (.bin .Add (.v 4) (.bin .Mult (.k (.int 104729)) (.v 1))) (.k (.int 2)))) (.k (.int 2147483629))), .ret (.bin .Mod (.bin .Mod (.bin .Mult (.v 5) (.bin .Add (.bin .Add (.v 5) (.bin .Mult (.k (.int 2)) (.v 1))) (.k (.int 3)))) (.k (.int 2147483629))) (.v 2))]
noncomputable def Zo : T.FI := ⟨true, T.Zr C0 3 6 Zbi⟩
abbrev Zby (e : T.En) : Prop := e.fn "_law_spun" 1 ["_law_cell_here", "_law_turn", "_law_many"] Zo
def Zgv (F : T.TI e.K "_law_spun" (top 33)) (Z : Txt e C)  : Zby e :=
 T.Zau (C := C0) (body := Zbi) (k := 0) Z.Y F ["_law_cell_here", "_law_turn", "_law_many", "_law_low", "_law_high", "_law_number"] fun _ _ _ _ _ _ _ hr =>
 (Zc (qa (qb ql Zf))
  (Zc (qa (qb (Za (qb ql Zf)) Zf))
  (Zc (qa (qb (Za (qb (Za (qb (Za (qb ql (Za (qb Zf ql)))) Zf)) (Za (qb (Za (qb ql (Za (qb Zf ql)))) Zf)))) Zf))
  (Zc (Zx (qb (Za (qb (Za (qb ql (Za (qb (Za (qb ql (Za (qb Zf ql)))) Zf)))) Zf)) ql))
  Zh))))
noncomputable def Zbj : List T.S := [.iff (.cmp .Lt (.bin .Mod (.v 0) (.k (.int 16))) (.k (.int 10))) [.ret (.ix (.v 1) (.bin .Mod (.bin .FloorDiv (.v 0) (.k (.int 16))) (.bf .len [.v 1])))] [], .iff (.cmp .Lt (.bin .Mod (.v 0) (.k (.int 16))) (.k (.int 12))) [.ret (.bin .Add (.k (.str "lock")) (.bf .str [.bin .Mod (.bin .FloorDiv (.v 0) (.k (.int 16))) (.v 2)]))] [], .iff (.cmp .Lt (.bin .Mod (.v 0) (.k (.int 16))) (.k (.int 14))) [.ret (.bin .Add (.k (.str "shift")) (.bf .str [.bin .Mod (.bin .FloorDiv (.v 0) (.k (.int 16))) (.v 2)]))] [], .ret (.k (.str "-"))]
noncomputable def Zae : T.FI := ⟨true, T.Zr C0 3 3 Zbj⟩
abbrev ZdR (e : T.En) : Prop := e.fn "_law_word" 1 ["_law_x", "_law_pool", "_law_cases"] Zae
def Zgw (F : T.TI e.K "_law_word" (top 34)) (Z : Txt e C)  : ZdR e :=
 T.Zau (C := C0) (body := Zbj) (k := 0) Z.Y F ["_law_x", "_law_pool", "_law_cases"] fun _ _ _ _ _ _ _ hr =>
 have hu := hr.units
 (Zc (ZM (Zz hu (Za (qb ql Zf)) Zf) (Zc (Zx (Zs hu ql (Za (qb (Za (qb ql Zf)) (Za (ZB ZL Z.len_ ZN (Zd ql Zi)))))))
  Zh) Zh)
  (Zc (ZM (Zz hu (Za (qb ql Zf)) Zf) (Zc (Zx (qb (Za (ok_k Z0)) (Za (ZbU ZfS Z.str_ ZfY (Zd (Za (qb (Za (qb ql Zf)) ql)) Zi)))))
  Zh) Zh)
  (Zc (ZM (Zz hu (Za (qb ql Zf)) Zf) (Zc (Zx (qb (Za (ok_k Z0)) (Za (ZbU ZfS Z.str_ ZfY (Zd (Za (qb (Za (qb ql Zf)) ql)) Zi)))))
  Zh) Zh)
  (Zc (Zx (ok_k Z0))
  Zh))))
noncomputable def Za8 : List T.S := [.asg 2 (.call Za1 [.v 0, .v 1]), .asg 3 (.kl [(.int 5), (.int 7), (.int 11), (.int 13), (.int 17), (.int 19), (.int 23), (.int 29), (.int 31), (.int 37), (.int 41), (.int 43), (.int 47), (.int 5), (.int 7), (.int 5), (.int 7), (.int 11)]), .asg 4 (.ix (.v 3) (.call Zo [.v 2, .k (.int 1), .k (.int 18)])), .asg 5 (.bin .Add (.k (.int 1)) (.call Zo [.v 2, .k (.int 2), .k (.int 4)])), .asg 6 (.k (.str "q7abcdefghijklmnoprstuvwxyz012345689")), .asg 7 (.ix (.kl [(.int 2), (.int 4), (.int 8), (.int 36)]) (.call Zo [.v 2, .k (.int 3), .k (.int 4)])), .asg 8 (.sl (.sl (.v 6) (.call Zo [.v 2, .k (.int 4), .bin .Sub (.k (.int 37)) (.v 7)]) (.k .non)) (.k .non) (.v 7)), .asg 9 (.lst []), .for_ (.name 10) .rng1 [.v 5] [.asg 11 (.call Za1 [.v 0, .bin .Add (.bin .Add (.v 1) (.k (.int 1))) (.v 10)]), .asg 12 (.comp 1 [11] (.name 0) .rng1 [.v 4] [] (.call Zo [.v 1, .bin .Add (.k (.int 10)) (.v 0), .bin .Mult (.k (.int 16)) (.k (.int 144))])), .ex (.mut .append 9 [] [.comp 1 [8, 5] (.name 0) .val [.v 12] [] (.call Zae [.v 0, .v 1, .v 2])])], .ret (.v 9)]
noncomputable def Zbz : T.FI := ⟨true, T.Zr C0 2 13 Za8⟩
abbrev ZdS (e : T.En) : Prop := e.fn "_law_rows" 2 ["_law_script", "_law_at"] Zbz
def Zgx (F : T.TI e.K "_law_rows" (top 35)) (Z : Txt e C) (g13 : ZdQ e) (g14 : Zby e) (g15 : ZdR e) : ZdS e :=
 T.Zau (C := C0) (body := Za8) (k := 1) Z.Y F ["_law_script", "_law_at", "_law_first", "_law_primes", "_law_prime", "_law_cases", "_law_known", "_law_size", "_law_pool", "_law_rows_here", "_law_case", "_law_cell_here", "_law_xs"] fun _ _ _ _ _ _ _ hr =>
 have hu := hr.units
 (Zc (qa (Z3 g13 hr (Zd ql (Zd ql Zi))))
  (Zc (qa (ZkE (vs := [(.int 5), (.int 7), (.int 11), (.int 13), (.int 17), (.int 19), (.int 23), (.int 29), (.int 31), (.int 37), (.int 41), (.int 43), (.int 47), (.int 5), (.int 7), (.int 5), (.int 7), (.int 11)]) (by kernel_rfl)))
  (Zc (qa (Zs hu ql (Za (Z3 g14 hr (Zd ql (Zd Zf (Zd Zf Zi)))))))
  (Zc (qa (qb Zf (Za (Z3 g14 hr (Zd ql (Zd Zf (Zd Zf Zi)))))))
  (Zc (qa (ok_k Z0))
  (Zc (qa (Zs hu (Za (ZkE (vs := [(.int 2), (.int 4), (.int 8), (.int 36)]) (by kernel_rfl))) (Za (Z3 g14 hr (Zd ql (Zd Zf (Zd Zf Zi)))))))
  (Zc (qa (Zbc (Za (Zbc ql (Zak (Za (Z3 g14 hr (Zd ql (Zd Zf (Zd (Za (qb Zf ql)) Zi)))))) Zbx)) Zbx (Zak ql)))
  (Zc (qa (ZY Zu))
  (Zc (ZaM PassesOwn.never rfl (ZaR _ _) (hw_1 (Zc7 rfl)) (ZbO Z.range_ ql) qt
  (Zc (qa (Z3 g13 hr (Zd ql (Zd (Za (qb (Za (qb ql Zf)) ql)) Zi))))
  (Zc (qs (cS ["_law_k", "_law_cell_here"]) (ZbO Z.range_ ql) (fun _ _ _ _ _ => ⟨qt, Zep, (Z3 g14 hr (Zd ql (Zd (Za (qb Zf ql)) (Zd (Za (qb Zf Zf)) Zi))))⟩))
  (Zc (Zbt (Zck qv (Zj (ZeL rfl (cS ["_law_x", "_law_pool", "_law_cases"]) (ZbX ql) (fun _ _ _ _ _ => ⟨qt, Zep, (Z3 g15 hr (Zd ql (Zd ql (Zd ql Zi))))⟩)) Zu)))
  Zh))))
  (Zc (Zx (Zdj qv))
  Zh))))))))))
noncomputable def Zdv : List T.S := [.asg 1 (.lst [.bin .Add (.k (.str "symbols ")) (.bf .str [.bf .len [.ix (.v 0) (.k (.int 0))]])]), .for_ (.name 2) .val [.v 0] [.ex (.mut .append 1 [] [.bm .join (.k (.str " ")) [.v 2]])], .ret (.bm .join (.k (.str "\n")) [.v 1])]
noncomputable def Zb0 : T.FI := ⟨true, T.Zr C0 1 3 Zdv⟩
abbrev ZdT (e : T.En) : Prop := e.fn "_law_text" 1 ["_law_rows_here"] Zb0
def Zgy (F : T.TI e.K "_law_text" (top 36)) (Z : Txt e C)  : ZdT e :=
 T.Zau (C := C0) (body := Zdv) (k := 0) Z.Y F ["_law_rows_here", "_law_lines", "_law_row_here"] fun _ _ _ _ _ _ _ hr =>
 have hu := hr.units
 (Zc (qa (ZY (Zj (qb (Za (ok_k Z0)) (Za (ZbU ZfS Z.str_ ZfY (Zd (Za (ZB ZL Z.len_ ZN (Zd (Za (Zs hu ql Zf)) Zi))) Zi)))) Zu)))
  (Zc (ZaM PassesOwn.never rfl (ZaR _ _) (hw_1 (Zc7 rfl)) (ZbX ql) qt
  (Zc (Zbt (Zck qv (Zj (ZeN (Za (ok_k Z0)) (Zd ql Zi)) Zu)))
  Zh))
  (Zc (Zx (ZeN (Za (ok_k Z0)) (Zd ql Zi)))
  Zh)))
noncomputable def Za9 : List T.S := [.asg 2 (.k (.str "")), .asg 3 (.k (.int 0)), .asg 4 (.neg (.k (.int 1))), .for_ (.name 5) .rng1 [.bf .len [.v 1]] [.asg 6 (.ix (.ix (.v 0) (.v 3)) (.ix (.v 1) (.v 5))), .iff (.cmp .GtE (.v 4) (.k (.int 0))) [.asg 6 (.ix (.ix (.v 0) (.v 4)) (.ix (.v 1) (.v 5))), .asg 4 (.neg (.k (.int 1))), .iff (.or (.cmp .Gt (.bf .len [.v 6]) (.k (.int 1))) (.cmp .Eq (.v 6) (.k (.str "-")))) [.ret (.tup [.k (.int 1), .v 5])] [], .asg 2 (.bin .Add (.v 2) (.v 6))] [.iff (.cmp .Eq (.v 6) (.k (.str "-"))) [.ret (.tup [.k (.int 1), .v 5])] [.iff (.cmp .Eq (.sl (.v 6) (.k .non) (.k (.int 4))) (.k (.str "lock"))) [.asg 3 (.bf .int [.ix (.v 6) (.neg (.k (.int 1)))])] [.iff (.cmp .Eq (.sl (.v 6) (.k .non) (.k (.int 5))) (.k (.str "shift"))) [.asg 4 (.bf .int [.ix (.v 6) (.neg (.k (.int 1)))])] [.asg 2 (.bin .Add (.v 2) (.v 6))]]]]], .iff (.cmp .GtE (.v 4) (.k (.int 0))) [.ret (.tup [.k (.int 1), .bf .len [.v 1]])] [], .ret (.tup [.k (.int 0), .v 2])]
noncomputable def Zar : T.FI := ⟨true, T.Zr C0 2 7 Za9⟩
abbrev Zcw (e : T.En) : Prop := e.fn "_law_read" 1 ["_law_rows_here", "_law_row_here"] Zar
def Zgz (F : T.TI e.K "_law_read" (top 37)) (Z : Txt e C)  : Zcw e :=
 T.Zau (C := C0) (body := Za9) (k := 0) Z.Y F ["_law_rows_here", "_law_row_here", "_law_found", "_law_case", "_law_ahead", "_law_k", "_law_word_here"] fun _ _ _ _ _ _ _ hr =>
 have hu := hr.units
 (Zc (qa (ok_k Z0))
  (Zc (qa (ok_k Zam))
  (Zc (qa (Zc0 Zf))
  (Zc (ZaM PassesOwn.never rfl (ZaR _ _) (hw_1 (Zb8 rfl)) (ZbO Z.range_ (Za (ZB ZL Z.len_ ZN (Zd ql Zi)))) qt
  (Zc (qa (Zs hu (Za (Zs hu ql ql)) (Za (Zs hu ql ql))))
  (Zc (ZM (Zz hu ql Zf) (Zc (qa (Zs hu (Za (Zs hu ql ql)) (Za (Zs hu ql ql))))
  (Zc (qa (Zc0 Zf))
  (Zc (ZM (PW.pt (Zb7 (Zz hu (Za (ZB ZL Z.len_ ZN (Zd ql Zi))) Zf) (Zc1 (Zz hu ql (Za (ok_k Z0)))))) (Zc (Zx (ZF (Zj (ok_k Zam) (Zj (ok_v qv) Zu))))
  Zh) Zh)
  (Zc (qa (qb ql ql))
  Zh)))) (Zc (ZM (Zz hu ql (Za (ok_k Z0))) (Zc (Zx (ZF (Zj (ok_k Zam) (Zj (ok_v qv) Zu))))
  Zh) (Zc (ZM (Zz hu (Za (Zbc ql Zbx (Zak Zf))) (Za (ok_k Z0))) (Zc (qa (ZbU ZfT Z.int_ ZfZ (Zd (Za (Zs hu ql (Za (Zc0 Zf)))) Zi)))
  Zh) (Zc (ZM (Zz hu (Za (Zbc ql Zbx (Zak Zf))) (Za (ok_k Z0))) (Zc (qa (ZbU ZfT Z.int_ ZfZ (Zd (Za (Zs hu ql (Za (Zc0 Zf)))) Zi)))
  Zh) (Zc (qa (qb ql ql))
  Zh))
  Zh))
  Zh))
  Zh))
  Zh)))
  (Zc (ZM (Zz hu ql Zf) (Zc (Zx (ZF (Zj (ok_k Zam) (Zj (ZB ZL Z.len_ ZN (Zd ql Zi)) Zu))))
  Zh) Zh)
  (Zc (Zx (ZF (Zj (ok_k Zam) (Zj (ok_v qv) Zu))))
  Zh))))))
noncomputable def ZaN : List T.S := [.asg 2 (.lst []), .for_ (.name 3) .rng1 [.call Zo [.v 1, .k (.int 1), .k (.int 41)]] [.asg 4 (.call Zo [.v 1, .bin .Add (.k (.int 20)) (.v 3), .bf .len [.ix (.v 0) (.k (.int 0))]]), .asg 5 (.bin .Add (.v 2) (.lst [.v 4])), .asg 6 (.call Zar [.v 0, .v 5]), .iff (.or (.cmp .Eq (.ix (.v 6) (.k (.int 0))) (.k (.int 0))) (.or (.cmp .Eq (.ix (.v 6) (.k (.int 1))) (.bf .len [.v 5])) (.cmp .Eq (.call Zo [.v 1, .k (.int 2), .k (.int 2)]) (.k (.int 0))))) [.asg 2 (.v 5)] []], .ret (.v 2)]
noncomputable def Zbk : T.FI := ⟨true, T.Zr C0 2 7 ZaN⟩
abbrev Ze5 (e : T.En) : Prop := e.fn "_law_row" 2 ["_law_rows_here", "_law_cell_here"] Zbk
def ZgO (F : T.TI e.K "_law_row" (top 38)) (Z : Txt e C) (g14 : Zby e) (g18 : Zcw e) : Ze5 e :=
 T.Zau (C := C0) (body := ZaN) (k := 1) Z.Y F ["_law_rows_here", "_law_cell_here", "_law_row_here", "_law_k", "_law_symbol", "_law_longer", "_law_found"] fun _ _ _ _ _ _ _ hr =>
 have hu := hr.units
 (Zc (qa (ZY Zu))
  (Zc (ZaM PassesOwn.never rfl (ZaR _ _) (hw_1 (Zb8 rfl)) (ZbO Z.range_ (Za (Z3 g14 hr (Zd ql (Zd Zf (Zd Zf Zi)))))) qt
  (Zc (qa (Z3 g14 hr (Zd ql (Zd (Za (qb Zf ql)) (Zd (Za (ZB ZL Z.len_ ZN (Zd (Za (Zs hu ql Zf)) Zi))) Zi)))))
  (Zc (qa (qb ql (Za (ZY (Zj (ok_v qv) Zu)))))
  (Zc (qa (Z3 g18 hr (Zd ql (Zd ql Zi))))
  (Zc (ZM (PW.pt (Zb7 (Zz hu (Za (Zs hu ql Zf)) Zf) (Zb7 (Zz hu (Za (Zs hu ql Zf)) (Za (ZB ZL Z.len_ ZN (Zd ql Zi)))) (Zc1 (Zz hu (Za (Z3 g14 hr (Zd ql (Zd Zf (Zd Zf Zi))))) Zf))))) (Zc (qa (ok_v qv))
  Zh) Zh)
  Zh)))))
  (Zc (Zx (Zdj qv))
  Zh)))
noncomputable def ZdU : List T.S := [.asg 2 (.lst [.v 1, .bin .Add (.v 1) (.k (.int 7)), .neg (.k (.int 1)), .neg (.v 1), .bin .Pow (.k (.int 10)) (.k (.int 19)), .k .non, .k (.bl true), .k (.bl false), .k (.str "0"), .k (.str "a"), .lst [.k (.int 0)], .tup [.k (.int 1)]]), .ret (.ix (.v 2) (.bin .Mod (.v 0) (.k (.int 12))))]
noncomputable def Zbl : T.FI := ⟨true, T.Zr C0 2 3 ZdU⟩
abbrev Ze6 (e : T.En) : Prop := e.fn "_law_odd" 1 ["_law_x", "_law_prime"] Zbl
def ZgP (F : T.TI e.K "_law_odd" (top 39)) (Z : Txt e C)  : Ze6 e :=
 T.Zau (C := C0) (body := ZdU) (k := 0) Z.Y F ["_law_x", "_law_prime", "_law_some"] fun _ _ _ _ _ _ _ hr =>
 have hu := hr.units
 (Zc (qa (ZY (Zj (ok_v qv) (Zj (qb ql Zf) (Zj (Zc0 Zf) (Zj (Zc0 ql) (Zj (qb Zf Zf) (Zj (ok_k Zb3) (Zj (ok_k ZcG) (Zj (ok_k ZcG) (Zj (ok_k Z0) (Zj (ok_k Z0) (Zj (ZY (Zj (ok_k Zam) Zu)) (Zj (ZF (Zj (ok_k Zam) Zu)) Zu))))))))))))))
  (Zc (Zx (Zs hu ql (Za (qb ql Zf))))
  Zh))
noncomputable def ZZ (C : Addr) : List T.S := [.asg 2 (.k .non), .asg 3 (.k .non), .try_ [.asgY 3 (.meth C "read" (ZA C) (.v 0) [.v 1])] "LabelError" (some 4) [.asg 2 (.v 4)], .iff (.isN true (.v 2)) [.ret (.tup [.k (.int 0), .v 3])] [], .asg 5 (.lst [.bf (.isiX "NoReading") [.v 2], .bf (.isiX "NoSymbol") [.v 2], .bf (.isiX "NoTable") [.v 2]]), .asg 5 (.bin .Add (.v 5) (.lst [.bf (.isiX "NoWriting") [.v 2], .bf (.isiX "TooLong") [.v 2], .nt (.bf .isiV [.v 2])])), .asg 5 (.bin .Add (.v 5) (.lst [.bf (.isiX "Lost") [.v 2], .bf (.isiX "Mixed") [.v 2], .bf (.isiX "NoForm") [.v 2]])), .asg 5 (.bin .Add (.v 5) (.lst [.bf (.isiX "NoFount") [.v 2], .bf (.isiX "NoLabel") [.v 2], .bf (.isiX "NoName") [.v 2]])), .asg 5 (.bin .Add (.v 5) (.lst [.bf (.isiX "NoRoom") [.v 2], .bf (.isiX "Spoilt") [.v 2]])), .iff (.or (.bf .any [.sl (.v 5) (.k (.int 2)) (.k .non)]) (.cmp .Eq (.ix (.v 5) (.k (.int 0))) (.ix (.v 5) (.k (.int 1))))) [.ret (.tup [.k (.int 9), .k (.int 0)])] [], .ret (.tup [.bin .Add (.k (.int 1)) (.bf .int [.ix (.v 5) (.k (.int 1))]), .bf (.xfld "number") [.v 2]])]
noncomputable def Zas (C : Addr) : T.FI := ⟨true, T.Zr (CK C) 2 6 (ZZ C)⟩
abbrev ZdV (e : T.En) (C : Addr) : Prop := e.fx "_law_told" 5 ["_law_table", "_law_row_here"] (Zas C)
def Zg0 (F : T.TI e.K "_law_told" (top 40)) (Z : Txt e C) (g12 : Zdt e C) : ZdV e C :=
 T.ZkO (C := (CK C)) (body := (ZZ C)) (k := 4) Z.Y F ["_law_table", "_law_row_here", "_law_caught", "_law_found", "e", "_law_some"] fun _ _ _ _ _ _ _ hF hr =>
 have hu := hr.units
 (Zy (ZD (qa (ok_k Zb3)))
  (Zy (ZD (qa (ok_k Zb3)))
  (Zy (qty hF Z.le (Zy (qax (qmx g12 hr ql (Zd ql Zi)))
  ZR) (fun _ => (Zc (qa (ok_v qv))
  Zh)))
  (Zy (Zdp (ZeS ql) (Zy (ZD (Zx (ZF (Zj (ok_k Zam) (Zj (ok_v qv) Zu)))))
  ZR) ZR)
  (Zy (ZD (qa (ZY (Zj (qiX Z.x_g Z.isinstance_ ql) (Zj (qiX Z.x_i Z.isinstance_ ql) (Zj (qiX Z.x_j Z.isinstance_ ql) Zu))))))
  (Zy (ZD (qa (qb ql (Za (ZY (Zj (qiX Z.x_k Z.isinstance_ ql) (Zj (qiX Z.x_m Z.isinstance_ ql) (Zj (Zhl (Za (qiV Z.ValueError_ Z.isinstance_ ql))) Zu))))))))
  (Zy (ZD (qa (qb ql (Za (ZY (Zj (qiX Z.x_a Z.isinstance_ ql) (Zj (qiX Z.x_b Z.isinstance_ ql) (Zj (qiX Z.x_c Z.isinstance_ ql) Zu))))))))
  (Zy (ZD (qa (qb ql (Za (ZY (Zj (qiX Z.x_d Z.isinstance_ ql) (Zj (qiX Z.x_e Z.isinstance_ ql) (Zj (qiX Z.x_f Z.isinstance_ ql) Zu))))))))
  (Zy (ZD (qa (qb ql (Za (ZY (Zj (qiX Z.x_h Z.isinstance_ ql) (Zj (qiX Z.x_l Z.isinstance_ ql) Zu)))))))
  (Zy (Zdp (PW.pt (Zb7 (ZbT (Za (ZB (Zn8 rfl) Z.any_ ZnF (Zd (Za (Zbc ql (Zak Zf) Zbx)) Zi)))) (Zc1 (Zz hu (Za (Zs hu ql Zf)) (Za (Zs hu ql Zf)))))) (Zy (ZD (Zx (ZF (Zj (ok_k Zam) (Zj (ok_k Zam) Zu)))))
  ZR) ZR)
  (Zy (ZD (Zx (ZF (Zj (qb Zf (Za (ZbU ZfT Z.int_ ZfZ (Zd (Za (Zs hu ql Zf)) Zi)))) (Zj (Zmk ql) Zu)))))
  ZR)))))))))))
noncomputable def ZcX (C : Addr) : List T.S := [.asg 4 (.bf .list [.v 2]), .for_ (.name 5) .rng1 [.k (.int 2)] [.asg 6 (.call (Zas C) [.v 0, .v 4]), .iff (.or (.cmp .NotEq (.v 6) (.v 3)) (.or (.bf (.isi .bool) [.ix (.v 6) (.k (.int 1))]) (.cmp .NotEq (.v 4) (.v 2)))) [.ret (.k (.bl false))] []], .ret (.or (.cmp .Gt (.ix (.v 6) (.k (.int 0))) (.k (.int 0))) (.bf (.isi .str) [.ix (.v 6) (.k (.int 1))]))]
noncomputable def ZO (C : Addr) : T.FI := ⟨true, T.Zr (CK C) 4 7 (ZcX C)⟩
abbrev Zdw (e : T.En) (C : Addr) : Prop := e.fn "_law_right" 6 ["_law_table", "_law_rows_here", "_law_row_here", "_law_due"] (ZO C)
def Zfy (F : T.TI e.K "_law_right" (top 41)) (Z : Txt e C) (g21 : ZdV e C) : Zdw e C :=
 T.Zau (C := (CK C)) (body := (ZcX C)) (k := 5) Z.Y F ["_law_table", "_law_rows_here", "_law_row_here", "_law_due", "_law_handed", "_law_turn", "_law_found"] fun _ _ _ _ _ _ _ hr =>
 have hu := hr.units
 (Zc (qa (ZbU Zl9 Z.list_ ZlI (Zd ql Zi)))
  (Zc (Zmu PassesOwn.never rfl (hw_1 (Zb8 rfl)) (ZbO Z.range_ Zf) qt
  (Zc (qa (Z3 g21.calm hr (Zd ql (Zd ql Zi))))
  (Zc (ZM (PW.pt (Zb7 (Zz hu ql ql) (Zb7 (ZbT (Za (qi Z.isinstance_ (Za (Zs hu ql Zf)) Z.bool_ ZiF))) (Zc1 (Zz hu ql ql))))) (Zc (Zx (ok_k ZcG))
  Zh) Zh)
  Zh)))
  (Zc (Zx (Zn5 (Za (Zhv hu (Za (Zs hu ql Zf)) Zf)) (ZfP (qi Z.isinstance_ (Za (Zs hu ql Zf)) Z.str_ Zk9))))
  Zh)))
noncomputable def Zcc (C : Addr) : List T.S := [.asg 1 (.call Zbz [.v 0, .k (.int 0)]), .asg 2 (.new C (ZaU C) [.call Zb0 [.v 1]]), .for_ (.name 3) .val [.sl (.v 0) (.k (.int 5)) (.k (.int 25))] [.asg 4 (.call Zbk [.v 1, .v 3]), .asg 5 (.call Zar [.v 1, .v 4]), .iff (.nt (.call (ZO C) [.v 2, .v 1, .v 4, .v 5])) [.ret (.k (.bl false))] [], .iff (.cmp .Eq (.call Zo [.v 3, .k (.int 3), .k (.int 4)]) (.k (.int 1))) [.asg 6 (.call Zo [.v 3, .k (.int 4), .bin .Add (.bf .len [.v 4]) (.k (.int 1))]), .asg 7 (.bin .Add (.bin .Add (.sl (.v 4) (.k .non) (.v 6)) (.lst [.call Zbl [.call Zo [.v 3, .k (.int 5), .k (.int 12)], .bf .len [.ix (.v 1) (.k (.int 0))]]])) (.sl (.v 4) (.v 6) (.k .non))), .asg 8 (.call Zo [.v 3, .k (.int 6), .bin .Add (.bf .len [.v 7]) (.k (.int 1))]), .asg 9 (.sl (.lst [.call Zbl [.call Zo [.v 3, .k (.int 7), .k (.int 12)], .bf .len [.ix (.v 1) (.k (.int 0))]]]) (.k .non) (.call Zo [.v 3, .k (.int 8), .k (.int 2)])), .asg 7 (.bin .Add (.bin .Add (.sl (.v 7) (.k .non) (.v 8)) (.v 9)) (.sl (.v 7) (.v 8) (.k .non))), .asg 5 (.tup [.k (.int 2), .bf .minL [.bin .Add (.lst [.v 6]) (.bin .Mult (.lst [.v 8]) (.bf .len [.v 9]))]]), .iff (.nt (.call (ZO C) [.v 2, .v 1, .v 7, .v 5])) [.ret (.k (.bl false))] []] []], .ret (.k (.bl true))]
noncomputable def Zf5 (C : Addr) : T.FI := ⟨true, T.Zr (CK C) 1 10 (Zcc C)⟩
def ZoC {f : Addr} {fd : FuncData} (F : Fun e.K "law" "law" (top 42) f fd) (Z : Txt e C) (g16 : ZdS e) (g10 : Zcb e C) (g17 : ZdT e) (g19 : Ze5 e) (g18 : Zcw e) (g22 : Zdw e C) (g14 : Zby e) (g20 : Ze6 e) : FnOk e.P e.w e.K e.mg e.base CX0 7 f fd ["_law_script"] (T.spF e.K (Zf5 C).run) :=
 T.Zo9 (C := (CK C)) (body := (Zcc C)) (k := 6) F ["_law_script", "_law_rows_here", "_law_table", "_law_cell_here", "_law_row_here", "_law_due", "_law_at", "_law_spoilt", "_law_other", "_law_more"] fun _ _ _ _ _ _ _ hr =>
 have hu := hr.units
 (Zc (qa (Z3 g16 hr (Zd ql (Zd Zf Zi))))
  (Zc (qa (ZnI g10 hr (Zd (Za (Z3 g17 hr (Zd ql Zi))) Zi)))
  (Zc (ZaM PassesOwn.never rfl (ZaR _ _) (hw_1 (Zb8 rfl)) (ZbX (Za (Zbc ql (Zak Zf) (Zak Zf)))) qt
  (Zc (qa (Z3 g19 hr (Zd ql (Zd ql Zi))))
  (Zc (qa (Z3 g18 hr (Zd ql (Zd ql Zi))))
  (Zc (ZM (Zc2 (ZbT (Za (Z3 g22 hr (Zd ql (Zd ql (Zd ql (Zd ql Zi)))))))) (Zc (Zx (ok_k ZcG))
  Zh) Zh)
  (Zc (ZM (Zz hu (Za (Z3 g14 hr (Zd ql (Zd Zf (Zd Zf Zi))))) Zf) (Zc (qa (Z3 g14 hr (Zd ql (Zd Zf (Zd (Za (qb (Za (ZB ZL Z.len_ ZN (Zd ql Zi))) Zf)) Zi)))))
  (Zc (qa (qb (Za (qb (Za (Zbc ql Zbx (Zak ql))) (Za (ZY (Zj (Z3 g20 hr (Zd (Za (Z3 g14 hr (Zd ql (Zd Zf (Zd Zf Zi))))) (Zd (Za (ZB ZL Z.len_ ZN (Zd (Za (Zs hu ql Zf)) Zi))) Zi))) Zu))))) (Za (Zbc ql (Zak ql) Zbx))))
  (Zc (qa (Z3 g14 hr (Zd ql (Zd Zf (Zd (Za (qb (Za (ZB ZL Z.len_ ZN (Zd ql Zi))) Zf)) Zi)))))
  (Zc (qa (Zbc (Za (ZY (Zj (Z3 g20 hr (Zd (Za (Z3 g14 hr (Zd ql (Zd Zf (Zd Zf Zi))))) (Zd (Za (ZB ZL Z.len_ ZN (Zd (Za (Zs hu ql Zf)) Zi))) Zi))) Zu))) Zbx (Zak (Za (Z3 g14 hr (Zd ql (Zd Zf (Zd Zf Zi))))))))
  (Zc (qa (qb (Za (qb (Za (Zbc ql Zbx (Zak ql))) ql)) (Za (Zbc ql (Zak ql) Zbx))))
  (Zc (qa (ZF (Zj (ok_k Zam) (Zj (ZB (Zmt rfl) Z.min_ ZnG (Zd (Za (qb (Za (ZY (Zj (ok_v qv) Zu))) (Za (qb (Za (ZY (Zj (ok_v qv) Zu))) (Za (ZB ZL Z.len_ ZN (Zd ql Zi))))))) Zi)) Zu))))
  (Zc (ZM (Zc2 (ZbT (Za (Z3 g22 hr (Zd ql (Zd ql (Zd ql (Zd ql Zi)))))))) (Zc (Zx (ok_k ZcG))
  Zh) Zh)
  Zh))))))) Zh)
  Zh)))))
  (Zc (Zx (ok_k ZcG))
  Zh))))
def ZoD {l : PySem.W.OpenLaw} {w : World} {K : Fg} {h : Heap} {mg : SO} {fa L Kaa Kab Kac Kad Kae Kaf Kag Kah Kai Kaj Kak Kal Kam : Addr} (X : K.In h) (G : h.Ns mainGlobals mg) (hfa : mg "law" = some (.ref fa))
 (cC : T.CI K "Table" C)
 (nF0 : PySem.W.findIn K (.ref C) "size" = some none)
 (nF1 : PySem.W.findIn K (.ref C) "meanings" = some none)
 (nF2 : PySem.W.findIn K (.ref C) "text" = some none)
 (hL : T.LB K L)
 (b_a : T.XB K L "Lost" Kaa)
 (b_b : T.XB K L "Mixed" Kab)
 (b_c : T.XB K L "NoForm" Kac)
 (b_d : T.XB K L "NoFount" Kad)
 (b_e : T.XB K L "NoLabel" Kae)
 (b_f : T.XB K L "NoName" Kaf)
 (b_g : T.XB K L "NoReading" Kag)
 (b_h : T.XB K L "NoRoom" Kah)
 (b_i : T.XB K L "NoSymbol" Kai)
 (b_j : T.XB K L "NoTable" Kaj)
 (b_k : T.XB K L "NoWriting" Kak)
 (b_l : T.XB K L "Spoilt" Kal)
 (b_m : T.XB K L "TooLong" Kam)
 (a_g : T.XA K Kag)
 (a_i : T.XA K Kai)
 (i_g : T.II K Kag "NoReading.__init__" (Zax (top 5) 0))
 (i_i : T.II K Kai "NoSymbol.__init__" (Zax (top 4) 0))
 (hI : XI K L)
 (d2 : T.TI K "is_whole" (top 18))
 (d3 : T.TI K "is_symbol" (top 19))
 (d4 : T.TI K "check_symbols" (top 20))
 (d5 : T.TI K "prime_told" (top 25))
 (d6 : T.TI K "meanings_of_words" (top 26))
 (d7 : T.TI K "rows_of" (top 27))
 (d8 : T.TI K "check_row_count" (top 28))
 (d9 : T.TI K "meanings_of_rows" (top 29))
 (d10 : T.MI K C "__init__" "Table.__init__" (Zax (top 30) 0))
 (d11 : T.MI K C "behind" "Table.behind" (Zax (top 30) 5))
 (d12 : T.MI K C "read" "Table.read" (Zax (top 30) 6))
 (d13 : T.TI K "_law_cell" (top 32))
 (d14 : T.TI K "_law_spun" (top 33))
 (d15 : T.TI K "_law_word" (top 34))
 (d16 : T.TI K "_law_rows" (top 35))
 (d17 : T.TI K "_law_text" (top 36))
 (d18 : T.TI K "_law_read" (top 37))
 (d19 : T.TI K "_law_row" (top 38))
 (d20 : T.TI K "_law_odd" (top 39))
 (d21 : T.TI K "_law_told" (top 40))
 (d22 : T.TI K "_law_right" (top 41))
 (d23 : T.TI K "law" (top 42))
 (z0 : T.NI K "ValueError")
 (z1 : T.NI K "all")
 (z2 : T.NI K "any")
 (z3 : T.NI K "bool")
 (z4 : T.NI K "enumerate")
 (z5 : T.NI K "int")
 (z6 : T.NI K "isinstance")
 (z7 : T.NI K "len")
 (z8 : T.NI K "list")
 (z9 : T.NI K "min")
 (z10 : T.NI K "range")
 (z11 : T.NI K "str")
 {tc0 : Tok} (zc0 : PySem.W.nsIn K mainGlobals "MOST_ROWS" = some (some (.int 5 tc0)))
 {ts0 : Tok} (zs0 : PySem.W.nsIn K mainGlobals "SIGNS" = some (some (.str "abcdefghijklmnopqrstuvwxyz0123456789" ts0)))
 {at0 : Addr} {dt0 : Option Addr} {it0 : Array Value} {nt0 : Nat} {st0 : Array (Option Value)} (zt0 : PySem.W.nsIn K mainGlobals "BEGINNING" = some (some (.ref at0))) (zl0 : K.lookup at0 = some ⟨.type "tuple", dt0, .seq it0 nt0, st0⟩) (zz0 : it0.size <= 1000) (zi0 : it0.toList.map T.unV = ([.int 0, .non] : List V).map some)
 {at1 : Addr} {dt1 : Option Addr} {it1 : Array Value} {nt1 : Nat} {st1 : Array (Option Value)} (zt1 : PySem.W.nsIn K mainGlobals "PRIMES" = some (some (.ref at1))) (zl1 : K.lookup at1 = some ⟨.type "tuple", dt1, .seq it1 nt1, st1⟩) (zz1 : it1.size <= 1000) (zi1 : it1.toList.map T.unV = (([5, 7, 11, 13, 17, 19, 23, 29, 31, 37, 41, 43, 47] : List Int).map V.int).map some)
 : ∃ fd : FuncData, (∀ (s : Shared) (v : Value), BindsTo s fd ⟨[v], []⟩ [("_law_script", v)]) /\ ∀ base : Heap, K.In base -> base.Ns mainGlobals mg -> FnOk l.prog w K mg base CX0 7 fa fd ["_law_script"] (T.spF K (Zf5 (Ze1 K)).run) := by
 have hC : Ze1 K = C := by unfold Ze1; rw [cC.at_]
 rw [hC]
 obtain ⟨f, fd, x, F⟩ := d23
 cases hfa.symm.trans (PySem.W.mg_of X G x)
 refine ⟨fd, fun s v => ?_, fun base _ _ => ?_⟩
 . obtain ⟨oc, od, kV, doc, pm, an, cdv, ct, osl, rfl, lk, hcd⟩ := F.ex
   exact .of_eq rfl
 have m : ∀ {x : Str}, T.NI K x -> mg x = none := PySem.W.mg_none_of X G
 have Z : Txt ⟨l.prog, w, K, mg, base⟩ C := ⟨⟨h, X, G⟩, m z0, m z1, m z2, m z3, m z4, m z5, m z6, m z7, m z8, m z9, m z10, m z11, ⟨tc0, PySem.W.mg_of X G zc0⟩, ⟨ts0, PySem.W.mg_of X G zs0⟩, T.Zgs X G zt0 zl0 (by rw [T.szl]; omega) zi0, T.Zgs X G zt1 zl1 (by rw [T.szl]; omega) zi1, b_a.lx X G, b_b.lx X G, b_c.lx X G, b_d.lx X G, b_e.lx X G, b_f.lx X G, b_g.lx X G, b_h.lx X G, b_i.lx X G, b_j.lx X G, b_k.lx X G, b_l.lx X G, b_m.lx X G, ⟨L, PySem.W.mg_of X G hL.x, hL.xc, hL.gx⟩, ⟨L, PySem.W.mg_of X G hL.x, hI⟩, ⟨_, PySem.W.mg_of X G b_g.at_, b_g.xn hL a_g, i_g⟩, ⟨_, PySem.W.mg_of X G b_i.at_, b_i.xn hL a_i, i_i⟩, cC, nF0, nF1, nF2⟩
 have g0 := ZcS Z
 have g1 := ZcD Z
 have g2 := ZgN d2 Z
 have g3 := Zgt d3 Z g2
 have g4 := Zeb d4 Z g3 g0
 have g5 := Zfw d5 Z
 have g6 := ZcT d6 Z
 have g7 := Zif d7 Z
 have g8 := Zds d8 Z
 have g9 := ZcY d9 Z g6
 have g10 := ZdK d10 Z g7 g5 g8 g9
 have g11 := Ze4 d11 Z
 have g12 := Zfx d12 Z g4 g11 g1
 have g13 := Zgu d13 Z
 have g14 := Zgv d14 Z
 have g15 := Zgw d15 Z
 have g16 := Zgx d16 Z g13 g14 g15
 have g17 := Zgy d17 Z
 have g18 := Zgz d18 Z
 have g19 := ZgO d19 Z g14 g18
 have g20 := ZgP d20 Z
 have g21 := Zg0 d21 Z g12
 have g22 := Zfy d22 Z g21
 exact ZoC F Z g16 g10 g17 g19 g18 g22 g14 g20
end
def runB {f : FI} {C : T.Ctx} {N : Nat} {b : List T.S} {ds : List D} {R : Rs (D × List D)} (e : f.run = Zr C n N b) (hl : ds.length = n) (h : Zbb n (exs { C with lock := fun i => decide (i < n) } b (ds ++ List.replicate (N - n) .hole)) = R) : f.run ds = R := by rw [e, runA hl]; exact h
variable (lk : Nat -> Bool) (fok : Addr -> Str -> Bool) (fuel : Nat)
local macro_rules | `(tactic| walk_at "r") => `(tactic| (refine runB rfl rfl ?_; show Zbb _ (exs _ (_ :: _) _) = _; simp only [List.replicate, Nat.reduceSub]))
local macro_rules | `(tactic| walk_at "ev") => `(tactic| simp only [Zo3, Zrp, ZjY, Zo4, Zmo, Zo5, Zo6, Zo7, ZjZ, Zka, Zkb, endX, Zmp, ZiS, Zrq, Zo8, ZoB, Zke, bndA, ZlL, retA, Zqg, ZlM, Zqh, Zqi, ZnK, ZnL, Zqj, ZnM, Zqk, ZdE, ZlN, ZlO, valA, ZnN, Zql, movA, ZnO, Zqm, Zqn, ZnP, Zqo, Zqp, ZnQ, ZnR, Zqq, Zqr, ZnS, ZnT, Zqs, ZnU, ZnV, ZnW, ZnX, Zqt, ZnY, exs1, exs0, ZlR, ZlS, ZlP, ZlQ, e_k, o_k, e_g, Zqu, Zqv, Zqw, Zqx, Zqy, Zqz, Zq0, Zq1, Zq2, Zq3, ZlX, t_nt, Zq4, e_or, t_or, Zq5, Zq6, e_ix, o_ix, e_sl, o_sl, Zq7, Zq8, Zq9, ZqA, ZqB, o_kl, ZnZ, Zoa, Zob, e_bf, t_bf, o_bf, e_bm, Zoc, ZqC, ZlW, Zod, e_fs, o_fs, e_v, ZjN, ZqE, ZqF, evs0, evs1, ZqG, ZqH, Zoe, x_ex, ZqI, ZqJ, Zof, ZqK, r_k, ZqL, ZqM, r_or, r_ix, ZqN, r_bm, ZqO, ZqP, c_lt, c_le, ZqQ, ZqR, ZqS, Zoh, Zoi, Zoj, c_in, ZqD, ix_d, ZlT, ZjM, ZqT, ZqU, ZqV, or_f, or_t, ZqW, ZqX, ZqY, ZqZ, Zok, Zol, Zom, Zon, Zoo, intp, sl_l, sl_f, Zra, Zrb, Zop, asgn, Zoq, Zor, Zos, Zot, Zrc, Zou, Zov, Zow, Zox, it_l, modA, Zrd, chkA, Zre, ix_l, ix_f, ix_t, shrL, shr, walked, C0, scr, List.getElem?_cons_zero, List.getElem?_cons_succ, List.set_cons_zero, List.set_cons_succ, List.length_cons, List.length_nil, Option.map_some, Option.bind_some, Option.toList_none, Option.toList_some, List.nil_append, List.append_nil, List.cons_append, List.map_cons, List.map_nil, if_true, if_false, Bool.false_eq_true, Bool.and_true, Bool.true_and, Bool.or_true, Bool.true_or, Bool.or_false, Bool.false_or, Bool.not_false, Bool.not_true, decide_true, decide_false, Nat.reduceLT, Nat.reduceAdd, Nat.reduceLeDiff, beq_self_eq_true, Nat.reduceBEq, Bool.and_false, Bool.false_and, reduceCtorEq, ite_true, ite_false])
local macro_rules | `(tactic| simp_all [$xs,*]) => `(tactic| repeat (first | walk_at "ev" | simp only [$xs,*]))
def ZdI {a b : Str} (h : a.cps.toList = b.cps.toList) : a = b := by
 obtain ⟨⟨x⟩⟩ := a
 obtain ⟨⟨y⟩⟩ := b
 exact congrArg (fun l => (⟨⟨l⟩⟩ : Str)) h
def Zag (a b : Str) : (a ++ b).cps.toList = a.cps.toList ++ b.cps.toList := by
 show (a.cps ++ b.cps).toList = _
 rw [Array.toList_append]
theorem Zg1 : ∀ {p q a b : List Nat}, c ∉ p -> c ∉ q -> p ++ c :: a = q ++ c :: b -> p = q /\ a = b
 | [], [], a, b, _, _, h => ⟨rfl, (List.cons.inj h).2⟩
 | [], y :: q, a, b, _, hq, h => absurd (List.cons.inj h).1 (fun e => hq (e ▸ List.mem_cons_self))
 | x :: p, [], a, b, hp, _, h => absurd (List.cons.inj h).1 (fun e => hp (e ▸ List.mem_cons_self))
 | x :: p, y :: q, a, b, hp, hq, h => by
  have h1 := List.cons.inj h
  obtain ⟨e1, e2⟩ := Zg1 (fun m => hp (List.mem_cons_of_mem _ m)) (fun m => hq (List.mem_cons_of_mem _ m)) h1.2
  exact ⟨by rw [h1.1, e1], e2⟩
def Zb1 (c : Nat) (p q : Str) (r : List Str) : (Str.join ⟨#[c]⟩ (p :: q :: r)).cps.toList = p.cps.toList ++ c :: (Str.join ⟨#[c]⟩ (q :: r)).cps.toList := by
 show (p ++ ⟨#[c]⟩ ++ Str.join ⟨#[c]⟩ (q :: r)).cps.toList = _
 rw [Zag, Zag, List.append_assoc]
 rfl
theorem Zg2 (c : Nat) : ∀ (ps qs : List Str), ps ≠ [] -> qs ≠ [] -> (∀ p ∈ ps, c ∉ p.cps.toList) -> (∀ q ∈ qs, c ∉ q.cps.toList) -> Str.join ⟨#[c]⟩ ps = Str.join ⟨#[c]⟩ qs -> ps = qs
 | [], _, h, _, _, _, _ => absurd rfl h
 | _, [], _, h, _, _, _ => absurd rfl h
 | [p], [q], _, _, _, _, h => by
  have h' : p = q := h
  rw [h']
 | [p], q :: q' :: r, _, _, hp, _, h => by
  have e := congrArg (fun x : Str => x.cps.toList) h
  simp only [Zb1] at e
  have e' : p.cps.toList = q.cps.toList ++ c :: (Str.join ⟨#[c]⟩ (q' :: r)).cps.toList := e
  exact absurd (by rw [e']; simp) (hp p (by simp))
 | p :: p' :: r, [q], _, _, _, hq, h => by
  have e := congrArg (fun x : Str => x.cps.toList) h
  simp only [Zb1] at e
  have e' : p.cps.toList ++ c :: (Str.join ⟨#[c]⟩ (p' :: r)).cps.toList = q.cps.toList := e
  exact absurd (by rw [<- e']; simp) (hq q (by simp))
 | p :: p' :: r, q :: q' :: t, _, _, hp, hq, h => by
  have e := congrArg (fun x : Str => x.cps.toList) h
  simp only [Zb1] at e
  obtain ⟨e1, e2⟩ := Zg1 (hp p (by simp)) (hq q (by simp)) e
  have ih := Zg2 c (p' :: r) (q' :: t) (by simp) (by simp) (fun x hx => hp x (List.mem_cons_of_mem _ hx)) (fun x hx => hq x (List.mem_cons_of_mem _ hx)) (ZdI e2)
  rw [ZdI e1, ih]
def Zkf (x : Str) (c : Nat) : Txt.split x ⟨#[c]⟩ ≠ [] := by
 unfold Txt.split
 split
 . simp
 . split
   . simp
   . rw [StrLaws.partsBetween_eq]
     obtain ⟨p, r, e⟩ := StrLaws.partsFrom_ne x (⟨#[c]⟩ : Str).length 0 (Builtin.Str.occurrences x ⟨#[c]⟩ 0 x.length (x.length + 1))
     rw [e]
     simp
def Zig (c : Nat) (ps : List Str) (h : ps ≠ []) (hf : ∀ p ∈ ps, c ∉ p.cps.toList) : Txt.split (Str.join ⟨#[c]⟩ ps) ⟨#[c]⟩ = ps :=
 Zg2 c _ ps (Zkf _ c) h (StrLaws.split_free _ c) hf (StrLaws.join_split _ _)
def ZdW (c : Nat) (ps : List Str) (h : ps ≠ []) (hf : ∀ p ∈ ps, c ∉ p.cps.toList) : Txt.split (Txt.join ⟨#[c]⟩ ps) ⟨#[c]⟩ = ps := by
 show Txt.split (Builtin.Str.glued ⟨#[c]⟩ ps) ⟨#[c]⟩ = ps
 rw [StrLaws.glued_eq_join]
 exact Zig c ps h hf
theorem Ze7 (c : Nat) : ∀ (ps : List Str) (x : Nat), x ∈ (Str.join ⟨#[c]⟩ ps).cps.toList -> x = c \/ ∃ p ∈ ps, x ∈ p.cps.toList
 | [], x, h => by simp [Str.join, Str.empty] at h
 | [p], x, h => .inr ⟨p, by simp, h⟩
 | p :: q :: r, x, h => by
  rw [Zb1] at h
  (rcases List.mem_append.mp h with h | h)
  . exact .inr ⟨p, by simp, h⟩
  . rcases List.mem_cons.mp h with h | h
    . exact .inl h
    . rcases Ze7 c (q :: r) x h with h | ⟨y, hy, h⟩
      . exact .inl h
      . exact .inr ⟨y, List.mem_cons_of_mem _ hy, h⟩
def Zg3 (c B : Nat) : ∀ ps : List Str, (∀ p ∈ ps, p.length <= B) -> (Txt.join ⟨#[c]⟩ ps).length <= ps.length * (B + 1) := by
 intro ps h
 show (Builtin.Str.glued ⟨#[c]⟩ ps).length <= _
 rw [StrLaws.glued_eq_join]
 refine Nat.le_trans (StrLaws.join_length_le _ ps) ?_
 have h1 := StrLaws.sumLen_le (B := B) ps h
 (have h2 : (⟨#[c]⟩ : Str).length = 1 := rfl)
 rw [h2, Nat.mul_add]
 omega
def ZiU (c B : Nat) (ps : List Str) (h : ∀ p ∈ ps, p.length <= B) (hs : ps.length * (B + 1) <= 16777216) : JoinOk ⟨#[c]⟩ ps = true := by
 unfold JoinOk
 rw [StrLaws.joinFits h (by
  (have h2 : (⟨#[c]⟩ : Str).length = 1 := rfl)
  rw [h2, <- Nat.mul_add]
  exact hs)]
 rfl
noncomputable def bdy : T.S -> List T.S
 | .for_ _ _ _ b => b
 | .forX _ _ _ b => b
 | _ => []
def gd0 (s d : T.S) (l : List T.S) : (s :: l).getD 0 d = s := rfl
def gd1 (s d : T.S) (l : List T.S) (n : Nat) : (s :: l).getD (n + 1) d = l.getD n d := rfl
noncomputable abbrev I (i : Int) : D := .sc (.int i)
noncomputable abbrev S' (z : Str) : D := .sc (.str z)
noncomputable def sgn : List Nat := [97, 98, 99, 100, 101, 102, 103, 104, 105, 106, 107, 108, 109, 110, 111, 112, 113, 114, 115, 116, 117, 118, 119, 120, 121, 122, 48, 49, 50, 51, 52, 53, 54, 55, 56, 57]
noncomputable def lkw (k : Nat) : Str := ⟨#[108, 111, 99, 107, 48 + k]⟩
noncomputable def shw (k : Nat) : Str := ⟨#[115, 104, 105, 102, 116, 48 + k]⟩
noncomputable def wds (n : Nat) : List Str := ⟨#[45]⟩ :: ((sgn.map fun c => (⟨#[c]⟩ : Str)) ++ (List.range n).flatMap fun k => [lkw k, shw k])
noncomputable def ZaJ (w : Str) : List D :=
 if w.cps.toList = [45] then [S' "nothing", .sc .non]
 else if w.cps.toList.take 4 = [108, 111, 99, 107] then [S' "lock", I ((w.cps.toList.getD 4 0 : Int) - 48)]
 else if w.cps.toList.take 5 = [115, 104, 105, 102, 116] then [S' "shift", I ((w.cps.toList.getD 5 0 : Int) - 48)]
 else [S' "sign", S' w]
noncomputable abbrev mean (o : Bool) (w : Str) : D := .node .tup o (ZaJ w)
noncomputable def primes : List Nat := [5, 7, 11, 13, 17, 19, 23, 29, 31, 37, 41, 43, 47]
noncomputable def first (p : Nat) : Str := Str.ofString "symbols " ++ Str.ofString (toString (p : Int))
def ZgQ : ∀ p ∈ primes, (10 ∉ (first p).cps.toList) /\ (first p).length <= 10 := by walk_at "d"
def Zcd : ∀ p ∈ primes, 5 <= p /\ p <= 47 := by decide
def Zce : ∀ n ∈ [1, 2, 3, 4], ∀ w ∈ wds n, 32 ∉ w.cps.toList /\ 10 ∉ w.cps.toList /\ w.length <= 6 := by walk_at "d"
def Zmv : ∀ n ∈ [1, 2, 3, 4], ∀ c ∈ sgn, (⟨#[c]⟩ : Str) ∈ wds n := by walk_at "d"
def ZoE : ∀ n ∈ [1, 2, 3, 4], ∀ k ∈ List.range n, Str.ofString "lock" ++ Str.ofString (toString (k : Int)) ∈ wds n /\ Str.ofString "shift" ++ Str.ofString (toString (k : Int)) ∈ wds n /\ Str.ofString "-" ∈ wds n := by walk_at "d"
def Zkg : ∀ p ∈ primes, Zbg.run [S' (first p)] = .ok (I p, [S' (first p)]) := by
 unfold primes
 simp only [List.forall_mem_cons, List.not_mem_nil, false_implies, implies_true, and_true]
 refine ⟨?_, ?_, ?_, ?_, ?_, ?_, ?_, ?_, ?_, ?_, ?_, ?_, ?_⟩ <;> kernel_rfl
def ZoF : ∀ n ∈ [1, 2, 3, 4], Zaj.run [I (n : Nat)] = .ok (.node (.dic ((wds n).map .inr)) true ((wds n).map (mean true)), [I n]) := by
 simp only [List.forall_mem_cons, List.not_mem_nil, false_implies, implies_true, and_true]
 refine ⟨?_, ?_, ?_, ?_⟩ <;> kernel_rfl
theorem ZiV (w : Str) (f : Str -> D) : ∀ ws : List Str, w ∈ ws -> Zah (.inr w) (ws.map (Sum.inr : Str -> Key)) (ws.map f) = some (f w)
 | [], h => by simp at h
 | a :: ws, h => by
  simp only [List.map_cons, Zah]
  by_cases e : a = w
  . rw [if_pos (by rw [e]), e]
  . rw [if_neg (fun q => e (Sum.inr.inj q))]
    exact ZiV w f ws (by rcases List.mem_cons.mp h with q | q; exact absurd q.symm e; exact q)
noncomputable abbrev dT (ws : List Str) : List D := ws.map fun w => S' w
noncomputable abbrev TL (o : Bool) (ws : List Str) : D := .node .lst o (dT ws)
noncomputable abbrev RL (b : Bool) (rs : List (List Str)) : D := .node .lst true (rs.map (TL b))
theorem Zbm (ws : List Str) : shrL (dT ws) = dT ws := by
 induction ws with
 | nil => rfl
 | cons w ws ih => simp only [List.map_cons, shrL, shr] at ih ⊢; rw [ih]
theorem Zdx (b : Bool) (rs : List (List Str)) : shrL (rs.map (TL b)) = rs.map (TL false) := by
 induction rs with
 | nil => rfl
 | cons r rs ih => rw [List.map_cons, shrL, ih, List.map_cons, shr, Zbm]
def ZaO (ws : List Str) : (dT ws).length = ws.length := List.length_map _
def Zf6 : newL [] = some (.node .lst true []) := ZaG _ (by simp)
def Zr0 (a : D) : newL [a] = some (.node .lst true [a]) := ZaG _ (by rw [szl]; simp)
def Zaw (a b : D) : newT [a, b] = some (.node .tup true [a, b]) := by unfold newT; rw [if_pos (by rw [szl]; simp)]
def Zg4 (ns : List Int) (k : Nat) : Za1.run [scr ns, I k] = .ok (I (ns.getD k 0), [scr ns, I k]) := by
 walk_at "r"
 have hl : ((ns.map fun i => D.sc (.int i)).length : Int) = (ns.length : Int) := by rw [List.length_map]
 by_cases h : k < ns.length
 . have h1 : ¬ ((ns.length : Int) <= (k : Int)) := by omega
   have hx := ixI ns (k : Int) (by omega) (by omega)
   rw [Int.toNat_natCast] at hx
   (simp_all [hl, h1, hx]) <;> rfl
 . have h1 : (ns.length : Int) <= (k : Int) := by omega
   have h2 : ns.getD k 0 = 0 := by rw [List.getD_eq_getElem?_getD, List.getElem?_eq_none (by omega)]; rfl
   (simp_all [hl, h1, h2]) <;> rfl
def ZP (c t m : Int) (hm : 0 < m) (ht : 0 <= t /\ t <= 1000) : ∃ r, 0 <= r /\ r < m /\ Zo.run [I c, I t, I m] = .ok (I r, [I c, I t, I m]) := by
 rw [show Zo.run = Zr C0 3 6 Zbi from rfl]
 rw [runA (show [I c, I t, I m].length = 3 from rfl)]
 unfold Zbi
 simp only [List.replicate, Nat.reduceSub]
 have e1 : ∀ a : Int, binW .Mod (.sc (.int a)) (.sc (.int 1000000009)) = some (.sc (.int (a % 1000000009))) := fun a => Zcl _ _ (by decide)
 have e2 : ∀ a : Int, binW .FloorDiv (.sc (.int a)) (.sc (.int 1000000009)) = some (.sc (.int (a / 1000000009))) := fun a => ZkH _ _ (by decide)
 have e3 : ∀ a : Int, binW .Mod (.sc (.int a)) (.sc (.int 998244353)) = some (.sc (.int (a % 998244353))) := fun a => Zcl _ _ (by decide)
 have e4 : binW .Mult (.sc (.int 7919)) (.sc (.int t)) = some (.sc (.int (7919 * t))) := Zeq _ _ (.inl (by decide))
 have e5 : binW .Mult (.sc (.int 104729)) (.sc (.int t)) = some (.sc (.int (104729 * t))) := Zeq _ _ (.inl (by decide))
 have e6 : binW .Mult (.sc (.int 2)) (.sc (.int t)) = some (.sc (.int (2 * t))) := Zeq _ _ (.inl (by decide))
 have e7 : ∀ b : Int, binW .Mult (.sc (.int (c % 1000000009 + 7919 * t + 1))) (.sc (.int b)) = some (.sc (.int ((c % 1000000009 + 7919 * t + 1) * b))) := fun b => Zeq _ _ (.inl (by omega))
 have e8 : ∀ a : Int, binW .Mod (.sc (.int a)) (.sc (.int 2147483629)) = some (.sc (.int (a % 2147483629))) := fun a => Zcl _ _ (by decide)
 have e9 : ∀ a b : Int, binW .Mult (.sc (.int (a % 2147483629))) (.sc (.int b)) = some (.sc (.int (a % 2147483629 * b))) := fun a b => Zeq _ _ (.inl (by omega))
 simp_all [e1, e2, e3, e4, e5, e6, e7, e8, e9, Zcl _ _ hm]
 exact ⟨_, Int.emod_nonneg _ (by omega), Int.emod_lt_of_pos _ hm, rfl⟩
def Ze8 (z : Str) : Prop := z.cps.toList ≠ [] /\ z.length <= 36 /\ ∀ c ∈ z.cps.toList, c ∈ sgn
theorem n14 (h1 : 1 <= n) (h4 : n <= 4) : n ∈ [1, 2, 3, 4] := by
 match n, h1, h4 with
 | 1, _, _ => simp
 | 2, _, _ => simp
 | 3, _, _ => simp
 | 4, _, _ => simp
theorem Zr1 (k : Nat) (h : k < 4) : bfW .str [.sc (.int (k : Int))] = some (S' (Str.ofString (toString (k : Int)))) := by
 match k, h with
 | 0, _ => kernel_rfl
 | 1, _ => kernel_rfl
 | 2, _ => kernel_rfl
 | 3, _ => kernel_rfl
theorem Zr2 (k : Nat) (h : k < 4) : binW .Add (.sc (.str "lock")) (.sc (.str (Str.ofString (toString (k : Int))))) = some (S' (Str.ofString "lock" ++ Str.ofString (toString (k : Int)))) /\ binW .Add (.sc (.str "shift")) (.sc (.str (Str.ofString (toString (k : Int))))) = some (S' (Str.ofString "shift" ++ Str.ofString (toString (k : Int)))) := by
 match k, h with
 | 0, _ => exact ⟨by kernel_rfl, by kernel_rfl⟩
 | 1, _ => exact ⟨by kernel_rfl, by kernel_rfl⟩
 | 2, _ => exact ⟨by kernel_rfl, by kernel_rfl⟩
 | 3, _ => exact ⟨by kernel_rfl, by kernel_rfl⟩
def Zkh (x : Int) (z : Str) (n : Nat) (hz : Ze8 z) (h1 : 1 <= n) (h4 : n <= 4) : ∃ w ∈ wds n, Zae.run [I x, S' z, I n] = .ok (S' w, [I x, S' z, I n]) := by
 rw [show Zae.run = Zr C0 3 3 Zbj from rfl]
 rw [runA (show [I x, S' z, I n].length = 3 from rfl)]
 unfold Zbj
 simp only [List.replicate, Nat.reduceSub]
 have hn := n14 h1 h4
 have e1 : ∀ a : Int, binW .Mod (.sc (.int a)) (.sc (.int 16)) = some (.sc (.int (a % 16))) := fun a => Zcl _ _ (by decide)
 have e2 : ∀ a : Int, binW .FloorDiv (.sc (.int a)) (.sc (.int 16)) = some (.sc (.int (a / 16))) := fun a => ZkH _ _ (by decide)
 have e3 : ∀ a : Int, binW .Mod (.sc (.int a)) (.sc (.int (n : Int))) = some (.sc (.int (a % n))) := fun a => Zcl _ _ (by omega)
 obtain ⟨hz1, hz2, hz3⟩ := hz
 have hlen : z.length = z.cps.toList.length := rfl
 have hpos : 0 < z.cps.toList.length := List.length_pos_iff.mpr hz1
 have hk : ∃ k : Nat, k < n /\ (x / 16 % (n : Int)) = k := ⟨(x / 16 % (n : Int)).toNat, by have := Int.emod_lt_of_pos (x / 16) (show (0 : Int) < n by omega); have := Int.emod_nonneg (x / 16) (show (n : Int) ≠ 0 by omega); omega, by have := Int.emod_nonneg (x / 16) (show (n : Int) ≠ 0 by omega); omega⟩
 obtain ⟨k, hk1, hk2⟩ := hk
 have s1 := Zr1 k (by omega)
 obtain ⟨s2, s3⟩ := Zr2 k (by omega)
 obtain ⟨w1, w2, w3⟩ := ZoE n hn k (List.mem_range.mpr hk1)
 by_cases c1 : x % 16 < 10
 . have hl : bfW .len [.sc (.str z)] = some (.sc (.int (z.length : Int))) := if_pos (by rw [szl]; omega)
   have e4 : ∀ a : Int, binW .Mod (.sc (.int a)) (.sc (.int (z.length : Int))) = some (.sc (.int (a % z.length))) := fun a => Zcl _ _ (by omega)
   have hj : ∃ j : Nat, j < z.cps.toList.length /\ (x / 16 % (z.length : Int)) = j := ⟨(x / 16 % (z.length : Int)).toNat, by have := Int.emod_lt_of_pos (x / 16) (show (0 : Int) < z.length by omega); have := Int.emod_nonneg (x / 16) (show (z.length : Int) ≠ 0 by omega); omega, by have := Int.emod_nonneg (x / 16) (show (z.length : Int) ≠ 0 by omega); omega⟩
   obtain ⟨j, hj1, hj2⟩ := hj
   have hx : ixW2 (.sc (.str z)) (.sc (.int (j : Int))) = some (S' ⟨#[z.cps.toList[j]]⟩) := by
    show (if z.length <= sizeLine then _ else _) = _
    rw [if_pos (by rw [szl]; omega), Zc8 _ _ hj1]
    show ((z.cps.toList[j]?).map _) = _
    rw [List.getElem?_eq_getElem hj1]
    rfl
   refine ⟨⟨#[z.cps.toList[j]]⟩, Zmv n hn _ (hz3 _ (List.getElem_mem hj1)), ?_⟩
   (simp_all [e1, e2, e4, hl, hj2, hx, c1]) <;> rfl
 . by_cases c2 : x % 16 < 12
   . refine ⟨_, w1, ?_⟩
     (simp_all [e1, e2, e3, hk2, s1, s2, c1, c2]) <;> rfl
   . by_cases c3 : x % 16 < 14
     . refine ⟨_, w2, ?_⟩
       (simp_all [e1, e2, e3, hk2, s1, s3, c1, c2, c3]) <;> rfl
     . refine ⟨_, w3, ?_⟩
       (simp_all [e1, e2, e3, c1, c2, c3]) <;> rfl
noncomputable abbrev Ls (o : Bool) (xs : List Int) : D := .node .lst o (dI xs)
noncomputable def lp : List Int := [5, 7, 11, 13, 17, 19, 23, 29, 31, 37, 41, 43, 47, 5, 7, 5, 7, 11]
noncomputable def lsz : List Int := [2, 4, 8, 36]
def Zr3 : ∀ i ∈ List.range 18, ∃ p ∈ primes, lp.getD i 0 = (p : Nat) := by decide
def ZoG : ∀ i ∈ List.range 4, ∃ s ∈ [2, 4, 8, 36], lsz.getD i 0 = (s : Nat) := by decide
def Zmw : ∀ s ∈ [2, 4, 8, 36], ∀ t ∈ List.range (37 - s), (Txt.slice (Txt.slice "q7abcdefghijklmnoprstuvwxyz012345689" (some (t : Int)) none) none (some (s : Int))).cps.toList ≠ [] /\ (Txt.slice (Txt.slice "q7abcdefghijklmnoprstuvwxyz012345689" (some (t : Int)) none) none (some (s : Int))).length <= 36 /\ (Txt.slice "q7abcdefghijklmnoprstuvwxyz012345689" (some (t : Int)) none).length <= 36 /\ ∀ c ∈ (Txt.slice (Txt.slice "q7abcdefghijklmnoprstuvwxyz012345689" (some (t : Int)) none) none (some (s : Int))).cps.toList, c ∈ sgn := by walk_at "d"
theorem Zmx (h0 : lk 0 = false) (c : Int) : ∀ (n i : Nat) (acc : List Int) (a : D), i + n <= 100 -> ∃ (xs : List Int) (a' : D), xs.length = acc.length + n /\
 Zai (asgT lk (.name 0)) (tsts ⟨lk, fok, fuel⟩ []) (evb ⟨lk, fok, fuel⟩ (.call Zo [.v 1, .bin .Add (.k (.int 10)) (.v 0), .bin .Mult (.k (.int 16)) (.k (.int 144))])).1 (dI (rngI i n)) (dI acc) [a, I c] = .ok (dI xs, [a', I c]) := by
 intro n
 induction n with
 | zero => exact fun i acc a _ => ⟨acc, a, rfl, rfl⟩
 | succ n ih =>
  intro i acc a hi
  obtain ⟨r, _, _, hr⟩ := ZP c (10 + (i : Int)) 2304 (by decide) (by omega)
  obtain ⟨xs, a', hy, ih⟩ := ih (i + 1) (acc ++ [r]) (I i) (by omega)
  refine ⟨xs, a', by rw [hy, List.length_append, List.length_singleton]; omega, ?_⟩
  have e1 : ((i + 1 : Nat) : Int) = (i : Int) + 1 := by omega
  rw [e1, ZiO] at ih
  rw [<- ih, rngI, Zbu, Zew]
  have l1 : Zo.lend = true := rfl
  have hm : binW .Mult (.sc (.int 16)) (.sc (.int 144)) = some (.sc (.int 2304)) := by kernel_rfl
  simp_all [h0, l1, hr, hm]
theorem Zih (h0 : lk 0 = false) (z : Str) (n : Nat) (hz : Ze8 z) (h1 : 1 <= n) (h4 : n <= 4) : ∀ (xs : List Int) (acc : List Str) (a : D), (∀ w ∈ acc, w ∈ wds n) -> ∃ (ws : List Str) (a' : D), ws.length = acc.length + xs.length /\ (∀ w ∈ ws, w ∈ wds n) /\
 Zai (asgT lk (.name 0)) (tsts ⟨lk, fok, fuel⟩ []) (evb ⟨lk, fok, fuel⟩ (.call Zae [.v 0, .v 1, .v 2])).1 (dI xs) (dT acc) [a, S' z, I n] = .ok (dT ws, [a', S' z, I n]) := by
 intro xs
 induction xs with
 | nil => exact fun acc a h => ⟨acc, a, rfl, h, rfl⟩
 | cons x xs ih =>
  intro acc a h
  obtain ⟨w, hw, hr⟩ := Zkh x z n hz h1 h4
  obtain ⟨ws, a', hl, hs, ih⟩ := ih (acc ++ [w]) (I x) (fun y hy => by
   rcases List.mem_append.mp hy with q | q
   . exact h y q
   . rw [List.mem_singleton.mp q]; exact hw)
  refine ⟨ws, a', by rw [hl, List.length_append, List.length_singleton, List.length_cons]; omega, hs, ?_⟩
  rw [show dT (acc ++ [w]) = dT acc ++ [S' w] from List.map_append] at ih
  rw [<- ih, Zbu, Zew]
  have l1 : Zae.lend = true := rfl
  simp_all [h0, l1, hr]
def ZH (p n : Nat) (rs : List (List Str)) : Prop := ∀ r ∈ rs, r.length = p /\ ∀ w ∈ r, w ∈ wds n
theorem ZiW (h9 : lk 9 = false) (h10 : lk 10 = false) (h11 : lk 11 = false) (h12 : lk 12 = false) (ns : List Int) (at_ : Nat) (f : Int) (d3 d6 d7 : D) (p n : Nat) (z : Str) (hp : p <= 47) (hz : Ze8 z) (h1 : 1 <= n) (h4 : n <= 4) : ∀ (m i : Nat) (rs : List (List Str)) (a b c : D), ZH p n rs -> rs.length + m <= 4 -> ∃ (rs' : List (List Str)) (a' b' c' : D), rs'.length = rs.length + m /\ ZH p n rs' /\
 forL (asgT lk (.name 10)) (exs ⟨lk, fok, fuel⟩ (bdy (Za8.getD 8 .pass))) (dI (rngI i m)) [scr ns, I at_, I f, d3, I p, I n, d6, d7, S' z, RL true rs, a, b, c] = .ok (.nx, [scr ns, I at_, I f, d3, I p, I n, d6, d7, S' z, RL true rs', a', b', c']) := by
 intro m
 induction m with
 | zero => exact fun i rs a b c h _ => ⟨rs, a, b, c, rfl, h, rfl⟩
 | succ m ih =>
  intro i rs a b c h hl
  have hc := Zg4 ns (at_ + 1 + i)
  rw [show ((at_ + 1 + i : Nat) : Int) = (at_ : Int) + 1 + (i : Int) by omega] at hc
  generalize ns.getD (at_ + 1 + i) 0 = cc at hc
  obtain ⟨xs, a1, hxl, hx⟩ := Zmx (fun j => decide (1 <= j)) fok fuel rfl cc p 0 [] .hole (by omega)
  rw [List.length_nil, Nat.zero_add] at hxl
  obtain ⟨ws, a2, hwl, hws, hw⟩ := Zih (fun j => decide (1 <= j)) fok fuel rfl z n hz h1 h4 xs [] .hole (fun w hw => by simp at hw)
  rw [List.length_nil, Nat.zero_add, hxl] at hwl
  obtain ⟨rs', a', b', c', g1, g2, ih⟩ := ih (i + 1) (rs ++ [ws]) (I i) (I cc) (Ls true xs) (fun r hr => by
   rcases List.mem_append.mp hr with q | q
   . exact h r q
   . rw [List.mem_singleton.mp q]; exact ⟨hwl, hws⟩) (by rw [List.length_append, List.length_singleton]; omega)
  refine ⟨rs', a', b', c', by rw [g1, List.length_append, List.length_singleton]; omega, g2, ?_⟩
  have e1 : ((i + 1 : Nat) : Int) = (i : Int) + 1 := by omega
  rw [e1] at ih
  rw [<- ih, rngI, Zbu, Zbd]
  simp only [Za8, bdy, gd1, gd0]
  have hit : itW .rng1 [.sc (.int (p : Int))] = some (dI (rngI 0 p)) := by
   have := Zf3 (p : Int) (by omega)
   rwa [Int.toNat_natCast] at this
  have hc1 : ∀ b0 b1 b2 b3 b4 b5 b6 b7 b8 b9 b10 b12 : D, Za3 1 [11] (ZbI fok fuel 1 (.name 0) [] (.call Zo [.v 1, .bin .Add (.k (.int 10)) (.v 0), .bin .Mult (.k (.int 16)) (.k (.int 144))]) (dI (rngI 0 p)) []) [b0, b1, b2, b3, b4, b5, b6, b7, b8, b9, b10, I cc, b12] = .ok (Ls true xs, [b0, b1, b2, b3, b4, b5, b6, b7, b8, b9, b10, I cc, b12]) := fun b0 b1 b2 b3 b4 b5 b6 b7 b8 b9 b10 b12 => by
   replace hx : ZbI fok fuel 1 (.name 0) [] (.call Zo [.v 1, .bin .Add (.k (.int 10)) (.v 0), .bin .Mult (.k (.int 16)) (.k (.int 144))]) (dI (rngI 0 p)) [] [.hole, I cc] = _ := hx
   rw [ZcO (js := [11]) (caps := [I cc]) (δ1 := [b0, b1, b2, b3, b4, b5, b6, b7, b8, b9, b10, .hole, b12]) rfl hx (by rw [Za0, hxl, szl]; omega)]
   rfl
  have hc2 : ∀ b0 b1 b2 b3 b4 b6 b7 b9 b10 b11 b12 : D, Za3 1 [8, 5] (ZbI fok fuel 1 (.name 0) [] (.call Zae [.v 0, .v 1, .v 2]) (dI xs) []) [b0, b1, b2, b3, b4, I n, b6, b7, S' z, b9, b10, b11, b12] = .ok (TL true ws, [b0, b1, b2, b3, b4, I n, b6, b7, S' z, b9, b10, b11, b12]) := fun b0 b1 b2 b3 b4 b6 b7 b9 b10 b11 b12 => by
   replace hw : ZbI fok fuel 1 (.name 0) [] (.call Zae [.v 0, .v 1, .v 2]) (dI xs) [] [.hole, S' z, I n] = _ := hw
   rw [ZcO (js := [8, 5]) (caps := [S' z, I n]) (δ1 := [b0, b1, b2, b3, b4, .hole, b6, b7, .hole, b9, b10, b11, b12]) rfl hw (by rw [ZaO, hwl, szl]; omega)]
   rfl
  have k1 : Za1.lend = true := rfl
  have hzz : (rs.map (TL true)).length < sizeLine := by rw [List.length_map, szl]; omega
  have ha := fun (δ : List D) (d : D) => Zer 9 δ d (rs.map (TL true)) hzz
  have e2 : rs.map (TL true) ++ [TL true ws] = (rs ++ [ws]).map (TL true) := by rw [List.map_append]; rfl
  have hi1 : ∀ ds : List D, itW .val [.nd .lst ds] = some ds := fun _ => rfl
  simp only [scr] at hc
  simp_all [h9, h10, h11, h12, k1, hc, hit, hc1, hc2, hi1, ha, e2, ZC]
def sl_s (z : Str) (lo hi : Option Int) (h : z.length <= sizeLine) : slD (.sc (.str z)) lo hi = some (S' (Txt.slice z lo hi)) := by
 show (if z.length <= sizeLine then _ else _) = _
 rw [if_pos h]
def Zki (ns : List Int) (at_ : Nat) : ∃ p ∈ primes, ∃ n rs, 1 <= n /\ n <= 4 /\ rs.length = n /\ ZH p n rs /\ Zbz.run [scr ns, I at_] = .ok (RL true rs, [scr ns, I at_]) := by
 have hc := Zg4 ns at_
 generalize ns.getD at_ 0 = f at hc
 obtain ⟨r1, a1, b1, h1⟩ := ZP f 1 18 (by decide) (by decide)
 obtain ⟨r2, a2, b2, h2⟩ := ZP f 2 4 (by decide) (by decide)
 obtain ⟨r3, a3, b3, h3⟩ := ZP f 3 4 (by decide) (by decide)
 obtain ⟨p, hp, hp2⟩ := Zr3 r1.toNat (List.mem_range.mpr (by omega))
 obtain ⟨s, hs, hs2⟩ := ZoG r3.toNat (List.mem_range.mpr (by omega))
 have hs3 : 2 <= s /\ s <= 36 := by
  simp only [List.mem_cons, List.not_mem_nil, or_false] at hs
  omega
 obtain ⟨r4, a4, b4, h4⟩ := ZP f 4 (37 - (s : Int)) (by omega) (by decide)
 have hn : ∃ n : Nat, 1 <= n /\ n <= 4 /\ 1 + r2 = n := ⟨(1 + r2).toNat, by omega, by omega, by omega⟩
 obtain ⟨n, n1, n4, hn⟩ := hn
 have ht : ∃ t : Nat, t < 37 - s /\ r4 = t := ⟨r4.toNat, by omega, by omega⟩
 obtain ⟨t, ht1, rfl⟩ := ht
 obtain ⟨z1, z2, z3, z4⟩ := Zmw s hs t (List.mem_range.mpr ht1)
 have sl1 : slD (.sc (.str "q7abcdefghijklmnoprstuvwxyz012345689")) (some (t : Int)) none = some (S' (Txt.slice "q7abcdefghijklmnoprstuvwxyz012345689" (some (t : Int)) none)) := sl_s _ _ _ (by rw [szl]; decide +kernel)
 have sl2 : slD (.sc (.str (Txt.slice "q7abcdefghijklmnoprstuvwxyz012345689" (some (t : Int)) none))) none (some (s : Int)) = some (S' (Txt.slice (Txt.slice "q7abcdefghijklmnoprstuvwxyz012345689" (some (t : Int)) none) none (some (s : Int)))) := sl_s _ _ _ (by rw [szl]; omega)
 have hz : Ze8 (Txt.slice (Txt.slice "q7abcdefghijklmnoprstuvwxyz012345689" (some (t : Int)) none) none (some (s : Int))) := ⟨z1, z2, z4⟩
 generalize Txt.slice (Txt.slice "q7abcdefghijklmnoprstuvwxyz012345689" (some (t : Int)) none) none (some (s : Int)) = z at sl2 hz
 generalize Txt.slice "q7abcdefghijklmnoprstuvwxyz012345689" (some (t : Int)) none = y at sl1 sl2
 have hpl := Zcd p hp
 obtain ⟨rs, c1, c2, c3, g1, g2, hloop⟩ := ZiW (fun j => (fun i => decide (i < 2)) j || walked [.v 5] j) (fun _ _ => false) 0 rfl rfl rfl rfl ns at_ f (Ls true lp) (.sc (.str "q7abcdefghijklmnoprstuvwxyz012345689")) (I s) p n z hpl.2 hz n1 n4 n 0 [] .hole .hole .hole (fun r hr => by simp at hr) (by simpa using n4)
 rw [List.length_nil, Nat.zero_add] at g1
 have e0 : ((0 : Nat) : Int) = 0 := rfl
 rw [e0] at hloop
 refine ⟨p, hp, n, rs, n1, n4, g1, g2, ?_⟩
 simp only [walked, Bool.or_false, Za8, bdy, gd1, gd0] at hloop
 walk_at "r"
 have hk1 : ∀ C : T.Ctx, (evb C (.kl [(.int 5), (.int 7), (.int 11), (.int 13), (.int 17), (.int 19), (.int 23), (.int 29), (.int 31), (.int 37), (.int 41), (.int 43), (.int 47), (.int 5), (.int 7), (.int 5), (.int 7), (.int 11)])).1 = M.ret (Ls true lp) := fun C => by
  show lift (newL (dI lp)) = _
  rw [ZaG _ (by rw [Za0, szl]; decide)]
  rfl
 have hk2 : ∀ C : T.Ctx, (evb C (.kl [(.int 2), (.int 4), (.int 8), (.int 36)])).1 = M.ret (Ls true lsz) := fun C => by
  show lift (newL (dI lsz)) = _
  rw [ZaG _ (by rw [Za0, szl]; decide)]
  rfl
 have hx1 : ((ixN' (dI lp).length r1).bind fun j => (dI lp)[j]?) = some (.sc (.int (p : Int))) := by
  rw [ixI lp r1 a1 (by rw [show lp.length = 18 from rfl]; omega), hp2]
 have hx2 : ((ixN' (dI lsz).length r3).bind fun j => (dI lsz)[j]?) = some (.sc (.int (s : Int))) := by
  rw [ixI lsz r3 a3 (by rw [show lsz.length = 4 from rfl]; omega), hs2]
 have hit : itW .rng1 [.sc (.int (n : Int))] = some (dI (rngI 0 n)) := by
  have := Zf3 (n : Int) (by omega)
  rwa [Int.toNat_natCast] at this
 have k1 : Za1.lend = true := rfl
 have k2 : Zo.lend = true := rfl
 have e3 : D.node .lst true [] = RL true [] := rfl
 have pc : ∀ (fi : FI) (es : List E) (c : M Op), ZaP (.call fi es) c = ((c.bnd view).bnd fun w => lift (intP w)) := fun _ _ _ => rfl
 simp only [scr] at hc hloop
 (simp_all [k1, k2, hc, h1, h2, h3, h4, hk1, hk2, hx1, hx2, hn, sl1, sl2, Zf6, hit, e3, hloop, pc, ZC]) <;> rfl
noncomputable def line (r : List Str) : Str := Txt.join ⟨#[32]⟩ r
noncomputable def lines (p : Nat) (rs : List (List Str)) : List Str := first p :: rs.map line
noncomputable def text (p : Nat) (rs : List (List Str)) : Str := Txt.join ⟨#[10]⟩ (lines p rs)
theorem Zmy (ws : List Str) : Zb6 (dT ws) = some ws := by
 induction ws with
 | nil => rfl
 | cons w ws ih =>
  show (Zb6 (dT ws)).map (w :: ·) = _
  rw [ih]
  rfl
def ZdJ {r : List Str} (hn : n ∈ [1, 2, 3, 4]) (hw : ∀ w ∈ r, w ∈ wds n) (hl : r.length = p) (hp : p <= 47) : JoinOk ⟨#[32]⟩ r = true /\ (line r).length <= 400 /\ 10 ∉ (line r).cps.toList := by
 have hb : ∀ w ∈ r, w.length <= 6 := fun w h => (Zce n hn w (hw w h)).2.2
 refine ⟨ZiU 32 6 r hb (by omega), ?_, fun hc => ?_⟩
 . have := Zg3 32 6 r hb
   unfold line
   omega
 . have hc' : 10 ∈ (Builtin.Str.glued ⟨#[32]⟩ r).cps.toList := hc
   rw [StrLaws.glued_eq_join] at hc'
   rcases Ze7 32 _ 10 hc' with e | ⟨q, hq, hx⟩
   . omega
   . exact (Zce n hn q (hw q hq)).2.1 hx
def Zh1 (hp : p ∈ primes) (h1 : 1 <= n) (h4 : n <= 4) (hl : rs.length = n) (h : ZH p n rs) : JoinOk ⟨#[10]⟩ (lines p rs) = true /\ (text p rs).length <= 3000 /\ Txt.split (text p rs) ⟨#[10]⟩ = lines p rs := by
 have hn := n14 h1 h4
 have hpl := Zcd p hp
 have hf := ZgQ p hp
 have hb : ∀ w ∈ lines p rs, w.length <= 400 := fun w hw => by
  rcases List.mem_cons.mp hw with rfl | hw
  . omega
  . obtain ⟨r, hr, rfl⟩ := List.mem_map.mp hw
    exact (ZdJ hn (h r hr).2 (h r hr).1 hpl.2).2.1
 have hll : (lines p rs).length = n + 1 := by unfold lines; rw [List.length_cons, List.length_map, hl]
 refine ⟨ZiU 10 400 _ hb (by rw [hll]; omega), ?_, ZdW 10 _ (by unfold lines; simp) fun w hw => ?_⟩
 . have := Zg3 10 400 _ hb
   rw [hll] at this
   unfold text
   omega
 . rcases List.mem_cons.mp hw with rfl | hw
   . exact hf.1
   . obtain ⟨r, hr, rfl⟩ := List.mem_map.mp hw
     exact (ZdJ hn (h r hr).2 (h r hr).1 hpl.2).2.2
def Zii {r : List Str} (hn : n ∈ [1, 2, 3, 4]) (hw : ∀ w ∈ r, w ∈ wds n) (hl : r.length = p) (hp : 1 <= p) : Txt.split (line r) ⟨#[32]⟩ = r :=
 ZdW 32 _ (fun e => by subst e; simp at hl; omega) fun w h => (Zce n hn w (hw w h)).1
def Zr4 : ∀ p ∈ primes, bfW .str [.sc (.int (p : Nat))] = some (S' (Str.ofString (toString (p : Int)))) := by
 unfold primes
 simp only [List.forall_mem_cons, List.not_mem_nil, false_implies, implies_true, and_true]
 refine ⟨?_, ?_, ?_, ?_, ?_, ?_, ?_, ?_, ?_, ?_, ?_, ?_, ?_⟩ <;> kernel_rfl
def Zr5 : ∀ p ∈ primes, binW .Add (.sc (.str "symbols ")) (.sc (.str (Str.ofString (toString ((p : Nat) : Int))))) = some (S' (first p)) := by
 unfold primes
 simp only [List.forall_mem_cons, List.not_mem_nil, false_implies, implies_true, and_true]
 refine ⟨?_, ?_, ?_, ?_, ?_, ?_, ?_, ?_, ?_, ?_, ?_, ?_, ?_⟩ <;> kernel_rfl
def Zg5 : (Str.ofString " ") = ⟨#[32]⟩ := by kernel_rfl
def Ze9 : (Str.ofString "\n") = ⟨#[10]⟩ := by kernel_rfl
def Zg6 (z : Str) (ws : List Str) (h : JoinOk z ws = true) : bmW .join z [.nd .lst (dT ws)] = some (S' (Txt.join z ws)) := by
 show (Zb6 (dT ws)).bind _ = _
 rw [Zmy]
 exact if_pos h
def Zh2 (z s : Str) (h : s.cps.size = 1) (hz : z.length + 2 <= sizeLine) : bmW .split z [.sc (.str s)] = some (TL true (Txt.split z s)) := if_pos ⟨h, hz⟩
def Zdy (z : Str) : strW (.sc (.str z)) = some z := (rfl)
def ixT (ws : List Str) (k : Nat) (h : k < ws.length) : ((ixN' (dT ws).length (k : Int)).bind fun j => (dT ws)[j]?) = some (S' (ws.getD k Str.empty)) := by
 rw [ZaO, Zc8 _ _ h]
 show (dT ws)[k]? = _
 rw [List.getElem?_map, List.getD_eq_getElem?_getD, List.getElem?_eq_getElem h]
 rfl
def ixR (g : List Str -> D) (rs : List (List Str)) (k : Nat) (h : k < rs.length) : ((ixN' (rs.map g).length (k : Int)).bind fun j => (rs.map g)[j]?) = some (g (rs.getD k [])) := by
 rw [List.length_map, Zc8 _ _ h]
 show (rs.map g)[k]? = _
 rw [List.getElem?_map, List.getD_eq_getElem?_getD, List.getElem?_eq_getElem h]
 rfl
theorem Zmz (h1 : lk 1 = false) (h2 : lk 2 = false) (x0 : D) : ∀ (rs : List (List Str)) (ls : List Str) (a : D), (∀ r ∈ rs, JoinOk ⟨#[32]⟩ r = true) -> ls.length + rs.length <= 100 -> ∃ a',
 forL (asgT lk (.name 2)) (exs ⟨lk, fok, fuel⟩ [.ex (.mut .append 1 [] [.bm .join (.k (.str " ")) [.v 2]])]) (rs.map (TL false)) [x0, TL true ls, a] = .ok (.nx, [x0, TL true (ls ++ rs.map line), a']) := by
 intro rs
 induction rs with
 | nil => exact fun ls a _ _ => ⟨a, by rw [List.map_nil, List.map_nil, List.append_nil]; rfl⟩
 | cons r rs ih =>
  intro ls a hj hl
  rw [List.length_cons] at hl
  obtain ⟨a', ih⟩ := ih (ls ++ [line r]) (TL false r) (fun q hq => hj q (List.mem_cons_of_mem _ hq)) (by rw [List.length_append, List.length_singleton]; omega)
  refine ⟨a', ?_⟩
  rw [List.append_assoc] at ih
  rw [List.map_cons, List.map_cons, show ls ++ line r :: rs.map line = ls ++ ([line r] ++ rs.map line) from rfl, <- ih, Zbd]
  have hj1 : bmW .join (Str.ofString " ") [.nd .lst (dT r)] = some (S' (line r)) := by
   rw [Zg5]
   exact Zg6 _ r (hj r (by simp))
  have hz : (dT ls).length < sizeLine := by rw [ZaO, szl]; omega
  have ha := fun (δ : List D) (d : D) => Zer 1 δ d (dT ls) hz
  have e2 : dT ls ++ [S' (line r)] = dT (ls ++ [line r]) := (show dT (ls ++ [line r]) = dT ls ++ [S' (line r)] from List.map_append).symm
  simp_all [h1, h2, Zdy, hj1, ha, e2]
def Zkj (b : Bool) (hp : p ∈ primes) (h1 : 1 <= n) (h4 : n <= 4) (hl : rs.length = n) (h : ZH p n rs) : Zb0.run [RL b rs] = .ok (S' (text p rs), [RL false rs]) := by
 walk_at "r"
 have hpl := Zcd p hp
 obtain ⟨a', hf⟩ := Zmz (fun j => (fun i => decide (i < 1)) j || walked [.v 0] j) (fun _ _ => false) 0 rfl rfl .hole rs [first p] .hole (fun r hr => (ZdJ (n14 h1 h4) (h r hr).2 (h r hr).1 hpl.2).1) (by rw [List.length_singleton]; omega)
 rw [show [first p] ++ rs.map line = lines p rs from rfl] at hf
 simp only [walked, Bool.or_false] at hf
 have hx := ixR (TL false) rs 0 (by omega)
 have hr0 : (rs.getD 0 []).length = p := by
  rw [List.getD_eq_getElem?_getD, List.getElem?_eq_getElem (by omega)]
  exact (h _ (List.getElem_mem _)).1
 generalize rs.getD 0 [] = r0 at hx hr0
 have e0 : ((0 : Nat) : Int) = 0 := rfl
 rw [e0] at hx
 have hlen : ((dT r0).length : Int) = (p : Int) := by rw [ZaO, hr0]
 have s1 := Zr4 p hp
 have s2 := Zr5 p hp
 have hi : ∀ ds : List D, itW .val [.nd .lst ds] = some ds := fun _ => rfl
 have e1 : D.node .lst true [S' (first p)] = TL true [first p] := rfl
 have hj : bmW .join (Str.ofString "\n") [.nd .lst (dT (lines p rs))] = some (S' (text p rs)) := by
  rw [Ze9]
  exact Zg6 _ _ (Zh1 hp h1 h4 hl h).1
 (simp_all [Zdx, Zbm, hx, hlen, s1, s2, Zr0, e1, hi, hf, Zdy, hj]) <;> rfl
def ZkQ (w : W) : bfW (.isi .str) [w] = (tyW .str w).map fun b => .sc (.bl b) := (rfl)
def Zr6 (z : Str) : tyW .str (.sc (.str z)) = some true := (rfl)
def ZgR (t : Str) (ht : t.length <= 3000) : Zcn.run [S' t] = .ok (TL true (Txt.split t ⟨#[10]⟩), [S' t]) := by
 walk_at "r"
 have hs : bmW .split t [.sc (.str (Str.ofString "\n"))] = some (TL true (Txt.split t ⟨#[10]⟩)) := by
  rw [Ze9]
  exact Zh2 _ _ rfl (by rw [szl]; omega)
 (simp_all [ZkQ, Zr6, Zdy, hs]) <;> rfl
def Zm0 (ls : List Str) (h2 : 2 <= ls.length) (h5 : ls.length <= 5) : Zav.run [TL true ls] = .ok (.sc .non, [TL true ls]) := by
 walk_at "r"
 have hl : ((dT ls).length : Int) = (ls.length : Int) := by rw [ZaO]
 have c1 : ¬ (5 : Int) < (ls.length : Int) := by omega
 have c2 : ¬ ((ls.length : Int) = 1) := by omega
 (simp_all [hl, Zbm, c1, c2, V.int.injEq]) <;> rfl
def Zr7 (ds : List D) : bfW .all [.nd .lst ds] = (ZaC ds).map fun bs => .sc (.bl (bs.all id)) := (rfl)
theorem Zfr : ∀ n : Nat, ZaC (List.replicate n (D.sc (.bl true))) = some (List.replicate n true)
 | 0 => rfl
 | n + 1 => by rw [List.replicate_succ, ZaC, Zfr n]; rfl
def Zm1 (n : Nat) : bfW .all [.nd .lst (List.replicate n (D.sc (.bl true)))] = some (.sc (.bl true)) := by
 rw [Zr7, Zfr]
 simp
def Zkk (n m : Nat) : List.replicate n (D.sc (.bl true)) ++ [D.sc (.bl true)] ++ List.replicate m (D.sc (.bl true)) = List.replicate (n + (m + 1)) (D.sc (.bl true)) := by
 rw [List.append_assoc, <- List.replicate_append_replicate]
 rfl
noncomputable abbrev Dc (b : Bool) (n : Nat) : D := .node (.dic ((wds n).map (Sum.inr : Str -> Key))) true ((wds n).map (mean b))
noncomputable abbrev Mrow (o : Bool) (r : List Str) : D := .node .lst o (r.map (mean false))
noncomputable abbrev MsT (o : Bool) (rs : List (List Str)) : D := .node .lst o (rs.map (Mrow o))
def ZiX (w : Str) : shrL (ZaJ w) = ZaJ w := by
 unfold ZaJ
 split
 . rfl
 split
 . rfl
 split <;> rfl
def Zkl (b : Bool) (w : Str) : shr (mean b w) = mean false w := by
 show D.node .tup false (shrL (ZaJ w)) = _
 rw [ZiX]
theorem Zdz (b : Bool) (ws : List Str) : shrL (ws.map (mean b)) = ws.map (mean false) := by
 induction ws with
 | nil => rfl
 | cons w ws ih => rw [List.map_cons, shrL, ih, Zkl, List.map_cons]
theorem ZeA (o : Bool) (rs : List (List Str)) : shrL (rs.map (Mrow o)) = rs.map (Mrow false) := by
 induction rs with
 | nil => rfl
 | cons r rs ih =>
  rw [List.map_cons, shrL, ih, List.map_cons]
  congr 1
  show D.node .lst false (shrL (r.map (mean false))) = _
  rw [Zdz]
def ZiY (n : Nat) (w : Str) (hw : w ∈ wds n) : Zah (.inr w) ((wds n).map (Sum.inr : Str -> Key)) ((wds n).map (mean false)) = some (mean false w) := ZiV w (mean false) _ hw
theorem Zm2 (h0 : lk 0 = false) (n : Nat) : ∀ (ws : List Str) (m : Nat) (a : D) (b : Bool), (∀ w ∈ ws, w ∈ wds n) -> ∃ a' b',
 Zai (asgT lk (.name 0)) (tsts ⟨lk, fok, fuel⟩ []) (evb ⟨lk, fok, fuel⟩ (.cmp .In (.v 0) (.v 1))).1 (dT ws) (List.replicate m (.sc (.bl true))) [a, Dc b n] = .ok (List.replicate (m + ws.length) (.sc (.bl true)), [a', Dc b' n]) := by
 intro ws
 induction ws with
 | nil => exact fun m a b _ => ⟨a, b, rfl⟩
 | cons w ws ih =>
  intro m a b hw
  obtain ⟨a', b', ih⟩ := ih (m + 1) (S' w) false (fun q hq => hw q (List.mem_cons_of_mem _ hq))
  refine ⟨a', b', ?_⟩
  have e : List.replicate m (D.sc (.bl true)) ++ [D.sc (.bl true)] = List.replicate (m + 1) (D.sc (.bl true)) := by have := Zkk m 0; rwa [List.replicate_zero, List.append_nil] at this
  rw [List.length_cons, show m + (ws.length + 1) = m + 1 + ws.length by omega, <- ih, show dT (w :: ws) = S' w :: dT ws from rfl, Zew]
  have hk := ZiY n w (hw w (by simp))
  have hs : ∀ d : D, (some d).isSome = true := fun _ => rfl
  simp_all [h0, Zdz, hk, hs, e]
theorem Zkm (h0 : lk 0 = false) (n : Nat) : ∀ (ws acc : List Str) (a : D) (b : Bool), (∀ w ∈ ws, w ∈ wds n) -> ∃ a' b',
 Zai (asgT lk (.name 0)) (tsts ⟨lk, fok, fuel⟩ []) (evb ⟨lk, fok, fuel⟩ (.ix (.v 1) (.v 0))).1 (dT ws) (acc.map (mean false)) [a, Dc b n] = .ok ((acc ++ ws).map (mean false), [a', Dc b' n]) := by
 intro ws
 induction ws with
 | nil => exact fun acc a b _ => ⟨a, b, by rw [List.append_nil]; rfl⟩
 | cons w ws ih =>
  intro acc a b hw
  obtain ⟨a', b', ih⟩ := ih (acc ++ [w]) (S' w) false (fun q hq => hw q (List.mem_cons_of_mem _ hq))
  refine ⟨a', b', ?_⟩
  rw [List.append_assoc] at ih
  rw [show acc ++ w :: ws = acc ++ ([w] ++ ws) from rfl, <- ih, show dT (w :: ws) = S' w :: dT ws from rfl, Zew]
  have hk := ZiY n w (hw w (by simp))
  have e : acc.map (mean false) ++ [D.node .tup false (ZaJ w)] = (acc ++ [w]).map (mean false) := by rw [List.map_append]; rfl
  simp_all [h0, Zdz, hk, e]
theorem Zkn (h3 : lk 3 = false) (h4 : lk 4 = false) (h5 : lk 5 = false) (p n : Nat) (ls : List Str) (hp : 1 <= p) (hp2 : p <= 47) (hn : n ∈ [1, 2, 3, 4]) : ∀ (rs done : List (List Str)) (b : Bool) (a c : D), ZH p n rs -> (∀ k : Nat, k < rs.length -> done.length + 1 + k < ls.length /\ ls.getD (done.length + 1 + k) Str.empty = line (rs.getD k [])) -> done.length + rs.length <= 4 -> ∃ b' a' c',
 forL (asgT lk (.name 4)) (exs ⟨lk, fok, fuel⟩ (bdy (ZS.getD 2 .pass))) (dI (rngI ((done.length + 1 : Nat) : Int) rs.length)) [I p, TL true ls, Dc b n, .node .lst true (done.map (Mrow true)), a, c] = .ok (.nx, [I p, TL true ls, Dc b' n, .node .lst true ((done ++ rs).map (Mrow true)), a', c']) := by
 intro rs
 induction rs with
 | nil => exact fun done b a c _ _ _ => ⟨b, a, c, by rw [List.append_nil]; rfl⟩
 | cons r rs ih =>
  intro done b a c hok hat hl
  rw [List.length_cons] at hl
  obtain ⟨hr1, hr2⟩ := hok r (by simp)
  obtain ⟨g1, g2⟩ := hat 0 (by simp)
  have g2 : ls.getD (done.length + 1) Str.empty = line r := g2
  have g1 : done.length + 1 < ls.length := g1
  obtain ⟨a1, b1, hin⟩ := Zm2 (fun j => decide (1 <= j)) fok fuel rfl n r 0 .hole b hr2
  obtain ⟨a2, b2, hget⟩ := Zkm (fun j => decide (1 <= j)) fok fuel rfl n r [] .hole b1 hr2
  rw [List.nil_append] at hget
  rw [Nat.zero_add] at hin
  obtain ⟨b', a', c', ih⟩ := ih (done ++ [r]) b2 (I (done.length + 1 : Nat)) (TL true r) (fun q hq => hok q (List.mem_cons_of_mem _ hq)) (fun k hk => by
   have := hat (k + 1) (by rw [List.length_cons]; omega)
   rw [List.length_append, List.length_singleton]
   refine ⟨by omega, ?_⟩
   rw [show done.length + 1 + 1 + k = done.length + 1 + (k + 1) by omega, this.2]
   rfl) (by rw [List.length_append, List.length_singleton]; omega)
  refine ⟨b', a', c', ?_⟩
  rw [List.length_append, List.length_singleton, List.append_assoc] at ih
  rw [show done ++ r :: rs = done ++ ([r] ++ rs) from rfl, <- ih, List.length_cons, rngI, Zbu, Zbd]
  simp only [ZS, bdy, gd1, gd0]
  have e1 : ((done.length + 1 + 1 : Nat) : Int) = ((done.length + 1 : Nat) : Int) + 1 := by omega
  rw [e1]
  have hx := ixT ls (done.length + 1) g1
  rw [g2] at hx
  generalize done.length + 1 = i at hx
  have hll := (ZdJ hn hr2 hr1 hp2).2.1
  have hs : bmW .split (line r) [.sc (.str (Str.ofString " "))] = some (TL true r) := by
   rw [Zg5, Zh2 _ _ rfl (by rw [szl]; omega), Zii hn hr2 hr1 hp]
  have hlen : ((dT r).length : Int) = (p : Int) := by rw [ZaO, hr1]
  have hd : decide (V.int (p : Int) = V.int (p : Int)) = true := decide_eq_true rfl
  have hi : ∀ ds : List D, itW .val [.nd .lst ds] = some ds := fun _ => rfl
  have hc1 : ∀ b0 b1' b3 b4 b5 : D, Za3 1 [2] (ZbI fok fuel 1 (.name 0) [] (.cmp .In (.v 0) (.v 1)) (dT r) []) [b0, b1', Dc b n, b3, b4, b5] = .ok (.node .lst true (List.replicate r.length (.sc (.bl true))), [b0, b1', Dc b1 n, b3, b4, b5]) := fun b0 b1' b3 b4 b5 => by
   replace hin : ZbI fok fuel 1 (.name 0) [] (.cmp .In (.v 0) (.v 1)) (dT r) [] [.hole, Dc b n] = _ := hin
   rw [ZcO (js := [2]) (caps := [Dc b n]) (δ1 := [b0, b1', .hole, b3, b4, b5]) rfl hin (by rw [List.length_replicate, szl]; omega)]
   rfl
  have hc2 : ∀ b0 b1' b3 b4 b5 : D, Za3 1 [2] (ZbI fok fuel 1 (.name 0) [] (.ix (.v 1) (.v 0)) (dT r) []) [b0, b1', Dc b1 n, b3, b4, b5] = .ok (Mrow true r, [b0, b1', Dc b2 n, b3, b4, b5]) := fun b0 b1' b3 b4 b5 => by
   replace hget : ZbI fok fuel 1 (.name 0) [] (.ix (.v 1) (.v 0)) (dT r) [] [.hole, Dc b1 n] = _ := hget
   rw [ZcO (js := [2]) (caps := [Dc b1 n]) (δ1 := [b0, b1', .hole, b3, b4, b5]) rfl hget (by rw [List.length_map, szl]; omega)]
   rfl
  have hz : (done.map (Mrow true)).length < sizeLine := by rw [List.length_map, szl]; omega
  have ha := fun (δ : List D) (d : D) => Zer 3 δ d (done.map (Mrow true)) hz
  have e2 : done.map (Mrow true) ++ [Mrow true r] = (done ++ [r]).map (Mrow true) := by rw [List.map_append]; rfl
  simp_all [h3, h4, h5, hx, Zdy, hs, hlen, hd, Zbm, hi, hc1, hc2, Zm1, ha, e2]
def Zd0 (p : Nat) (rs : List (List Str)) : (lines p rs).length = rs.length + 1 := by unfold lines; rw [List.length_cons, List.length_map]
def Zm3 (hp : p ∈ primes) (h1 : 1 <= n) (h4 : n <= 4) (hl : rs.length = n) (h : ZH p n rs) : Zap.run [I p, TL true (lines p rs)] = .ok (MsT true rs, [I p, TL true (lines p rs)]) := by
 walk_at "r"
 have hpl := Zcd p hp
 have hn := n14 h1 h4
 have hw := ZoF n hn
 obtain ⟨b', a', c', hf⟩ := Zkn (fun j => decide (j < 2)) (fun _ _ => false) 0 rfl rfl rfl p n (lines p rs) (by omega) hpl.2 hn rs [] true .hole .hole h (fun k hk => by
  rw [Zd0, List.length_nil]
  refine ⟨by omega, ?_⟩
  show (lines p rs).getD (0 + 1 + k) Str.empty = _
  unfold lines
  rw [show 0 + 1 + k = k + 1 by omega, List.getD_eq_getElem?_getD, List.getElem?_cons_succ, List.getElem?_map, List.getD_eq_getElem?_getD, List.getElem?_eq_getElem hk]
  rfl) (by rw [List.length_nil]; omega)
 rw [List.nil_append, hl] at hf
 have e0 : (([] : List (List Str)).length + 1 : Nat) = 1 := rfl
 rw [e0, show ((1 : Nat) : Int) = 1 from rfl] at hf
 simp only [ZS, bdy, gd1, gd0] at hf
 have hlen : ((dT (lines p rs)).length : Int) = (n : Int) + 1 := by rw [ZaO, Zd0, hl]; rfl
 have e1 : (n : Int) + 1 - 1 = n := by omega
 have hit : itW .rng2 [.sc (.int 1), .sc (.int ((n : Int) + 1))] = some (dI (rngI 1 n)) := by
  have := Zrj 1 ((n : Int) + 1) (by omega)
  rwa [show ((n : Int) + 1 - 1).toNat = n by omega] at this
 have k1 : Zaj.lend = true := rfl
 have e2 : D.node .lst true [] = D.node .lst true (([] : List (List Str)).map (Mrow true)) := rfl
 (simp_all [Zbm, hlen, e1, k1, hw, Zf6, e2, hit, hf]) <;> rfl
noncomputable abbrev fs3 : List Str := ["size", "meanings", "text"]
noncomputable abbrev Tb (C : Addr) (o : Bool) (p : Nat) (rs : List (List Str)) (t : Str) : D := .node (.ins C fs3) true [I p, MsT o rs, S' t]
def ZkR (C : Addr) (f : Str) (h : f ∈ fs3) : (CK C).fok C f = true := by
 show (decide (C = C) && _) = true
 simp only [decide_true, Bool.true_and, Bool.or_eq_true, beq_iff_eq]
 simp only [List.mem_cons, List.not_mem_nil, or_false] at h
 rcases h with rfl | rfl | rfl
 . exact .inl (.inl rfl)
 . exact .inl (.inr rfl)
 . exact .inr rfl
def Zij (C : Addr) (f : Str) (fs : List Str) (ds : List D) (x : D) (hf : f ∈ fs3) (hl : Zcj f fs ds = some x) : fldW (CK C).fok f (.nd (.ins C fs) ds) = some x := by
 show (if (CK C).fok C f = true then Zcj f fs ds else none) = _
 rw [if_pos (ZkR C f hf), hl]
def ZkS (C : Addr) (a b c : D) : fldW (CK C).fok "size" (.nd (.ins C fs3) [a, b, c]) = some a := Zij C _ _ _ _ (by decide) rfl
def ZkT (C : Addr) (a b c : D) : fldW (CK C).fok "meanings" (.nd (.ins C fs3) [a, b, c]) = some b := Zij C _ _ _ _ (by decide) rfl
def Zr8 (C : Addr) (a : D) : fldW (CK C).fok "size" (.nd (.ins C ["size"]) [a]) = some a := Zij C _ _ _ _ (by decide) rfl
def Zg7 (C : Addr) (i : Nat) (δ : List D) (f : Str) (hf : f ∈ fs3) (d : D) (fs : List Str) (ds : List D) (hl : fs.length < 1000) : mdR i δ (putD (CK C).fok f d) (some (.node (.ins C fs) true ds)) = .ok (.sc .non, δ.set i (.node (.ins C (putN f fs)) true (putV f d fs ds))) := by
 have e : putD (CK C).fok f d (.ins C fs) ds = some (.sc .non, .ins C (putN f fs), putV f d fs ds) := by
  show (if fs.length < 1000 /\ (CK C).fok C f = true then some (D.sc .non, Kd.ins C (putN f fs), T.putV f d fs ds) else none) = _
  rw [if_pos ⟨hl, ZkR C f hf⟩]
 show (match putD (CK C).fok f d (.ins C fs) ds with | some (r, k', ds') => Rs.ok (r, δ.set i (.node k' true ds')) | none => .stuck) = _
 rw [e]
def Zko (C : Addr) (hp : p ∈ primes) (h1 : 1 <= n) (h4 : n <= 4) (hl : rs.length = n) (h : ZH p n rs) : (ZaU C).run [.node (.ins C []) true [], S' (text p rs)] = .ok (.sc .non, [Tb C true p rs (text p rs), S' (text p rs)]) := by
 walk_at "r"
 obtain ⟨_, t2, t3⟩ := Zh1 hp h1 h4 hl h
 have r1 := ZgR (text p rs) t2
 rw [t3] at r1
 have hll := Zd0 p rs
 have hx := ixT (lines p rs) 0 (by omega)
 rw [show (lines p rs).getD 0 Str.empty = first p from rfl, show ((0 : Nat) : Int) = 0 from rfl] at hx
 have r2 := Zkg p hp
 have r3 := Zm0 (lines p rs) (by omega) (by omega)
 have r4 := Zm3 hp h1 h4 hl h
 have k1 : Zcn.lend = true := rfl
 have k2 : Zbg.lend = true := rfl
 have k3 : Zav.lend = true := rfl
 have k4 : Zap.lend = true := rfl
 have p1 := fun (δ : List D) (d : D) => Zg7 C 0 δ "size" (by decide) d [] [] (by decide)
 have p2 := fun (δ : List D) (d a : D) => Zg7 C 0 δ "meanings" (by decide) d ["size"] [a] (by decide)
 have p3 := fun (δ : List D) (d a b : D) => Zg7 C 0 δ "text" (by decide) d ["size", "meanings"] [a, b] (by decide)
 have q1 : putN "size" [] = (["size"] : List Str) := by kernel_rfl
 have q2 : putN "meanings" ["size"] = (["size", "meanings"] : List Str) := by kernel_rfl
 have q3 : putN "text" ["size", "meanings"] = fs3 := by kernel_rfl
 have v1 : ∀ d : D, T.putV "size" d ([] : List Str) [] = [d] := fun d => rfl
 have v2 : ∀ d a : D, T.putV "meanings" d (["size"] : List Str) [a] = [a, d] := fun d a => rfl
 have v3 : ∀ d a b : D, T.putV "text" d (["size", "meanings"] : List Str) [a, b] = [a, b, d] := fun d a b => rfl
 rw [q1] at p1
 rw [q2] at p2
 rw [q3] at p3
 generalize text p rs = t at r1
 generalize lines p rs = ls at r1 hx r3 r4
 (simp_all [k1, k2, k3, k4, r1, r2, r3, r4, hx, Zbm, p1, p2, p3, v1, v2, v3, Zr8]) <;> rfl
def gmem {r : List Str} (h : j < r.length) : r.getD j Str.empty ∈ r := by
 rw [List.getD_eq_getElem?_getD, List.getElem?_eq_getElem h]
 exact List.getElem_mem h
def Zkp (w : Str) : ∃ k v, ZaJ w = [S' k, .sc v] /\ tyW .bool (.sc v) = some false := by
 unfold ZaJ
 split
 . exact ⟨_, _, rfl, rfl⟩
 split
 . exact ⟨_, _, rfl, rfl⟩
 split <;> exact ⟨_, _, rfl, rfl⟩
def ixM (r : List Str) (k : Nat) (h : k < r.length) : ((ixN' (r.map (mean false)).length (k : Int)).bind fun j => (r.map (mean false))[j]?) = some (mean false (r.getD k Str.empty)) := by
 rw [List.length_map, Zc8 _ _ h]
 show (r.map (mean false))[k]? = _
 rw [List.getElem?_map, List.getD_eq_getElem?_getD, List.getElem?_eq_getElem h]
 rfl
def ix20 (a b : D) : ((ixN' 2 0).bind fun j => [a, b][j]?) = some a := rfl
def ix21 (a b : D) : ((ixN' 2 1).bind fun j => [a, b][j]?) = some b := rfl
def ZkL (w : W) : bfW (.isi .bool) [w] = (tyW .bool w).map fun b => .sc (.bl b) := (rfl)
def Zik (C : Addr) (m : Str) (i : Nat) (δ : List D) (fs : List Str) (o : Bool) (ds : List D) (h : δ[i]? = some (.node (.ins C fs) o ds)) (hm : m ∉ fs) : chkI C m (.late i) δ = .ok ((), δ) := by
 unfold chkI
 simp only [h]
 rw [if_pos ⟨trivial, hm⟩]
def new1 {A : Addr} {fi : FI} {x y : D} (h : fi.run [.node (.ins A []) true [], d] = .ok (.sc .non, [x, y])) (δ : List D) : newF A fi [.tmp d] δ = .ok (x, δ) := by
 unfold newF
 rw [Zc9 (show Zab fi.lend [.tmp d] δ = .ok ([d], δ) from rfl)]
 rw [h]
 rfl
noncomputable def excR (x : D) : Rs (Unit × List D) -> Rs (D × List D)
 | .ok (_, δ') => .exc x δ'
 | _ => .stuck
def ZkU {ps : List Op} {x : D} {ds' : List D} : cxR ps δ (.exc x ds') = excR x (Z4 ps ds' δ) := by
 show (match Z4 ps ds' δ with | .ok (_, δ') => Rs.exc x δ' | _ => .stuck) = _
 unfold excR
 cases Z4 ps ds' δ <;> rfl
def Zh3 (x : D) (u : Unit) (δ : List D) : excR x (.ok (u, δ)) = .exc x δ := (rfl)
def ZaS (p : Bool) : isNW p (.sc .non) = .sc (.bl (true == p)) := by cases p <;> rfl
def Zr9 (p : Bool) (k : Kd) (ds : List D) : isNW p (.nd k ds) = .sc (.bl (!p)) := (rfl)
def Zb2 (p : Bool) (i : Int) : isNW p (.sc (.int i)) = .sc (.bl (!p)) := by cases p <;> rfl
noncomputable abbrev Xc (c : Str) (b : Bool) (n : Int) : D := .node (.exc [c, "LabelError"] false ["number"]) b [I n]
def ZoH : ∀ k : Nat, k < 64 -> (fmtW (Str.ofString "no symbol: number ") (.sc (.int (k : Int)))).isSome = true := by walk_at "d"
def Zm4 : fmtW Str.empty (.sc (.str (Str.ofString "no symbol: number "))) = some (Str.ofString "no symbol: number ") := by kernel_rfl
def ZoI : ∀ k : Nat, k < 64 -> (fmtW (Str.ofString "not to be read: number ") (.sc (.int (k : Int)))).isSome = true := by walk_at "d"
def Zm5 : fmtW Str.empty (.sc (.str (Str.ofString "not to be read: number "))) = some (Str.ofString "not to be read: number ") := by kernel_rfl
def Zm6 (n : Nat) (h1 : n < 64) : Z9.run [.node (.exc ["NoSymbol", "LabelError"] true []) true [], I n] = .ok (.sc .non, [.node (.exc ["NoSymbol", "LabelError"] true ["number"]) true [I n], I n]) := by
 obtain ⟨z, hz⟩ := Option.isSome_iff_exists.mp (ZoH n h1)
 walk_at "r"
 have f0 := Zm4
 have hp : ∀ δ : List D, mdR 0 δ (putX (Str.ofString "number") (I n)) (some (.node (.exc ["NoSymbol", "LabelError"] true []) true [])) = .ok (.sc .non, δ.set 0 (.node (.exc ["NoSymbol", "LabelError"] true ["number"]) true [I n])) := fun δ => rfl
 (simp_all [f0, hz, hp]) <;> rfl
def Zh4 (n : Nat) (h1 : n < 64) : Z2.run [.node (.exc ["NoReading", "LabelError"] true []) true [], I n] = .ok (.sc .non, [.node (.exc ["NoReading", "LabelError"] true ["number"]) true [I n], I n]) := by
 obtain ⟨z, hz⟩ := Option.isSome_iff_exists.mp (ZoI n h1)
 walk_at "r"
 have f0 := Zm5
 have hp : ∀ δ : List D, mdR 0 δ (putX (Str.ofString "number") (I n)) (some (.node (.exc ["NoReading", "LabelError"] true []) true [])) = .ok (.sc .non, δ.set 0 (.node (.exc ["NoReading", "LabelError"] true ["number"]) true [I n])) := fun δ => rfl
 (simp_all [f0, hz, hp]) <;> rfl
def Sy (p : Int) (d : D) (b : Bool) : Prop := Zaq.run [I p, d] = .ok (.sc (.bl b), [I p, d]) /\ shr d = d /\ ((∃ v, d = .sc v) \/ ∃ k l, d = .node k false l)
noncomputable def ffx : Nat -> List (D × Bool) -> Option Nat
 | _, [] => none
 | c, (_, true) :: r => ffx (c + 1) r
 | c, (_, false) :: _ => some c
theorem ZgS (h2 : lk 2 = false) (h3 : lk 3 = false) (p : Int) (X : D) : ∀ (qs : List (D × Bool)) (c : Nat) (a b : D), (∀ q ∈ qs, Sy p q.1 q.2) -> c + qs.length <= 64 -> ∃ a' b',
 forL (asgT lk (.tup [2, 3])) (exs ⟨lk, fok, fuel⟩ [.iff (.nt (.call Zaq [.v 0, .v 3])) [.raiseI ["NoSymbol", "LabelError"] Z9 [.v 2]] []]) (Zad c (qs.map Prod.fst)) [I p, X, a, b] = (match ffx c qs with | none => .ok (.nx, [I p, X, a', b']) | some n => .exc (Xc "NoSymbol" true n) [I p, X, a', b']) := by
 intro qs
 induction qs with
 | nil => exact fun c a b _ _ => ⟨a, b, rfl⟩
 | cons q qs ih =>
  intro c a b hx hl
  rw [List.length_cons] at hl
  obtain ⟨d, t⟩ := q
  obtain ⟨hr, hs, hd⟩ := hx (d, t) List.mem_cons_self
  have l1 : Zaq.lend = true := rfl
  have l2 : Z9.lend = true := rfl
  have hi := Zm6 c (by omega)
  have nx : ¬ 1000 < 1 := by decide
  rw [List.map_cons, Zad, Zbd]
  cases t with
  | true =>
   obtain ⟨a', b', ih⟩ := ih (c + 1) (I c) d (fun y hy => hx y (List.mem_cons_of_mem _ hy)) (by omega)
   refine ⟨a', b', ?_⟩
   show _ = (match ffx (c + 1) qs with | none => Rs.ok (Fl.nx, [I p, X, a', b']) | some n => .exc (Xc "NoSymbol" true n) [I p, X, a', b'])
   have e1 : ((c + 1 : Nat) : Int) = (c : Int) + 1 := by omega
   rw [e1] at ih
   rw [<- ih]
   rcases hd with ⟨v, rfl⟩ | ⟨k, l, rfl⟩
   . simp_all [h2, h3, ZcA, l1, hr]
   . simp_all [h2, h3, ZcA, l1, hr]
  | false =>
   refine ⟨I c, d, ?_⟩
   show _ = Rs.exc (Xc "NoSymbol" true c) [I p, X, I c, d]
   rcases hd with ⟨v, rfl⟩ | ⟨k, l, rfl⟩
   . (simp_all [h2, h3, ZcA, l1, l2, hr, hi, Zf4 (ns := ["NoSymbol", "LabelError"]) (fi := Z9) (ps := [Op.late 2]) nx]) <;> rfl
   . (simp_all [h2, h3, ZcA, l1, l2, hr, hi, Zf4 (ns := ["NoSymbol", "LabelError"]) (fi := Z9) (ps := [Op.late 2]) nx]) <;> rfl
theorem Zd1 : ∀ qs : List (D × Bool), (∀ q ∈ qs, shr q.1 = q.1) -> shrL (qs.map Prod.fst) = qs.map Prod.fst
 | [], _ => rfl
 | q :: qs, h => by rw [List.map_cons, shrL, h q List.mem_cons_self, Zd1 qs fun x hx => h x (List.mem_cons_of_mem _ hx)]
theorem Zfs (p : Int) (qs : List (D × Bool)) (hq : ∀ q ∈ qs, Sy p q.1 q.2) (hl : qs.length <= 60) : Zao.run [I p, .node .lst true (qs.map Prod.fst)] = (match ffx 0 qs with | none => .ok (.sc .non, [I p, .node .lst true (qs.map Prod.fst)]) | some n => .exc (Xc "NoSymbol" true n) [I p, .node .lst true (qs.map Prod.fst)]) := by
 walk_at "r"
 obtain ⟨a', b', hs⟩ := ZgS (fun j => decide (j < 2) || walked [.v 1, .k (.int 0)] j) (fun _ _ => false) 0 rfl rfl p .hole qs 0 .hole .hole hq (by omega)
 simp only [walked, Bool.or_false] at hs
 rw [show ((0 : Nat) : Int) = 0 from rfl] at hs
 have sh := Zd1 qs fun q h => (hq q h).2.1
 cases hn : ffx 0 qs with
 | none =>
  rw [hn] at hs
  (simp_all [sh, it_e _ 0 (by decide), hs]) <;> rfl
 | some n =>
  rw [hn] at hs
  (simp_all [sh, it_e _ 0 (by decide), hs]) <;> rfl
def Zh5 (x : Int) : Zaz.run [I x] = .ok (.sc (.bl true), [I x]) := by kernel_rfl
def ZcF (d : D) (hd : (∃ b, d = .sc (.bl b)) \/ (∃ x, d = .sc (.str x)) \/ d = .sc .non \/ (∃ ds, d = .node .lst false ds) \/ ∃ ds, d = .node .tup false ds) : Zaz.run [d] = .ok (.sc (.bl false), [d]) := by
 rcases hd with ⟨b, rfl⟩ | ⟨x, rfl⟩ | rfl | ⟨ds, rfl⟩ | ⟨ds, rfl⟩ <;> kernel_rfl
def ZrA (p x : Int) : Zaq.run [I p, I x] = .ok (.sc (.bl (decide (0 <= x) && decide (x < p))), [I p, I x]) := by
 walk_at "r"
 have l1 : Zaz.lend = true := rfl
 by_cases h0 : 0 <= x
 . (simp_all [l1, Zh5, h0]) <;> rfl
 . (simp_all [l1, Zh5, h0]) <;> rfl
def ZeB (p : Int) (d : D) (hd : (∃ v, d = .sc v) \/ ∃ k l, d = .node k false l) (h : Zaz.run [d] = .ok (.sc (.bl false), [d])) : Zaq.run [I p, d] = .ok (.sc (.bl false), [I p, d]) := by
 walk_at "r"
 have l1 : Zaz.lend = true := rfl
 rcases hd with ⟨v, rfl⟩ | ⟨k, l, rfl⟩ <;> (simp_all [l1, h]) <;> rfl
def Pd (d : D) : Prop := ∃ a, py d = some a /\ a.canLay0 = true /\ a.depth <= 1 /\ PyData.eqv a a = true
def Sz (p : Int) (q : D × Bool) : Prop := Sy p q.1 q.2 /\ Pd q.1
def Pd_i (x : Int) : Pd (I x) := ⟨.int x, rfl, rfl, Nat.zero_le _, by simp [PyData.eqv]⟩
def Sz_i (p x : Int) : Sz p (I x, decide (0 <= x) && decide (x < p)) := ⟨⟨ZrA p x, rfl, .inl ⟨_, rfl⟩⟩, Pd_i x⟩
def Sz_b (p : Int) (b : Bool) : Sz p (.sc (.bl b), false) := ⟨⟨ZeB p _ (.inl ⟨_, rfl⟩) (ZcF _ (.inl ⟨b, rfl⟩)), rfl, .inl ⟨_, rfl⟩⟩, .bool b, rfl, rfl, Nat.zero_le _, by cases b <;> rfl⟩
def Sz_s (p : Int) (z : Str) (hz : (PyData.str z).canLay0 = true) : Sz p (.sc (.str z), false) := ⟨⟨ZeB p _ (.inl ⟨_, rfl⟩) (ZcF _ (.inr (.inl ⟨_, rfl⟩))), rfl, .inl ⟨_, rfl⟩⟩, .str z, rfl, hz, Nat.zero_le _, by simp [PyData.eqv]⟩
def Sz_n (p : Int) : Sz p (.sc .non, false) := ⟨⟨ZeB p _ (.inl ⟨_, rfl⟩) (ZcF _ (.inr (.inr (.inl rfl)))), rfl, .inl ⟨_, rfl⟩⟩, .none, rfl, rfl, Nat.zero_le _, rfl⟩
def Sz_l (p : Int) (i : Int) : Sz p (.node .lst false [I i], false) := ⟨⟨ZeB p _ (.inr ⟨_, _, rfl⟩) (ZcF _ (.inr (.inr (.inr (.inl ⟨_, rfl⟩))))), rfl, .inr ⟨_, _, rfl⟩⟩, .list [.int i], rfl, rfl, Nat.le_refl 1, by simp [PyData.eqv, PyData.eqvAll]⟩
def Sz_t (p : Int) (i : Int) : Sz p (.node .tup false [I i], false) := ⟨⟨ZeB p _ (.inr ⟨_, _, rfl⟩) (ZcF _ (.inr (.inr (.inr (.inr ⟨_, rfl⟩))))), rfl, .inr ⟨_, _, rfl⟩⟩, .tuple [.int i], rfl, rfl, Nat.le_refl 1, by simp [PyData.eqv, PyData.eqvAll]⟩
theorem Zg8 : ∀ qs : List D, (∀ d ∈ qs, Pd d) -> ∃ as, pyL qs = some as /\ PyData.canLayAll0 as = true /\ PyData.depthAll as <= 1 /\ PyData.eqvAll as as = true
 | [], _ => ⟨[], rfl, rfl, by decide, by simp [PyData.eqvAll]⟩
 | d :: qs, h => by
  obtain ⟨as, a1, a2, a3, a4⟩ := Zg8 qs fun x hx => h x (List.mem_cons_of_mem _ hx)
  obtain ⟨a, b1, b2, b3, b4⟩ := h d List.mem_cons_self
  refine ⟨a :: as, by rw [pyL, b1, Option.bind_some, a1]; rfl, ?_, ?_, ?_⟩
  . rw [PyData.canLayAll0, b2, a2]; rfl
  . rw [PyData.depthAll]; omega
  . rw [PyData.eqvAll, b4, a4]; rfl
def ZoJ (qs : List D) (h : ∀ d ∈ qs, Pd d) : Zat .NotEq (.nd .lst qs) (.nd .lst qs) = some false := by
 obtain ⟨as, a1, a2, a3, a4⟩ := Zg8 qs h
 show ((py (.node .lst false qs)).bind (fun a => (py (.node .lst false qs)).bind fun b => eqPy a b)).map (!·) = _
 simp only [py, a1, Option.map_some, Option.bind_some]
 unfold eqPy
 have sh : SeqAt.shaped (.list as) = true := by
  have h1 : (PyData.list as).canLay0 = true := by rw [PyData.canLay0]; exact a2
  have h2 : (PyData.list as).depth <= 64 := by rw [PyData.depth]; omega
  simp only [SeqAt.shaped, h1, h2, decide_true, Bool.and_self]
 rw [if_pos ⟨sh, sh⟩]
 simp only [PyData.eqv, a4, Option.map_some, Bool.not_true]
inductive Kw where
 | no | sg | lk (k : Nat) | sh (k : Nat)
noncomputable def kwOf (w : Str) : Kw :=
 if w.cps.toList = [45] then .no
 else if w.cps.toList.take 4 = [108, 111, 99, 107] then .lk (w.cps.toList.getD 4 0 - 48)
 else if w.cps.toList.take 5 = [115, 104, 105, 102, 116] then .sh (w.cps.toList.getD 5 0 - 48)
 else .sg
def Zd2 : ∀ c ∈ sgn, c ≠ 45 /\ decide (V.str ⟨#[c]⟩ = V.str "-") = false /\ decide (V.str (Txt.slice ⟨#[c]⟩ none (some 4)) = V.str "lock") = false /\ decide (V.str (Txt.slice ⟨#[c]⟩ none (some 5)) = V.str "shift") = false := by walk_at "d"
def Zcp (h : c ∈ sgn) : kwOf ⟨#[c]⟩ = .sg /\ ZaJ ⟨#[c]⟩ = [S' "sign", S' ⟨#[c]⟩] := by
 have h1 : ¬ [c] = [45] := fun e => (Zd2 c h).1 (List.cons.inj e).1
 have h2 : ¬ [c].take 4 = [108, 111, 99, 107] := by simp
 have h3 : ¬ [c].take 5 = [115, 104, 105, 102, 116] := by simp
 constructor
 . unfold kwOf
   rw [if_neg h1, if_neg h2, if_neg h3]
 . unfold ZaJ
   rw [if_neg h1, if_neg h2, if_neg h3]
def Zcq : kwOf ⟨#[45]⟩ = .no /\ ZaJ ⟨#[45]⟩ = [S' "nothing", .sc .non] := ⟨by kernel_rfl, by kernel_rfl⟩
theorem Zcr (k : Nat) (h : k < 4) : kwOf (lkw k) = .lk k /\ ZaJ (lkw k) = [S' "lock", I k] := by
 match k, h with
 | 0, _ => exact ⟨by kernel_rfl, by kernel_rfl⟩
 | 1, _ => exact ⟨by kernel_rfl, by kernel_rfl⟩
 | 2, _ => exact ⟨by kernel_rfl, by kernel_rfl⟩
 | 3, _ => exact ⟨by kernel_rfl, by kernel_rfl⟩
theorem Zcs (k : Nat) (h : k < 4) : kwOf (shw k) = .sh k /\ ZaJ (shw k) = [S' "shift", I k] := by
 match k, h with
 | 0, _ => exact ⟨by kernel_rfl, by kernel_rfl⟩
 | 1, _ => exact ⟨by kernel_rfl, by kernel_rfl⟩
 | 2, _ => exact ⟨by kernel_rfl, by kernel_rfl⟩
 | 3, _ => exact ⟨by kernel_rfl, by kernel_rfl⟩
def ZaW {w : Str} (h : w ∈ wds n) : w = ⟨#[45]⟩ \/ (∃ c ∈ sgn, w = ⟨#[c]⟩) \/ (∃ k, k < n /\ w = lkw k) \/ ∃ k, k < n /\ w = shw k := by
 unfold wds at h
 rcases List.mem_cons.mp h with h | h
 . exact .inl h
 (rcases List.mem_append.mp h with h | h)
 . obtain ⟨c, hc, rfl⟩ := List.mem_map.mp h
   exact .inr (.inl ⟨c, hc, rfl⟩)
 . obtain ⟨k, hk, h⟩ := List.mem_flatMap.mp h
   simp only [List.mem_cons, List.not_mem_nil, or_false] at h
   rcases h with rfl | rfl
   . exact .inr (.inr (.inl ⟨k, List.mem_range.mp hk, rfl⟩))
   . exact .inr (.inr (.inr ⟨k, List.mem_range.mp hk, rfl⟩))
noncomputable def stp (w : Str) (i : Nat) (a : Option Nat) : Option ((Nat × Option Nat) × Str) := match kwOf w, a with
 | .sg, _ => some ((i, none), w)
 | .lk j, none => some ((j, none), Str.empty)
 | .sh j, none => some ((i, some j), Str.empty)
 | _, _ => none
def ZiZ {w : Str} {i' : Nat} {a' : Option Nat} (hn : n <= 4) (hw : w ∈ wds n) (hi : i < n) (h : stp w i a = some ((i', a'), s)) : i' < n /\ (∀ j, a' = some j -> j < n) /\ s.length <= 1 := by
 unfold stp at h
 rcases ZaW hw with rfl | ⟨c, hc, rfl⟩ | ⟨k, hk, rfl⟩ | ⟨k, hk, rfl⟩
 . rw [Zcq.1] at h; cases h
 . rw [(Zcp hc).1] at h; cases h
   exact ⟨hi, nofun, Nat.le_refl 1⟩
 . rw [(Zcr k (by omega)).1] at h
   cases a <;> cases h
   exact ⟨hk, nofun, Nat.zero_le _⟩
 . rw [(Zcs k (by omega)).1] at h
   cases a <;> cases h
   exact ⟨hi, fun j e => by cases e; exact hk, Nat.zero_le _⟩
noncomputable def optD : Option Nat -> D
 | none => .sc .non
 | some j => I j
noncomputable abbrev Pl (k : Kd) (i : Nat) (a : Option Nat) : D := .node k false [I i, optD a]
noncomputable def bhD : Option ((Nat × Option Nat) × Str) -> D
 | some ((i, a), s) => .node .tup true [.node .tup true [I i, optD a], S' s]
 | none => .node .tup true [.sc .non, S' Str.empty]
noncomputable def wd (rs : List (List Str)) (i : Nat) (a : Option Nat) (x : Nat) : Str := (rs.getD (a.getD i) []).getD x Str.empty
def ss1 : decide (V.str "nothing" = V.str "sign") = false /\ decide (V.str "lock" = V.str "sign") = false /\ decide (V.str "shift" = V.str "sign") = false /\ decide (V.str "lock" = V.str "nothing") = false /\ decide (V.str "shift" = V.str "nothing") = false /\ decide (V.str "shift" = V.str "lock") = false := by walk_at "d"
def st0 : S' (Str.ofString "") = S' Str.empty := by kernel_rfl
theorem ZeC (C : Addr) (t : Str) (hn : n <= 4) (hl : rs.length = n) (hok : ZH p n rs) (kd : Kd) (hkd : kd = .ftp \/ kd = .tup) (i : Nat) (a : Option Nat) (x : Nat) (hi : i < n) (ha : ∀ j, a = some j -> j < n) (hx : x < p) : wd rs i a x ∈ wds n /\ (ZaI C).run [Tb C false p rs t, Pl kd i a, I x] = .ok (bhD (stp (wd rs i a x) i a), [Tb C false p rs t, Pl kd i a, I x]) := by
 have hx0 : ∀ u v : D, ixW2 (.nd kd [u, v]) (.sc (.int 0)) = some u := by rcases hkd with rfl | rfl <;> exact fun u v => rfl
 have hx1 : ∀ u v : D, ixW2 (.nd kd [u, v]) (.sc (.int 1)) = some v := by rcases hkd with rfl | rfl <;> exact fun u v => rfl
 have hm : a.getD i < rs.length := by
  cases a with
  | none => rw [hl]; exact hi
  | some j => rw [hl]; exact ha j rfl
 have x1 := ixR (Mrow false) rs (a.getD i) hm
 have hr := hok (rs.getD (a.getD i) []) (by rw [List.getD_eq_getElem?_getD, List.getElem?_eq_getElem hm]; exact List.getElem_mem hm)
 have x2 := ixM (rs.getD (a.getD i) []) x (by rw [hr.1]; exact hx)
 have hw : wd rs i a x ∈ wds n := hr.2 _ (gmem (by rw [hr.1]; exact hx))
 refine ⟨hw, ?_⟩
 replace x2 : _ = some (mean false (wd rs i a x)) := x2
 generalize rs.getD (a.getD i) [] = r at x1 x2
 generalize wd rs i a x = w at x2 hw
 obtain ⟨q1, q2, q3, q4, q5, q6⟩ := ss1
 have z0 := st0
 have e1 : ∀ z : Str, decide (V.str z = V.str z) = true := fun z => decide_eq_true rfl
 have bf : (true == false) = false := rfl
 obtain ⟨kk, v, hm, _⟩ := Zkp w
 simp only [mean, hm] at x2
 walk_at "r"
 unfold stp
 cases a with
 | none =>
  simp only [Option.getD_none] at x1
  simp_all [optD, hx0, hx1, ZaS, bf, ZeA, ZkT, x1, x2, ix20, ix21, Zaw, z0]
  rcases ZaW hw with rfl | ⟨c, hc, rfl⟩ | ⟨k, hk, rfl⟩ | ⟨k, hk, rfl⟩
  . rw [Zcq.2] at hm; cases hm; (simp_all [ZaS, Zb2, bf, ix20, ix21, Zaw, z0, q1, e1]) <;> (rw [Zcq.1]; rfl)
  . rw [(Zcp hc).2] at hm; cases hm; (simp_all [ZaS, Zb2, bf, ix20, ix21, Zaw, z0, e1]) <;> (rw [(Zcp hc).1]; rfl)
  . rw [(Zcr k (by omega)).2] at hm; cases hm; (simp_all [ZaS, Zb2, bf, ix20, ix21, Zaw, z0, q2, q4, e1]) <;> (rw [(Zcr k (by omega)).1]; rfl)
  . rw [(Zcs k (by omega)).2] at hm; cases hm; (simp_all [ZaS, Zb2, bf, ix20, ix21, Zaw, z0, q3, q5, q6]) <;> (rw [(Zcs k (by omega)).1]; rfl)
 | some j =>
  simp only [Option.getD_some] at x1
  simp_all [optD, hx0, hx1, Zb2, ZeA, ZkT, x1, x2, ix20, ix21, Zaw, z0]
  rcases ZaW hw with rfl | ⟨c, hc, rfl⟩ | ⟨k, hk, rfl⟩ | ⟨k, hk, rfl⟩
  . rw [Zcq.2] at hm; cases hm; (simp_all [ZaS, Zb2, bf, ix20, ix21, Zaw, z0, q1, e1]) <;> (rw [Zcq.1]; rfl)
  . rw [(Zcp hc).2] at hm; cases hm; (simp_all [ZaS, Zb2, bf, ix20, ix21, Zaw, z0, e1]) <;> (rw [(Zcp hc).1]; rfl)
  . rw [(Zcr k (by omega)).2] at hm; cases hm; (simp_all [ZaS, Zb2, bf, ix20, ix21, Zaw, z0, q2, q4]) <;> (rw [(Zcr k (by omega)).1]; rfl)
  . rw [(Zcs k (by omega)).2] at hm; cases hm; (simp_all [ZaS, Zb2, bf, ix20, ix21, Zaw, z0, q3, q5]) <;> (rw [(Zcs k (by omega)).1]; rfl)
noncomputable abbrev nI (xs : List Nat) : List Int := xs.map fun (x : Nat) => (x : Int)
def Zh6 (x : Nat) (xs : List Nat) : dI (nI (x :: xs)) = .sc (.int (x : Int)) :: dI (nI xs) := rfl
noncomputable def wl (rs : List (List Str)) : List Nat -> Nat -> Option Nat -> Nat -> List Str -> Sum Nat ((Nat × Option Nat) × List Str)
 | [], i, a, _, ss => .inr ((i, a), ss)
 | x :: xs, i, a, k, ss => match stp (wd rs i a x) i a with
  | none => .inl k
  | some ((i', a'), s) => wl rs xs i' a' (k + 1) (ss ++ [s])
noncomputable def cat (ss : List Str) : Str := ss.foldl (· ++ ·) Str.empty
noncomputable def rd (rs : List (List Str)) (xs : List Nat) : Sum Nat Str := match wl rs xs 0 none 0 [] with
 | .inl k => .inl k
 | .inr ((_, some _), _) => .inl xs.length
 | .inr ((_, none), ss) => .inr (cat ss)
def Zh7 (ss : List Str) (s : Str) : cat (ss ++ [s]) = cat ss ++ s := by unfold cat; rw [List.foldl_append]; rfl
def Zja (z : Str) : z ++ Str.empty = z := ZdI (by rw [Zag]; exact List.append_nil _)
def ZgT (a b : Str) : (a ++ b).length = a.length + b.length := by
 show (a ++ b).cps.toList.length = a.cps.toList.length + b.cps.toList.length
 rw [Zag, List.length_append]
theorem Zd3 : ∀ (ss : List Str) (z : Str), (ss.foldl (· ++ ·) z).cps.toList = z.cps.toList ++ (ss.map fun s => s.cps.toList).flatten
 | [], z => by simp
 | s :: ss, z => by rw [List.foldl_cons, Zd3 ss (z ++ s), Zag, List.map_cons, List.flatten_cons, List.append_assoc]
theorem Zjb : ∀ ss : List Str, (Str.join ⟨#[]⟩ ss).cps.toList = (ss.map fun s => s.cps.toList).flatten
 | [] => rfl
 | [p] => by simp [Str.join]
 | p :: q :: r => by
  have ih := Zjb (q :: r)
  show (p ++ ⟨#[]⟩ ++ Str.join ⟨#[]⟩ (q :: r)).cps.toList = _
  rw [Zag, Zag, ih, List.map_cons, List.flatten_cons]
  exact congrArg (· ++ _) (List.append_nil _)
def Zkq (ss : List Str) (h : ∀ s ∈ ss, s.length <= 1) (hl : ss.length <= 60) : bmW .join (Str.ofString "") [.nd .lst (dT ss)] = some (S' (cat ss)) := by
 rw [show Str.ofString "" = ⟨#[]⟩ by kernel_rfl, Zg6 _ ss (by
  unfold JoinOk
  rw [StrLaws.joinFits h (by
   have h2 : (⟨#[]⟩ : Str).length = 0 := rfl
   rw [h2]; omega)]
  rfl)]
 refine congrArg (fun z => some (S' z)) (ZdI ?_)
 show (Builtin.Str.glued ⟨#[]⟩ ss).cps.toList = _
 rw [StrLaws.glued_eq_join, Zjb]
 unfold cat
 rw [Zd3]
 rfl
noncomputable abbrev rLp (C : Addr) : List D -> M Fl := forL (asgT lk (.tup [4, 5])) (exs ⟨lk, fok, fuel⟩ (bdy ((Zal C).getD 3 .pass)))
theorem Zjc (h2 : lk 2 = false) (h3 : lk 3 = false) (h4 : lk 4 = false) (h5 : lk 5 = false) (h6 : lk 6 = false) (C : Addr) (t : Str) (hn : n <= 4) (hl : rs.length = n) (hok : ZH p n rs) (X : D) : ∀ (xs : List Nat) (k i : Nat) (a : Option Nat) (ss : List Str) (kd : Kd) (a4 a5 a6 : D), (kd = .ftp \/ kd = .tup) -> i < n -> (∀ j, a = some j -> j < n) -> (∀ x ∈ xs, x < p) -> k + xs.length <= 60 -> ss.length = k -> (∀ s ∈ ss, s.length <= 1) ->
 match wl rs xs i a k ss with
 | .inl m => ∃ d2 d3 d4 d5 d6, rLp lk fok fuel C (Zad k (dI (nI xs))) [Tb C false p rs t, X, TL true ss, Pl kd i a, a4, a5, a6] = .exc (Xc "NoReading" true m) [Tb C false p rs t, X, d2, d3, d4, d5, d6]
 | .inr ((i', a'), ss') => ss'.length <= 60 /\ (∀ s ∈ ss', s.length <= 1) /\ ∃ kd' d4 d5 d6, (kd' = .ftp \/ kd' = .tup) /\ rLp lk fok fuel C (Zad k (dI (nI xs))) [Tb C false p rs t, X, TL true ss, Pl kd i a, a4, a5, a6] = .ok (.nx, [Tb C false p rs t, X, TL true ss', Pl kd' i' a', d4, d5, d6]) := by
 intro xs
 induction xs with
 | nil =>
  intro k i a ss kd a4 a5 a6 hkd _ _ _ hk hs h1
  rw [List.length_nil] at hk
  exact ⟨by omega, h1, kd, a4, a5, a6, hkd, rfl⟩
 | cons x xs ih =>
  intro k i a ss kd a4 a5 a6 hkd hi ha hx hk hs h1
  rw [List.length_cons] at hk
  obtain ⟨hw, hb⟩ := ZeC C t hn hl hok kd hkd i a x hi ha (hx x List.mem_cons_self)
  have l1 : (ZaI C).lend = true := rfl
  have l2 : Z2.lend = true := rfl
  have nr := Zh4 k (by omega)
  have nx : ¬ 1000 < 1 := by decide
  have hck : ∀ x1 x2 x3 x4 x5 x6 : D, chkI C "behind" (.late 0) [Tb C false p rs t, x1, x2, x3, x4, x5, x6] = .ok ((), [Tb C false p rs t, x1, x2, x3, x4, x5, x6]) := fun x1 x2 x3 x4 x5 x6 => Zik C _ 0 _ fs3 true _ rfl (by decide)
  have e1 : (true == true) = true := rfl
  unfold wl
  cases hst : stp (wd rs i a x) i a with
  | none =>
   rw [hst] at hb
   simp only [bhD] at hb
   refine ⟨TL true ss, Pl kd i a, I k, I x, .node .tup true [.sc .non, S' Str.empty], ?_⟩
   rw [Zh6, Zad, rLp, Zbd]
   simp only [Zal, bdy, gd1, gd0]
   (simp_all [h2, h3, h4, h5, h6, ZcA, hck, l1, l2, hb, ix20, ZaS, e1, nr, Zf4 (ns := ["NoReading", "LabelError"]) (fi := Z2) (ps := [Op.late 4]) nx]) <;> rfl
  | some q =>
   obtain ⟨⟨i', a'⟩, s⟩ := q
   obtain ⟨g1, g2, g3⟩ := ZiZ hn hw hi hst
   have ih := ih (k + 1) i' a' (ss ++ [s]) .tup (I k) (I x) (.node .tup true [.node .tup false [I i', optD a'], S' s]) (.inr rfl) g1 g2 (fun y hy => hx y (List.mem_cons_of_mem _ hy)) (by omega) (by rw [List.length_append, hs]; rfl) (fun y hy => by
    rcases List.mem_append.mp hy with q | q
    . exact h1 y q
    . rw [List.mem_singleton.mp q]; exact g3)
   rw [hst] at hb
   simp only [bhD] at hb
   have hz : (dT ss).length < sizeLine := by rw [ZaO, szl]; omega
   have hap := fun (δ : List D) (d : D) => Zer 2 δ d (dT ss) hz
   have e2 : dT ss ++ [S' s] = dT (ss ++ [s]) := (show dT (ss ++ [s]) = dT ss ++ [S' s] from List.map_append).symm
   have ek : ((k + 1 : Nat) : Int) = (k : Int) + 1 := by omega
   have so : shr (optD a') = optD a' := by cases a' <;> rfl
   have step : rLp lk fok fuel C (Zad k (dI (nI (x :: xs)))) [Tb C false p rs t, X, TL true ss, Pl kd i a, a4, a5, a6] = rLp lk fok fuel C (Zad (k + 1 : Nat) (dI (nI xs))) [Tb C false p rs t, X, TL true (ss ++ [s]), Pl .tup i' a', I k, I x, .node .tup true [.node .tup false [I i', optD a'], S' s]] := by
    rw [Zh6, Zad, rLp, Zbd, ek]
    simp only [Zal, bdy, gd1, gd0]
    simp_all [h2, h3, h4, h5, h6, ZcA, hck, l1, hb, so, ix20, ix21, Zr9, hap, e2]
   rw [step]
   exact ih
noncomputable abbrev qI (xs : List Nat) : List (D × Bool) := xs.map fun (x : Nat) => (I (x : Int), true)
theorem Zg9 : ∀ (xs : List Nat) (c : Nat), ffx c (qI xs) = none
 | [], _ => rfl
 | _ :: xs, c => Zg9 xs (c + 1)
def Zjd (xs : List Nat) : (qI xs).map Prod.fst = dI (nI xs) := by rw [List.map_map]; show _ = List.map _ (List.map _ _); rw [List.map_map]; rfl
def ZrB {x : Nat} (h : x < p) : Sz p (I x, true) := by
 have := Sz_i (p : Int) (x : Int)
 rwa [decide_eq_true (show (0 : Int) <= x by omega), decide_eq_true (show (x : Int) < p by omega)] at this
def ZgA {xs : List Nat} (hx : ∀ x ∈ xs, x < p) : ∀ q ∈ qI xs, Sz p q := fun q hq => by
 obtain ⟨x, h, rfl⟩ := List.mem_map.mp hq
 exact ZrB (hx x h)
def Zm7 (C : Addr) (o : Bool) (p : Nat) (rs : List (List Str)) (t : Str) (qs : List (D × Bool)) (m : Nat) (hq : ∀ q ∈ qs, Sz p q) (hl : qs.length <= 60) (hm : ffx 0 qs = some m) : (ZA C).run [Tb C o p rs t, .node .lst true (qs.map Prod.fst)] = .exc (Xc "NoSymbol" true m) [Tb C false p rs t, .node .lst true (qs.map Prod.fst)] := by
 walk_at "r"
 have l1 : Zao.lend = true := rfl
 have r1 := Zfs p qs (fun q h => (hq q h).1) hl
 rw [hm] at r1
 (simp_all [l1, ZeA, ZkS, r1, ZkU, Zh3]) <;> rfl
theorem Zkr (C : Addr) (o : Bool) (t : Str) (n1 : 1 <= n) (hn : n <= 4) (hl : rs.length = n) (hok : ZH p n rs) (xs : List Nat) (hx : ∀ x ∈ xs, x < p) (hxl : xs.length <= 60) : (ZA C).run [Tb C o p rs t, Ls true (nI xs)] = (match rd rs xs with | .inl k => .exc (Xc "NoReading" true k) [Tb C false p rs t, Ls true (nI xs)] | .inr z => .ok (S' z, [Tb C false p rs t, Ls true (nI xs)])) := by
 walk_at "r"
 have l1 : Zao.lend = true := rfl
 have l2 : Z2.lend = true := rfl
 have r1 := Zfs p (qI xs) (fun q h => (ZgA hx q h).1) (by rw [List.length_map]; exact hxl)
 rw [Zg9, Zjd] at r1
 have hlp := Zjc (fun j => decide (j < 2) || walked [.v 1, .k (.int 0)] j) (CK C).fok (CK C).fuel rfl rfl rfl rfl rfl C t hn hl hok .hole xs 0 0 none [] .ftp .hole .hole .hole (.inl rfl) n1 nofun hx (by omega) rfl (by simp)
 simp only [walked, Bool.or_false, rLp, Zal, bdy, gd1, gd0, Pl, optD, TL, dT, show ((0 : Nat) : Int) = 0 from rfl, List.map_nil] at hlp
 have nr := Zh4 xs.length (by omega)
 have nx : ¬ 1000 < 1 := by decide
 have hlen : ((dI (nI xs)).length : Int) = (xs.length : Int) := by rw [Za0, List.length_map]
 have e1 : (true == false) = false := rfl
 simp_all [l1, ZeA, ZC, ZkS, r1, Zf6, it_e _ 0 (by decide)]
 unfold rd
 cases hw : wl rs xs 0 none 0 [] with
 | inl m =>
  rw [hw] at hlp
  obtain ⟨d2, d3, d4, d5, d6, hlp⟩ := hlp
  (simp_all [hlp]) <;> rfl
 | inr q =>
  obtain ⟨⟨i', a'⟩, ss⟩ := q
  rw [hw] at hlp
  obtain ⟨hs1, hs2, kd, d4, d5, d6, hkd, hlp⟩ := hlp
  have hx1 : ∀ u v : D, ixW2 (.nd kd [u, v]) (.sc (.int 1)) = some v := by rcases hkd with rfl | rfl <;> exact fun u v => rfl
  simp_all [hlp, hx1]
  cases a' with
  | none =>
   have hj := Zkq ss hs2 hs1
   (simp_all [optD, Zbm, ZaS, e1, Zdy, hj]) <;> rfl
  | some j =>
   (simp_all [optD, l2, ZC, Zb2, hlen, nr, Zf4 (ns := ["NoReading", "LabelError"]) (fi := Z2) (ps := [Op.tmp (I xs.length)]) nx]) <;> rfl
noncomputable def ahd : Option Nat -> Int
 | none => -1
 | some j => j
noncomputable abbrev lBd : List T.S := bdy (Za9.getD 3 .pass)
noncomputable abbrev lLp : List D -> M Fl := forL (asgT lk (.name 5)) (exs ⟨lk, fok, fuel⟩ lBd)
theorem Zks (k : Nat) (h : k < 4) : decide (V.str (lkw k) = V.str "-") = false /\ decide (V.str (Txt.slice (lkw k) none (some 4)) = V.str "lock") = true /\ ixW2 (.sc (.str (lkw k))) (.sc (.int (-1))) = some (S' ⟨#[48 + k]⟩) /\ bfW .int [.sc (.str ⟨#[48 + k]⟩)] = some (I k) := by
 match k, h with
 | 0, _ => exact ⟨by kernel_rfl, by kernel_rfl, by kernel_rfl, by kernel_rfl⟩
 | 1, _ => exact ⟨by kernel_rfl, by kernel_rfl, by kernel_rfl, by kernel_rfl⟩
 | 2, _ => exact ⟨by kernel_rfl, by kernel_rfl, by kernel_rfl, by kernel_rfl⟩
 | 3, _ => exact ⟨by kernel_rfl, by kernel_rfl, by kernel_rfl, by kernel_rfl⟩
theorem Zkt (k : Nat) (h : k < 4) : decide (V.str (shw k) = V.str "-") = false /\ decide (V.str (Txt.slice (shw k) none (some 4)) = V.str "lock") = false /\ decide (V.str (Txt.slice (shw k) none (some 5)) = V.str "shift") = true /\ ixW2 (.sc (.str (shw k))) (.sc (.int (-1))) = some (S' ⟨#[48 + k]⟩) /\ bfW .int [.sc (.str ⟨#[48 + k]⟩)] = some (I k) := by
 match k, h with
 | 0, _ => exact ⟨by kernel_rfl, by kernel_rfl, by kernel_rfl, by kernel_rfl, by kernel_rfl⟩
 | 1, _ => exact ⟨by kernel_rfl, by kernel_rfl, by kernel_rfl, by kernel_rfl, by kernel_rfl⟩
 | 2, _ => exact ⟨by kernel_rfl, by kernel_rfl, by kernel_rfl, by kernel_rfl, by kernel_rfl⟩
 | 3, _ => exact ⟨by kernel_rfl, by kernel_rfl, by kernel_rfl, by kernel_rfl, by kernel_rfl⟩
def Zm8 (ss : List Str) (h : ∀ s ∈ ss, s.length <= 1) : (cat ss).length <= ss.length := by
 have go : ∀ (ss : List Str) (z : Str), (∀ s ∈ ss, s.length <= 1) -> (ss.foldl (· ++ ·) z).length <= z.length + ss.length := by
  intro ss
  induction ss with
  | nil => exact fun z _ => Nat.le_refl _
  | cons s ss ih =>
   intro z h
   have h1 := h s List.mem_cons_self
   have h2 := ih (z ++ s) fun y hy => h y (List.mem_cons_of_mem _ hy)
   rw [ZgT] at h2
   (rw [List.foldl_cons, List.length_cons])
   omega
 have := go ss Str.empty h
 rwa [show Str.empty.length = 0 from rfl, Nat.zero_add] at this
def ZrC (w : Str) (h : w.length <= 60) : bfW .len [.sc (.str w)] = some (I w.length) := if_pos (by rw [szl]; omega)
def Lr (rs : List (List Str)) (o : Bool) (row : List Nat) (R : Rs (Fl × List D)) : Sum Nat ((Nat × Option Nat) × List Str) -> Prop
 | .inl m => ∃ d2 d3 d4 d5 d6, R = .ok (.rt (.node .tup true [I 1, I m]), [RL false rs, Ls o (nI row), d2, d3, d4, d5, d6])
 | .inr ((i', a'), ss') => ∃ d5 d6, R = .ok (.nx, [RL false rs, Ls o (nI row), S' (cat ss'), I i', I (ahd a'), d5, d6])
def Lr.l {row : List Nat} {R : Rs (Fl × List D)} {m : Nat} (d2 d3 d4 d5 d6 : D) (h : R = .ok (.rt (.node .tup true [I 1, I m]), [RL false rs, Ls o (nI row), d2, d3, d4, d5, d6])) : Lr rs o row R (.inl m) := ⟨d2, d3, d4, d5, d6, h⟩
theorem Zil (h2 : lk 2 = false) (h3 : lk 3 = false) (h4 : lk 4 = false) (h5 : lk 5 = false) (h6 : lk 6 = false) (hn : n <= 4) (hl : rs.length = n) (hok : ZH p n rs) (o : Bool) (row : List Nat) (hx : ∀ x ∈ row, x < p) (hrl : row.length <= 60) : ∀ (xs pre : List Nat) (i : Nat) (a : Option Nat) (ss : List Str) (a5 a6 : D), row = pre ++ xs -> i < n -> (∀ j, a = some j -> j < n) -> ss.length = pre.length -> (∀ s ∈ ss, s.length <= 1) ->
 Lr rs o row (lLp lk fok fuel (dI (rngI pre.length xs.length)) [RL false rs, Ls o (nI row), S' (cat ss), I i, I (ahd a), a5, a6]) (wl rs xs i a pre.length ss) := by
 intro xs
 induction xs with
 | nil => exact fun pre i a ss a5 a6 _ _ _ _ _ => ⟨a5, a6, rfl⟩
 | cons x xs ih =>
  intro pre i a ss a5 a6 hrow hi ha hs h1
  have hlen : pre.length + (xs.length + 1) = row.length := by rw [hrow, List.length_append, List.length_cons]
  have hxp : x < p := hx x (by rw [hrow]; simp)
  have x0 := ixI (nI row) (pre.length : Int) (by omega) (by rw [List.length_map]; omega)
  rw [show (nI row).getD (pre.length : Int).toNat 0 = (x : Int) by
   rw [Int.toNat_natCast, hrow, List.getD_eq_getElem?_getD, List.getElem?_map, List.getElem?_append_right (Nat.le_refl _), Nat.sub_self]
   rfl] at x0
  have mem : ∀ i, i < n -> (rs.getD i []).length = p /\ ∀ w ∈ rs.getD i [], w ∈ wds n := fun i hi => hok _ (by rw [List.getD_eq_getElem?_getD, List.getElem?_eq_getElem (by omega)]; exact List.getElem_mem _)
  have x1 := fun i hi => ixR (TL false) rs i (show i < rs.length by rw [hl]; exact hi)
  have x2 := fun i hi => ixT (rs.getD i []) x (by rw [(mem i hi).1]; exact hxp)
  have hw : ∀ i, i < n -> (rs.getD i []).getD x Str.empty ∈ wds n := fun i hi => (mem i hi).2 _ (gmem (by rw [(mem i hi).1]; exact hxp))
  have hcl := Zm8 ss h1
  have ca : ∀ w : Str, w.length <= 1 -> binW .Add (.sc (.str (cat ss))) (.sc (.str w)) = some (S' (cat (ss ++ [w]))) := fun w h => by
   rw [Zh7]
   exact Zog _ _ (by rw [szl]; omega)
  have ce : cat (ss ++ [Str.empty]) = cat ss := by rw [Zh7, Zja]
  have ih := fun i a s a5 a6 hi ha hs1 => ih (pre ++ [x]) i a (ss ++ [s]) a5 a6 (by rw [hrow, List.append_assoc]; rfl) hi ha (by rw [List.length_append, List.length_append, hs]; rfl) (fun y hy => by
   rcases List.mem_append.mp hy with q | q
   . exact h1 y q
   . rw [List.mem_singleton.mp q]; exact hs1)
  simp only [List.length_append, List.length_singleton] at ih
  have ek : ((pre.length + 1 : Nat) : Int) = (pre.length : Int) + 1 := by omega
  simp only [lLp, lBd, Za9, bdy, gd1, gd0, ek] at ih ⊢
  have hv : ∀ x0 x2 x3 x4 x5 x6 : D, vwR 1 [x0, .node .lst o (dI (nI row)), x2, x3, x4, x5, x6] (some (.node .lst o (dI (nI row)))) = .ok (.nd .lst (dI (nI row)), [x0, .node .lst o (dI (nI row)), x2, x3, x4, x5, x6]) := fun x0 x2 x3 x4 x5 x6 => by
   cases o
   . rfl
   . rw [ZdE, ZC]; rfl
  have hn1 : ¬ (0 : Int) <= -1 := by decide
  have hng : negW (.sc (.int 1)) = some (I (-1)) := rfl
  rw [List.length_cons, rngI, Zbu, Zbd]
  generalize pre.length = k at x0 ih
  simp only [wl, stp]
  cases a with
  | none =>
   have y1 := x1 i hi
   have y2 := x2 i hi
   have hw := hw i hi
   simp only [wd, Option.getD_none]
   generalize rs.getD i [] = r at y1 y2 hw
   generalize r.getD x Str.empty = w at y2 hw
   simp only [ahd]
   have s4 := fun m => sl_s w none (some m) (by have := (Zce n (n14 (by omega) hn) w hw).2.2; rw [szl]; omega)
   simp_all [h2, h3, h4, h5, h6, Zdx, Zbm, hv, x0, y1, y2, hn1, Zaw]
   rcases ZaW hw with rfl | ⟨c, hc, rfl⟩ | ⟨j, hj, rfl⟩ | ⟨j, hj, rfl⟩
   . rw [Zcq.1]
     refine Lr.l (S' (cat ss)) (I i) (I (-1)) (I k) (S' ⟨#[45]⟩) ?_
     have f1 : decide (V.str ⟨#[45]⟩ = V.str "-") = true := by kernel_rfl
     (simp_all [f1]) <;> rfl
   . rw [(Zcp hc).1]
     obtain ⟨_, f1, f2, f3⟩ := Zd2 c hc
     have ih := ih i none ⟨#[c]⟩ (I k) (S' ⟨#[c]⟩) hi nofun (Nat.le_refl 1)
     have c1 := ca ⟨#[c]⟩ (Nat.le_refl 1)
     (simp_all [h2, f1, s4, f2, f3, c1]) <;> exact ih
   . rw [(Zcr j (by omega)).1]
     obtain ⟨f1, f2, f3, f4⟩ := Zks j (by omega)
     have ih := ih j none Str.empty (I k) (S' (lkw j)) hj nofun (Nat.zero_le _)
     rw [ce] at ih
     (simp_all [h3, f1, s4, f2, f3, f4, hng]) <;> exact ih
   . rw [(Zcs j (by omega)).1]
     obtain ⟨f1, f2, f3, f4, f5⟩ := Zkt j (by omega)
     have ih := ih i (some j) Str.empty (I k) (S' (shw j)) hi (fun j' e => by cases e; exact hj) (Nat.zero_le _)
     rw [ce] at ih
     (simp_all [h4, f1, s4, f2, f3, f4, f5, hng]) <;> exact ih
  | some j =>
   have hj := ha j rfl
   have y1 := x1 i hi
   have y2 := x2 i hi
   have z1 := x1 j hj
   have z2 := x2 j hj
   have hw := hw j hj
   simp only [wd, Option.getD_some]
   generalize rs.getD i [] = r0 at y1 y2
   generalize r0.getD x Str.empty = w0 at y2
   generalize rs.getD j [] = r at z1 z2 hw
   generalize r.getD x Str.empty = w at z2 hw
   simp only [ahd]
   have hj0 : (0 : Int) <= (j : Int) := by omega
   have f2 := ZrC w (by have := (Zce n (n14 (by omega) hn) w hw).2.2; omega)
   simp_all [h2, h4, h5, h6, Zdx, Zbm, hv, x0, y1, y2, z1, z2, hj0, f2, hng, Zaw]
   rcases ZaW hw with rfl | ⟨c, hc, rfl⟩ | ⟨m, hm, rfl⟩ | ⟨m, hm, rfl⟩
   . rw [Zcq.1]
     refine Lr.l (S' (cat ss)) (I i) (I (-1)) (I k) (S' ⟨#[45]⟩) ?_
     have f1 : decide (V.str ⟨#[45]⟩ = V.str "-") = true := by kernel_rfl
     have f3 : ¬ (1 : Int) < ((⟨#[45]⟩ : Str).length : Int) := by walk_at "d"
     (simp_all [f1, f3]) <;> rfl
   . rw [(Zcp hc).1]
     obtain ⟨_, f1, _, _⟩ := Zd2 c hc
     have ih := ih i none ⟨#[c]⟩ (I k) (S' ⟨#[c]⟩) hi nofun (Nat.le_refl 1)
     have c1 := ca ⟨#[c]⟩ (Nat.le_refl 1)
     have f3 : ¬ (1 : Int) < ((⟨#[c]⟩ : Str).length : Int) := show ¬ (1 : Int) < 1 by decide
     (simp_all [h2, f1, f3, c1]) <;> exact ih
   . rw [(Zcr m (by omega)).1]
     refine Lr.l (S' (cat ss)) (I i) (I (-1)) (I k) (S' (lkw m)) ?_
     have f3 : (1 : Int) < ((lkw m).length : Int) := show (1 : Int) < 5 by decide
     (simp_all [f3]) <;> rfl
   . rw [(Zcs m (by omega)).1]
     refine Lr.l (S' (cat ss)) (I i) (I (-1)) (I k) (S' (shw m)) ?_
     have f3 : (1 : Int) < ((shw m).length : Int) := show (1 : Int) < 6 by decide
     (simp_all [f3]) <;> rfl
noncomputable def rdD : Sum Nat Str -> D
 | .inl k => .node .tup true [I 1, I k]
 | .inr z => .node .tup true [I 0, S' z]
theorem Zft (n1 : 1 <= n) (hn : n <= 4) (hl : rs.length = n) (hok : ZH p n rs) (o : Bool) (row : List Nat) (hx : ∀ x ∈ row, x < p) (hrl : row.length <= 60) : Zar.run [RL false rs, Ls o (nI row)] = .ok (rdD (rd rs row), [RL false rs, Ls o (nI row)]) := by
 walk_at "r"
 have hlp := Zil (fun j => decide (j < 2)) (fun _ _ => false) 0 rfl rfl rfl rfl rfl hn hl hok o row hx hrl row [] 0 none [] .hole .hole rfl n1 nofun rfl (by simp)
 simp only [lLp, lBd, Za9, bdy, gd1, gd0, ahd, List.length_nil, show ((0 : Nat) : Int) = 0 from rfl, show cat [] = Str.ofString "" by kernel_rfl] at hlp
 have hlen : ((dI (nI row)).length : Int) = (row.length : Int) := by rw [Za0, List.length_map]
 have hv : ∀ x0 x2 x3 x4 x5 x6 : D, vwR 1 [x0, .node .lst o (dI (nI row)), x2, x3, x4, x5, x6] (some (.node .lst o (dI (nI row)))) = .ok (.nd .lst (dI (nI row)), [x0, .node .lst o (dI (nI row)), x2, x3, x4, x5, x6]) := fun x0 x2 x3 x4 x5 x6 => by
  cases o
  . rfl
  . rw [ZdE, ZC]; rfl
 have hit : itW .rng1 [.sc (.int (row.length : Int))] = some (dI (rngI 0 row.length)) := by
  have := Zf3 (row.length : Int) (by omega)
  rwa [Int.toNat_natCast] at this
 have hng : negW (.sc (.int 1)) = some (I (-1)) := rfl
 have hn1 : ¬ (0 : Int) <= -1 := by decide
 have wk : ∀ (f : BF) (es : List E) (j : Nat), walked [.bf f es] j = false := fun _ _ _ => rfl
 unfold rd
 cases hw : wl rs row 0 none 0 [] with
 | inl m =>
  rw [hw] at hlp
  obtain ⟨d2, d3, d4, d5, d6, hlp⟩ := hlp
  (simp_all [hng, hv, hlen, hit, wk, hlp]) <;> rfl
 | inr q =>
  obtain ⟨⟨i', a'⟩, ss⟩ := q
  rw [hw] at hlp
  obtain ⟨d5, d6, hlp⟩ := hlp
  cases a' with
  | none =>
   simp only [ahd] at hlp
   (simp_all [hng, hv, hlen, hit, wk, hlp, hn1, Zaw]) <;> rfl
  | some j =>
   have hj0 : (0 : Int) <= (j : Int) := by omega
   simp only [ahd] at hlp
   (simp_all [hng, hv, hlen, hit, wk, hlp, hj0, Zaw]) <;> rfl
def hv2 (xs : List Nat) (x0 x1 x3 x4 x5 x6 : D) : vwR 2 [x0, x1, .node .lst o (dI (nI xs)), x3, x4, x5, x6] (some (.node .lst o (dI (nI xs)))) = .ok (.nd .lst (dI (nI xs)), [x0, x1, .node .lst o (dI (nI xs)), x3, x4, x5, x6]) := by
 cases o
 . rfl
 . rw [ZdE, ZC]; rfl
theorem Zku (h2 : lk 2 = false) (h3 : lk 3 = false) (h4 : lk 4 = false) (h5 : lk 5 = false) (h6 : lk 6 = false) (hp : 0 < p) (n1 : 1 <= n) (hn : n <= 4) (hl : rs.length = n) (hok : ZH p n rs) (c : Int) : ∀ (m k : Nat) (o : Bool) (row : List Nat) (a3 a4 a5 a6 : D), (∀ x ∈ row, x < p) -> row.length <= k -> k + m <= 41 -> ∃ (o' : Bool) (row' : List Nat) (a3' a4' a5' a6' : D), (∀ x ∈ row', x < p) /\ row'.length <= 41 /\
 forL (asgT lk (.name 3)) (exs ⟨lk, fok, fuel⟩ (bdy (ZaN.getD 1 .pass))) (dI (rngI k m)) [RL false rs, I c, Ls o (nI row), a3, a4, a5, a6] = .ok (.nx, [RL false rs, I c, Ls o' (nI row'), a3', a4', a5', a6']) := by
 intro m
 induction m with
 | zero => exact fun k o row a3 a4 a5 a6 h1 h2 h3 => ⟨o, row, a3, a4, a5, a6, h1, by omega, rfl⟩
 | succ m ih =>
  intro k o row a3 a4 a5 a6 hx hk hm
  obtain ⟨r, r0, r1, hr⟩ := ZP c (20 + (k : Int)) p (by omega) (by omega)
  obtain ⟨x, rfl⟩ : ∃ x : Nat, r = x := ⟨r.toNat, by omega⟩
  obtain ⟨s, _, _, hs⟩ := ZP c 2 2 (by decide) (by decide)
  have hx' : ∀ y ∈ row ++ [x], y < p := fun y hy => by
   rcases List.mem_append.mp hy with q | q
   . exact hx y q
   . rw [List.mem_singleton.mp q]; omega
  have hlen : (row ++ [x]).length = row.length + 1 := by rw [List.length_append]; rfl
  have lr := Zft n1 hn hl hok true (row ++ [x]) hx' (by omega)
  have x0 := ixR (TL false) rs 0 (by omega)
  have hr0 : (rs.getD 0 []).length = p := by
   rw [List.getD_eq_getElem?_getD, List.getElem?_eq_getElem (by omega)]
   exact (hok _ (List.getElem_mem _)).1
  generalize rs.getD 0 [] = r0' at x0 hr0
  rw [show ((0 : Nat) : Int) = 0 from rfl] at x0
  have hl0 : ((dT r0').length : Int) = (p : Int) := by rw [ZaO, hr0]
  have hcat : binW .Add (.nd .lst (dI (nI row))) (.nd .lst [.sc (.int x)]) = some (Ls true (nI (row ++ [x]))) := by
   rw [ZkI _ _ (by rw [List.length_append, Za0, List.length_map, szl]; show row.length + 1 <= _; omega), Ls, show nI (row ++ [x]) = nI row ++ nI [x] from List.map_append, ZiO]
   rfl
  have hll : ((dI (nI (row ++ [x]))).length : Int) = ((row.length + 1 : Nat) : Int) := by rw [Za0, List.length_map, hlen]
  have hv := fun x0 x1 x3 x4 x5 x6 => hv2 (o := o) row x0 x1 x3 x4 x5 x6
  have l1 : Zo.lend = true := rfl
  have l2 : Zar.lend = true := rfl
  obtain ⟨o', row', a3', a4', a5', a6', g1, g2, ihT⟩ := ih (k + 1) false (row ++ [x]) (I k) (I x) (Ls false (nI (row ++ [x]))) (rdD (rd rs (row ++ [x]))) hx' (by omega) (by omega)
  obtain ⟨p', sow', b3', b4', b5', b6', q1, q2, ihF⟩ := ih (k + 1) o row (I k) (I x) (Ls true (nI (row ++ [x]))) (rdD (rd rs (row ++ [x]))) hx (by omega) (by omega)
  rw [show ((k + 1 : Nat) : Int) = (k : Int) + 1 by omega] at ihT ihF
  have hw1 : ∀ u : D, newL [u] = some (.node .lst true [u]) := fun u => ZaG _ (by rw [szl]; simp)
  rw [rngI, Zbu, Zbd]
  simp only [ZaN, bdy, gd1, gd0] at ihT ihF ⊢
  generalize row ++ [x] = lg at lr hcat hll ihT ihF
  simp_all [h3, h4, h5, h6, l1, l2, Zdx, ZC, x0, hl0, hr, hw1, hv, hcat, lr]
  have n10 : ¬ (1 : Int) = 0 := by decide
  cases hq : rd rs lg with
  | inr z =>
   rw [hq] at ihT
   simp only [rdD] at ihT ⊢
   refine ⟨o', row', a3', a4', a5', a6', g1, g2, ?_⟩
   (simp_all [h2, ZC, ix20, V.int.injEq]) <;> exact ihT
  | inl j =>
   rw [hq] at ihT ihF
   simp only [rdD] at ihT ihF ⊢
   by_cases hj : (j : Int) = ((row.length + 1 : Nat) : Int)
   . have hj := decide_eq_true hj
     refine ⟨o', row', a3', a4', a5', a6', g1, g2, ?_⟩
     (simp_all [h2, ZC, ix20, ix21, hll, hj, V.int.injEq, n10]) <;> exact ihT
   . have hj := decide_eq_false hj
     by_cases hs0 : s = 0
     . refine ⟨o', row', a3', a4', a5', a6', g1, g2, ?_⟩
       (simp_all [h2, l1, ZC, ix20, ix21, hll, hj, hs, hs0, V.int.injEq, n10]) <;> exact ihT
     . refine ⟨p', sow', b3', b4', b5', b6', q1, q2, ?_⟩
       (simp_all [l1, ZC, ix20, ix21, hll, hj, hs, hs0, V.int.injEq, n10]) <;> exact ihF
def Zm9 (hp : 0 < p) (n1 : 1 <= n) (hn : n <= 4) (hl : rs.length = n) (hok : ZH p n rs) (c : Int) : ∃ (o : Bool) (row : List Nat), (∀ x ∈ row, x < p) /\ row.length <= 41 /\ Zbk.run [RL false rs, I c] = .ok (Ls o (nI row), [RL false rs, I c]) := by
 obtain ⟨m, m0, m1, hm⟩ := ZP c 1 41 (by decide) (by decide)
 obtain ⟨o, row, a3, a4, a5, a6, h1, h2, hlp⟩ := Zku (fun j => decide (j < 2) || walked [.call Zo [.v 1, .k (.int 1), .k (.int 41)]] j) (fun _ _ => false) 0 rfl rfl rfl rfl rfl hp n1 hn hl hok c m.toNat 0 true [] .hole .hole .hole .hole (by simp) (Nat.le_refl _) (by omega)
 refine ⟨o, row, h1, h2, ?_⟩
 walk_at "r"
 simp only [walked, Bool.or_false, ZaN, bdy, gd1, gd0, Ls, nI, List.map_nil, show ((0 : Nat) : Int) = 0 from rfl] at hlp
 have hit := Zf3 m (by omega)
 have l1 : Zo.lend = true := rfl
 have hmv : ∀ x0 x1 x3 x4 x5 x6 : D, mvR 2 [x0, x1, .node .lst o (dI (nI row)), x3, x4, x5, x6] (some (.node .lst o (dI (nI row)))) = .ok (.node .lst o (dI (nI row)), [x0, x1, .hole, x3, x4, x5, x6]) := fun x0 x1 x3 x4 x5 x6 => rfl
 (simp_all [l1, hm, Zf6, hit, hlp, hmv]) <;> rfl
def Zh8 (x : Int) (p : Nat) (hp : 0 < p) (hp2 : p <= 47) : ∃ d, Sz p (d, false) /\ Zbl.run [I x, I p] = .ok (d, [I x, I p]) := by
 have hm := Zcl x 12 (by decide)
 have q0 := Int.emod_nonneg x (show (12 : Int) ≠ 0 by decide)
 have q1 := Int.emod_lt_of_pos x (show (0 : Int) < 12 by decide)
 generalize x % 12 = r at hm q0 q1
 have hpw : binW .Pow (.sc (.int 10)) (.sc (.int 19)) = some (I (10 ^ 19)) := by kernel_rfl
 have hw1 : ∀ u : D, newL [u] = some (.node .lst true [u]) := fun u => ZaG _ (by rw [szl]; simp)
 have ht1 : ∀ u : D, newT [u] = some (.node .tup true [u]) := fun u => by unfold newT; rw [if_pos (by rw [szl]; simp)]
 have hw : ∀ u1 u2 u3 u4 u5 u6 u7 u8 u9 u10 u11 u12 : D, newL [u1, u2, u3, u4, u5, u6, u7, u8, u9, u10, u11, u12] = some (.node .lst true [u1, u2, u3, u4, u5, u6, u7, u8, u9, u10, u11, u12]) := fun u1 u2 u3 u4 u5 u6 u7 u8 u9 u10 u11 u12 => ZaG _ (by rw [szl]; simp)
 have hix : ∀ l : List D, l.length = 12 -> ∃ d, d ∈ l /\ ((ixN' 12 r).bind fun j => l[j]?) = some d := fun l h => by
  have e : ixN' 12 r = some r.toNat := by
   have := Zc8 12 r.toNat (by omega)
   rwa [Int.toNat_of_nonneg q0] at this
  rw [e, Option.bind_some, List.getElem?_eq_getElem (show r.toNat < l.length by omega)]
  exact ⟨_, List.getElem_mem _, rfl⟩
 obtain ⟨d, hd, hi⟩ := hix [I p, I (p + 7), I (-1), I (-p), I (10 ^ 19), .sc .non, .sc (.bl true), .sc (.bl false), S' "0", S' "a", .node .lst false [I 0], .node .tup false [I 1]] rfl
 have so : ∀ y : Int, ¬ (0 <= y /\ y < (p : Int)) -> Sz p (I y, false) := fun y h => by
  have := Sz_i (p : Int) y
  have e : (decide (0 <= y) && decide (y < (p : Int))) = false := by
   by_cases h0 : 0 <= y
   . rw [decide_eq_false (show ¬ y < (p : Int) from fun h1 => h ⟨h0, h1⟩), Bool.and_false]
   . rw [decide_eq_false h0, Bool.false_and]
  rwa [e] at this
 refine ⟨d, ?_, ?_⟩
 . simp only [List.mem_cons, List.not_mem_nil, or_false] at hd
   rcases hd with rfl | rfl | rfl | rfl | rfl | rfl | rfl | rfl | rfl | rfl | rfl | rfl
   . exact so _ (by omega)
   . exact so _ (by omega)
   . exact so _ (by omega)
   . exact so _ (by omega)
   . exact so _ (by omega)
   . exact Sz_n p
   . exact Sz_b p _
   . exact Sz_b p _
   . exact Sz_s p _ (by walk_at "d")
   . exact Sz_s p _ (by walk_at "d")
   . exact Sz_l p 0
   . exact Sz_t p 1
 . walk_at "r"
   (simp_all [hm, hpw, hw1, ht1, hw, hi]) <;> rfl
def ZoK {lk : Nat -> Bool} {c : Str} {nm : Option Nat} {r : Fl × List D} (h : body δ = .ok r) : tryM lk body c nm suite δ = .ok r := by
 unfold tryM
 rw [h]
def ZmA {lk : Nat -> Bool} {c : Str} {δ' : List D} {x : D} (h : body δ = .exc x δ') (hh : hits c x = true) (hi : i < δ'.length) (hl : lk i = false) : tryM lk body c (some i) suite δ = Zia i (suite (δ'.set i x)) := by
 unfold tryM
 rw [h]
 dsimp only
 rw [if_pos hh, if_pos (by rw [hl, decide_eq_true hi]; rfl)]
def Zkv (i : Nat) (f : Fl) (δ : List D) : Zia i (.ok (f, δ)) = .ok (f, δ.set i .hole) := (rfl)
noncomputable abbrev tCx (C : Addr) : T.Ctx := ⟨fun i => decide (i < 2), (CK C).fok, (CK C).fuel⟩
def hx0 (C : Addr) (b s : List T.S) (δ : List D) : ex (tCx C) (.try_ b "LabelError" (some 4) s) δ = tryM (fun i => decide (i < 2)) (exs (tCx C) b) "LabelError" (some 4) (exs (tCx C) s) δ := rfl
def ZmB (C : Addr) (d0 d1 : D) (m : Int) : Zbb 2 (exs (tCx C) ((ZZ C).drop 3) [d0, d1, Xc "NoReading" false m, .sc .non, .hole, .hole]) = .ok (.node .tup true [I 1, I m], [d0, d1]) := by kernel_rfl
def ZmC (C : Addr) (d0 d1 : D) (m : Int) : Zbb 2 (exs (tCx C) ((ZZ C).drop 3) [d0, d1, Xc "NoSymbol" false m, .sc .non, .hole, .hole]) = .ok (.node .tup true [I 2, I m], [d0, d1]) := by kernel_rfl
def ZmD (C : Addr) (o : Bool) (p : Nat) (rs : List (List Str)) (t z : Str) (ds : List D) (hr : (ZA C).run [Tb C o p rs t, .node .lst true ds] = .ok (S' z, [Tb C false p rs t, .node .lst true ds])) : (Zas C).run [Tb C o p rs t, .node .lst true ds] = .ok (.node .tup true [I 0, S' z], [Tb C false p rs t, .node .lst true ds]) := by
 walk_at "r"
 have l1 : (ZA C).lend = true := rfl
 have hck : ∀ x1 x2 x3 x4 x5 : D, chkI C "read" (.late 0) [Tb C o p rs t, x1, x2, x3, x4, x5] = .ok ((), [Tb C o p rs t, x1, x2, x3, x4, x5]) := fun x1 x2 x3 x4 x5 => Zik C _ 0 _ fs3 true _ rfl (by decide)
 have hb : exs (tCx C) [.asgY 3 (.meth C "read" (ZA C) (.v 0) [.v 1])] [Tb C o p rs t, .node .lst true ds, .sc .non, .sc .non, .hole, .hole] = .ok (.nx, [Tb C false p rs t, .node .lst true ds, .sc .non, S' z, .hole, .hole]) := by
  simp_all [l1, hck, hr]
 have ht := ZoK (lk := fun i => decide (i < 2)) (c := "LabelError") (nm := some 4) (suite := exs (tCx C) [.asg 2 (.v 4)]) hb
 have e1 : (true == true) = true := rfl
 (simp_all [hx0, ht, ZaS, e1, Zaw]) <;> rfl
def Zje (C : Addr) (o : Bool) (p : Nat) (rs : List (List Str)) (t c : Str) (m : Int) (r : D) (ds : List D) (hc : hits "LabelError" (Xc c true m) = true) (hr : (ZA C).run [Tb C o p rs t, .node .lst true ds] = .exc (Xc c true m) [Tb C false p rs t, .node .lst true ds])
 (hf : ∀ d0 d1, Zbb 2 (exs (tCx C) ((ZZ C).drop 3) [d0, d1, Xc c false m, .sc .non, .hole, .hole]) = .ok (r, [d0, d1])) : (Zas C).run [Tb C o p rs t, .node .lst true ds] = .ok (r, [Tb C false p rs t, .node .lst true ds]) := by
 have l1 : (ZA C).lend = true := rfl
 have hck : ∀ x1 x2 x3 x4 x5 : D, chkI C "read" (.late 0) [Tb C o p rs t, x1, x2, x3, x4, x5] = .ok ((), [Tb C o p rs t, x1, x2, x3, x4, x5]) := fun x1 x2 x3 x4 x5 => Zik C _ 0 _ fs3 true _ rfl (by decide)
 have hb : exs (tCx C) [.asgY 3 (.meth C "read" (ZA C) (.v 0) [.v 1])] [Tb C o p rs t, .node .lst true ds, .sc .non, .sc .non, .hole, .hole] = .exc (Xc c true m) [Tb C false p rs t, .node .lst true ds, .sc .non, .sc .non, .hole, .hole] := by
  simp_all [l1, hck, hr, ZkU, Zh3]
 have ht := ZmA (lk := fun i => decide (i < 2)) (c := "LabelError") (i := 4) (suite := exs (tCx C) [.asg 2 (.v 4)]) hb hc (show 4 < 6 by decide) rfl
 have ht2 : exs (tCx C) [.asg 2 (.v 4)] [Tb C false p rs t, .node .lst true ds, .sc .non, .sc .non, Xc c true m, .hole] = .ok (.nx, [Tb C false p rs t, .node .lst true ds, Xc c false m, .sc .non, Xc c false m, .hole]) := by
  repeat (first | walk_at "ev" | rfl)
 have hf := hf (Tb C false p rs t) (.node .lst true ds)
 refine runB (f := Zas C) (C := CK C) (n := 2) (N := 6) (b := ZZ C) rfl rfl ?_
 rw [<- hf]
 show Zbb 2 (exs (tCx C) (.asg 2 (.k .non) :: .asg 3 (.k .non) :: .try_ [.asgY 3 (.meth C "read" (ZA C) (.v 0) [.v 1])] "LabelError" (some 4) [.asg 2 (.v 4)] :: (ZZ C).drop 3) [Tb C o p rs t, .node .lst true ds, .hole, .hole, .hole, .hole]) = _
 generalize (ZZ C).drop 3 = tl
 rw [show ([Tb C false p rs t, D.node .lst true ds, .sc .non, .sc .non, .hole, .hole] : List D).set 4 (Xc c true m) = [Tb C false p rs t, .node .lst true ds, .sc .non, .sc .non, Xc c true m, .hole] from rfl, ht2, Zkv] at ht
 simp_all [hx0, ht]
def Cs (s : Str) : Prop := ∀ c ∈ s.cps.toList, c < 1114112
def ZoL : ∀ c ∈ sgn, c < 1114112 := by walk_at "d"
def ZoM {w : Str} (hn : n <= 4) (hw : w ∈ wds n) (h : stp w i a = some (q, s)) : Cs s := by
 unfold stp at h
 rcases ZaW hw with rfl | ⟨c, hc, rfl⟩ | ⟨k, hk, rfl⟩ | ⟨k, hk, rfl⟩
 . rw [Zcq.1] at h; cases h
 . rw [(Zcp hc).1] at h; cases h
   exact fun x hx => by rw [List.mem_singleton.mp hx]; exact ZoL c hc
 . rw [(Zcr k (by omega)).1] at h
   cases a <;> cases h
   exact nofun
 . rw [(Zcs k (by omega)).1] at h
   cases a <;> cases h
   exact nofun
theorem ZkV (hn : n <= 4) (hl : rs.length = n) (hok : ZH p n rs) {ss' : List Str} : ∀ (xs : List Nat) (i : Nat) (a : Option Nat) (k : Nat) (ss : List Str), i < n -> (∀ j, a = some j -> j < n) -> (∀ x ∈ xs, x < p) -> (∀ s ∈ ss, Cs s) -> wl rs xs i a k ss = .inr (q, ss') -> ∀ s ∈ ss', Cs s
 | [], i, a, k, ss, _, _, _, h, e => by cases e; exact h
 | x :: xs, i, a, k, ss, hi, ha, hx, h, e => by
  have hw := (ZeC 0 Str.empty hn hl hok .tup (.inr rfl) i a x hi ha (hx x List.mem_cons_self)).1
  unfold wl at e
  cases hst : stp (wd rs i a x) i a with
  | none => rw [hst] at e; cases e
  | some r =>
   obtain ⟨⟨i', a'⟩, s⟩ := r
   rw [hst] at e
   obtain ⟨g1, g2, _⟩ := ZiZ hn hw hi hst
   refine ZkV hn hl hok xs i' a' (k + 1) (ss ++ [s]) g1 g2 (fun y hy => hx y (List.mem_cons_of_mem _ hy)) (fun y hy => ?_) e
   rcases List.mem_append.mp hy with q | q
   . exact h y q
   . rw [List.mem_singleton.mp q]; exact ZoM hn hw hst
def ZoN (ss : List Str) (h : ∀ s ∈ ss, Cs s) : PyData.strOk (cat ss) = true := by
 unfold PyData.strOk
 (rw [<- Array.all_toList, List.all_eq_true])
 intro x hx
 unfold cat at hx
 rw [Zd3] at hx
 (rcases List.mem_append.mp hx with hx | hx)
 . exact nomatch hx
 . obtain ⟨l, hl, hx⟩ := List.mem_flatten.mp hx
   obtain ⟨s, hs, rfl⟩ := List.mem_map.mp hl
   exact decide_eq_true (h s hs x hx)
def ZmE (qs : List D) (h : ∀ d ∈ qs, Pd d) : Zat .NotEq (.nd .tup qs) (.nd .tup qs) = some false := by
 obtain ⟨as, a1, a2, a3, a4⟩ := Zg8 qs h
 show ((py (.node .tup false qs)).bind (fun a => (py (.node .tup false qs)).bind fun b => eqPy a b)).map (!·) = _
 simp only [py, a1, Option.map_some, Option.bind_some]
 unfold eqPy
 have sh : SeqAt.shaped (.tuple as) = true := by
  have h1 : (PyData.tuple as).canLay0 = true := by rw [PyData.canLay0]; exact a2
  have h2 : (PyData.tuple as).depth <= 64 := by rw [PyData.depth]; omega
  simp only [SeqAt.shaped, h1, h2, decide_true, Bool.and_self]
 rw [if_pos ⟨sh, sh⟩]
 simp only [PyData.eqv, a4, Option.map_some, Bool.not_true]
def Zd4 (C : Addr) (o o2 : Bool) (p : Nat) (rs : List (List Str)) (t : Str) (ds : List D) (a : Int) (v : V) (hsh : shrL ds = ds) (hds : ∀ d ∈ ds, Pd d) (hb : tyW .bool (.sc v) = some false) (hv : Pd (.sc v)) (hf : 0 < a \/ (¬ 0 < a /\ tyW .str (.sc v) = some true)) (hr : ∀ o, (Zas C).run [Tb C o p rs t, .node .lst true ds] = .ok (.node .tup true [I a, .sc v], [Tb C false p rs t, .node .lst true ds])) :
 (ZO C).run [Tb C o p rs t, RL false rs, .node .lst o2 ds, .node .tup true [I a, .sc v]] = .ok (.sc (.bl true), [Tb C false p rs t, RL false rs, .node .lst o2 ds, .node .tup true [I a, .sc v]]) := by
 walk_at "r"
 have l1 : (Zas C).lend = true := rfl
 have hvw : ∀ x0 x1 x3 x4 x5 x6 : D, vwR 2 [x0, x1, .node .lst o2 ds, x3, x4, x5, x6] (some (.node .lst o2 ds)) = .ok (.nd .lst ds, [x0, x1, .node .lst o2 ds, x3, x4, x5, x6]) := fun x0 x1 x3 x4 x5 x6 => by
  cases o2
  . rfl
  . rw [ZdE, hsh]; rfl
 have q1 := ZoJ ds hds
 have q2 := ZmE [I a, .sc v] (by
  intro d hd
  simp only [List.mem_cons, List.not_mem_nil, or_false] at hd
  rcases hd with rfl | rfl
  . exact Pd_i a
  . exact hv)
 have hit : itW .rng1 [.sc (.int 2)] = some [I 0, I 1] := by kernel_rfl
 simp_all [hvw, hit, Zbd, ZkG, l1, hr, hsh, q1, q2, ZkL, hb, ix20, ix21]
 rcases hf with hf | ⟨hf, hf2⟩
 . (simp_all [hf]) <;> rfl
 . (simp_all [ZkQ, ix21, hf, hf2]) <;> rfl
def Pd_s (z : Str) (h : PyData.strOk z = true) : Pd (S' z) := ⟨.str z, rfl, h, Nat.zero_le _, by simp [PyData.eqv]⟩
theorem Zjf (C : Addr) (t : Str) (n1 : 1 <= n) (hn : n <= 4) (hl : rs.length = n) (hok : ZH p n rs) (row : List Nat) (hx : ∀ x ∈ row, x < p) (hxl : row.length <= 60) : ∃ a v, rdD (rd rs row) = .node .tup true [I a, .sc v] /\ ∀ o o2, (ZO C).run [Tb C o p rs t, RL false rs, Ls o2 (nI row), .node .tup true [I a, .sc v]] = .ok (.sc (.bl true), [Tb C false p rs t, RL false rs, Ls o2 (nI row), .node .tup true [I a, .sc v]]) := by
 have rr := fun o => Zkr C o t n1 hn hl hok row hx hxl
 have hds : ∀ d ∈ dI (nI row), Pd d := fun d hd => by
  obtain ⟨i, _, rfl⟩ := List.mem_map.mp hd
  exact Pd_i i
 cases hq : rd rs row with
 | inl k =>
  simp only [hq] at rr
  exact ⟨1, .int k, rfl, fun o o2 => Zd4 C o o2 p rs t _ 1 (.int k) (ZC _) hds rfl (Pd_i _) (.inl (by decide)) fun o => Zje C o p rs t "NoReading" k _ _ (by kernel_rfl) (rr o) fun d0 d1 => ZmB C d0 d1 k⟩
 | inr z =>
  simp only [hq] at rr
  have hz : PyData.strOk z = true := by
   unfold rd at hq
   cases hw : wl rs row 0 none 0 [] with
   | inl m => rw [hw] at hq; cases hq
   | inr q =>
    obtain ⟨⟨i', a'⟩, ss⟩ := q
    rw [hw] at hq
    cases a' with
    | some j => cases hq
    | none =>
     cases hq
     exact ZoN ss (ZkV hn hl hok row 0 none 0 [] n1 nofun hx (by simp) hw)
  exact ⟨0, .str z, rfl, fun o o2 => Zd4 C o o2 p rs t _ 0 (.str z) (ZC _) hds rfl (Pd_s z hz) (.inr ⟨by decide, rfl⟩) fun o => ZmD C o p rs t z _ (rr o)⟩
def Zkw (C : Addr) (p : Nat) (rs : List (List Str)) (t : Str) (qs : List (D × Bool)) (m : Nat) (hq : ∀ q ∈ qs, Sz p q) (hl : qs.length <= 60) (hm : ffx 0 qs = some m) (o : Bool) : (ZO C).run [Tb C o p rs t, RL false rs, .node .lst true (qs.map Prod.fst), .node .tup true [I 2, I m]] = .ok (.sc (.bl true), [Tb C false p rs t, RL false rs, .node .lst true (qs.map Prod.fst), .node .tup true [I 2, I m]]) :=
 Zd4 C o true p rs t _ 2 (.int m) (Zd1 qs fun q h => (hq q h).1.2.1) (fun d hd => by obtain ⟨q, h, rfl⟩ := List.mem_map.mp hd; exact (hq q h).2) rfl (Pd_i _) (.inl (by decide)) fun o => Zje C o p rs t "NoSymbol" m _ _ (by kernel_rfl) (Zm7 C o p rs t qs m hq hl hm) fun d0 d1 => ZmC C d0 d1 m
def ZgB (ds : List D) (k : Nat) (h : k <= ds.length) : cutD ds none (some (k : Int)) = ds.take k := by
 unfold cutD
 rw [HT.Zhb, Nat.min_eq_left h]
 rfl
def ZgC (ds : List D) (k : Nat) (h : k <= ds.length) : cutD ds (some (k : Int)) none = ds.drop k := by
 unfold cutD
 rw [HT.Zhb, Nat.min_eq_left h]
 show List.take (ds.length - k) (List.drop k ds) = _
 rw [List.take_of_length_le (by rw [List.length_drop]; exact Nat.le_refl _)]
theorem ZeD (d : D) (r : List (D × Bool)) : ∀ (l : List (D × Bool)) (c : Nat), (∀ q ∈ l, q.2 = true) -> ffx c (l ++ (d, false) :: r) = some (c + l.length)
 | [], c, _ => rfl
 | (x, b) :: l, c, h => by
  have hb : b = true := h (x, b) List.mem_cons_self
  subst hb
  show ffx (c + 1) (l ++ (d, false) :: r) = _
  rw [ZeD d r l (c + 1) fun q hq => h q (List.mem_cons_of_mem _ hq), List.length_cons]
  congr 1
  omega
def ZeU (row : List Nat) : ∀ q ∈ qI row, q.2 = true := fun q hq => by
 obtain ⟨x, _, rfl⟩ := List.mem_map.mp hq
 rfl
noncomputable abbrev putQ (k : Nat) (d : D) (qs : List (D × Bool)) : List (D × Bool) := qs.take k ++ (d, false) :: qs.drop k
def ZgD {k : Nat} {qs : List (D × Bool)} (h : ∀ q ∈ qs, Sz p q) (hd : Sz p (d, false)) : ∀ q ∈ putQ k d qs, Sz p q := fun q hq => by
 rcases List.mem_append.mp hq with e | e
 . exact h q (List.mem_of_mem_take e)
 . rcases List.mem_cons.mp e with rfl | e
   . exact hd
   . exact h q (List.mem_of_mem_drop e)
def ZeV (k : Nat) (d : D) (qs : List (D × Bool)) (h : k <= qs.length) : (putQ k d qs).length = qs.length + 1 := by
 rw [List.length_append, List.length_cons, List.length_take, List.length_drop, Nat.min_eq_left h]
 omega
def ZoO (k : Nat) (d : D) (row : List Nat) (h : k <= row.length) : ffx 0 (putQ k d (qI row)) = some k := by
 rw [putQ, ZeD d _ _ 0 fun q hq => ZeU row q (List.mem_of_mem_take hq), List.length_take, List.length_map, Nat.min_eq_left h, Nat.zero_add]
def ZoP (k j : Nat) (d d' : D) (row : List Nat) (h : k <= row.length) (hj : j <= row.length + 1) : ffx 0 (putQ j d' (putQ k d (qI row))) = some (if j < k then j else k) := by
 have hl : ((qI row).take k).length = k := by rw [List.length_take, List.length_map, Nat.min_eq_left h]
 by_cases c : j <= k
 . have e : (putQ k d (qI row)).take j = (qI row).take j := by
    rw [putQ, List.take_append, hl, show j - k = 0 by omega, List.take_zero, List.append_nil, List.take_take, Nat.min_eq_left c]
   rw [show putQ j d' (putQ k d (qI row)) = (putQ k d (qI row)).take j ++ (d', false) :: (putQ k d (qI row)).drop j from rfl, e, ZeD d' _ _ 0 fun q hq => ZeU row q (List.mem_of_mem_take hq), List.length_take, List.length_map, Nat.min_eq_left (by omega), Nat.zero_add]
   split
   . rfl
   . rw [show j = k by omega]
 . obtain ⟨m, rfl⟩ : ∃ m, j = k + (m + 1) := ⟨j - k - 1, by omega⟩
   have e : (putQ k d (qI row)).take (k + (m + 1)) = (qI row).take k ++ (d, false) :: ((qI row).drop k).take m := by
    rw [putQ, List.take_append, hl, List.take_of_length_le (by rw [hl]; omega), show k + (m + 1) - k = m + 1 by omega, List.take_succ_cons]
   rw [show putQ (k + (m + 1)) d' (putQ k d (qI row)) = (putQ k d (qI row)).take (k + (m + 1)) ++ (d', false) :: (putQ k d (qI row)).drop (k + (m + 1)) from rfl, e, List.append_assoc, List.cons_append, ZeD d _ _ 0 fun q hq => ZeU row q (List.mem_of_mem_take hq), hl, if_neg (by omega), Nat.zero_add]
def Sz.sh {q : D × Bool} (h : Sz p q) : shr q.1 = q.1 := h.1.2.1
noncomputable abbrev zA (C : Addr) (tl : List T.S) : List T.S := .asg 4 (.call Zbk [.v 1, .v 3]) :: .asg 5 (.call Zar [.v 1, .v 4]) :: .iff (.nt (.call (ZO C) [.v 2, .v 1, .v 4, .v 5])) [.ret (.k (.bl false))] [] :: tl
def ZoQ (h4 : lk 4 = false) (h5 : lk 5 = false) (C : Addr) (t : Str) (hp : 0 < p) (n1 : 1 <= n) (hn : n <= 4) (hl : rs.length = n) (hok : ZH p n rs) (s : D) (c : Int) (tl : List T.S) (o : Bool) (a4 a5 a6 a7 a8 a9 : D) : ∃ (o2 : Bool) (row : List Nat) (d5 : D), (∀ x ∈ row, x < p) /\ row.length <= 41 /\
 exs ⟨lk, fok, fuel⟩ (zA C tl) [s, RL false rs, Tb C o p rs t, I c, a4, a5, a6, a7, a8, a9] = exs ⟨lk, fok, fuel⟩ tl [s, RL false rs, Tb C false p rs t, I c, Ls o2 (nI row), d5, a6, a7, a8, a9] := by
 obtain ⟨o2, row, hx, hxl, hr⟩ := Zm9 hp n1 hn hl hok c
 obtain ⟨a, v, hd, hg⟩ := Zjf C t n1 hn hl hok row hx (by omega)
 have lr := fun o => Zft n1 hn hl hok o row hx (by omega)
 rw [hd] at lr
 refine ⟨o2, row, .node .tup true [I a, .sc v], hx, hxl, ?_⟩
 have l1 : Zbk.lend = true := rfl
 have l2 : Zar.lend = true := rfl
 have l3 : (ZO C).lend = true := rfl
 cases o2 <;> (simp_all [h4, h5, l1, l2, l3, hr, lr, hg])
def catD (xs ys : List D) (h : xs.length + ys.length <= 60) : binW .Add (.nd .lst xs) (.nd .lst ys) = some (.node .lst true (xs ++ ys)) := ZkI xs ys (by rw [List.length_append, szl]; omega)
structure Spl (p : Nat) (k j : Nat) (r : Int) (q1 : List (D × Bool)) (d2 : D) (M T R R' : List D) (qs : List (D × Bool)) (m : Nat) : Prop where
 c : cutD [d2] none (some r) = M
 sh : shrL M = M
 b1 : binW .Add (.nd .lst ((q1.map Prod.fst).take j)) (.nd .lst M) = some (.node .lst true T)
 b2 : binW .Add (.nd .lst T) (.nd .lst ((q1.map Prod.fst).drop j)) = some (.node .lst true (qs.map Prod.fst))
 b3 : binW .Mult (.nd .lst [I j]) (.sc (.int (M.length : Int))) = some (.node .lst true R)
 sr : shrL R = R
 b4 : binW .Add (.nd .lst [I k]) (.nd .lst R) = some (.node .lst true R')
 b5 : bfW .minL [.nd .lst R'] = some (I m)
 sz : ∀ q ∈ qs, Sz p q
 le : qs.length <= 60
 ff : ffx 0 qs = some m
def ZoR {k : Nat} {r : Int} {d1 d2 : D} (row : List Nat) (hx : ∀ x ∈ row, x < p) (hl : row.length <= 41) (hk : k <= row.length) (hj : j <= row.length + 1) (r0 : 0 <= r) (r2 : r < 2) (s1 : Sz p (d1, false)) (s2 : Sz p (d2, false)) : ∃ M T R R' qs m, Spl p k j r (putQ k d1 (qI row)) d2 M T R R' qs m := by
 have hq : (putQ k d1 (qI row)).length = row.length + 1 := by rw [ZeV _ _ _ (by rw [List.length_map]; exact hk), List.length_map]
 have z1 := ZgD (k := k) (ZgA hx) s1
 have f1 := ZoO k d1 row hk
 have f2 := ZoP k j d1 d2 row hk hj
 have lt : (((putQ k d1 (qI row)).map Prod.fst).take j).length <= 43 := by rw [List.length_take, List.length_map, hq]; omega
 have ld : (((putQ k d1 (qI row)).map Prod.fst).drop j).length <= 43 - j := by rw [List.length_drop, List.length_map, hq]; omega
 have lt2 : (((putQ k d1 (qI row)).map Prod.fst).take j).length = j := by rw [List.length_take, List.length_map, hq]; omega
 generalize putQ k d1 (qI row) = q1 at hq z1 f1 f2 lt ld lt2
 obtain rfl | rfl : r = 0 \/ r = 1 := by omega
 . refine ⟨[], (q1.map Prod.fst).take j, [], [I k], q1, k, rfl, rfl, ?_, ?_, by kernel_rfl, rfl, catD [I k] [] (by simp), rfl, z1, by omega, f1⟩
   . rw [catD _ _ (by rw [lt2, List.length_nil]; omega), List.append_nil]
   . rw [catD _ _ (by rw [lt2]; omega), List.take_append_drop]
 . have e : (q1.map Prod.fst).take j ++ [d2] ++ (q1.map Prod.fst).drop j = (putQ j d2 q1).map Prod.fst := by
    rw [putQ, List.map_append, List.map_cons, List.map_take, List.map_drop, List.append_assoc]
    rfl
   refine ⟨[d2], (q1.map Prod.fst).take j ++ [d2], [I j], [I k, I j], putQ j d2 q1, if j < k then j else k, rfl, ?_, ?_, ?_, by kernel_rfl, rfl, catD [I k] [I j] (by simp), ?_, ZgD z1 s2, ?_, f2⟩
   . rw [shrL, s2.sh]; rfl
   . exact catD _ _ (by rw [lt2]; simp; omega)
   . rw [<- e]
     exact catD _ _ (by rw [List.length_append, lt2, List.length_singleton]; omega)
   . show some (I (if (j : Int) < k then (j : Int) else k)) = _
     congr 3
     split <;> split <;> omega
   . rw [ZeV _ _ _ (by omega)]
     omega
noncomputable abbrev zB (C : Addr) : T.S := (bdy ((Zcc C).getD 2 .pass)).getD 3 .pass
def ZoS (h5 : lk 5 = false) (h6 : lk 6 = false) (h7 : lk 7 = false) (h8 : lk 8 = false) (h9 : lk 9 = false) (C : Addr) (t : Str) (hp : 0 < p) (hp2 : p <= 47) (n1 : 1 <= n) (hl : rs.length = n) (hok : ZH p n rs) (s : D) (c : Int) (o2 : Bool) (row : List Nat) (hx : ∀ x ∈ row, x < p) (hxl : row.length <= 41) (a5 a6 a7 a8 a9 : D) : ∃ b5 b6 b7 b8 b9 : D,
 exs ⟨lk, fok, fuel⟩ [zB C] [s, RL false rs, Tb C false p rs t, I c, Ls o2 (nI row), a5, a6, a7, a8, a9] = .ok (.nx, [s, RL false rs, Tb C false p rs t, I c, Ls o2 (nI row), b5, b6, b7, b8, b9]) := by
 simp only [zB, Zcc, bdy, gd1, gd0]
 obtain ⟨r3, _, _, hs3⟩ := ZP c 3 4 (by decide) (by decide)
 have l1 : Zo.lend = true := rfl
 have l2 : Zbl.lend = true := rfl
 have l3 : (ZO C).lend = true := rfl
 by_cases hr3 : r3 = 1
 . subst hr3
   obtain ⟨k, k0, k1, hs4⟩ := ZP c 4 ((row.length : Int) + 1) (by omega) (by decide)
   obtain ⟨k, rfl⟩ : ∃ k' : Nat, k = k' := ⟨k.toNat, by omega⟩
   obtain ⟨r5, _, _, hs5⟩ := ZP c 5 12 (by decide) (by decide)
   obtain ⟨d1, s1, ho1⟩ := Zh8 r5 p hp hp2
   obtain ⟨j, j0, j1, hs6⟩ := ZP c 6 (((row.length + 1 : Nat) : Int) + 1) (by omega) (by decide)
   obtain ⟨j, rfl⟩ : ∃ j' : Nat, j = j' := ⟨j.toNat, by omega⟩
   obtain ⟨r7, _, _, hs7⟩ := ZP c 7 12 (by decide) (by decide)
   obtain ⟨d2, s2, ho2⟩ := Zh8 r7 p hp hp2
   obtain ⟨r8, r0, r2, hs8⟩ := ZP c 8 2 (by decide) (by decide)
   obtain ⟨Mo, T, R, R', qs, m, sp⟩ := ZoR (k := k) (j := j) row hx hxl (by omega) (by omega) r0 r2 s1 s2
   obtain ⟨e1, e2, e3, e4, e5, e6, e7, e8, e9, e10, e11⟩ := sp
   have hg := Zkw C p rs t qs m e9 e10 e11
   have sq := Zd1 qs fun q h => (e9 q h).sh
   have x0 := ixR (TL false) rs 0 (by omega)
   have hr0 : (rs.getD 0 []).length = p := by
    rw [List.getD_eq_getElem?_getD, List.getElem?_eq_getElem (by omega)]
    exact (hok _ (List.getElem_mem _)).1
   generalize rs.getD 0 [] = r0' at x0 hr0
   rw [show ((0 : Nat) : Int) = 0 from rfl] at x0
   have hl0 : ((dT r0').length : Int) = (p : Int) := by rw [ZaO, hr0]
   have hlr : ((dI (nI row)).length : Int) = (row.length : Int) := by rw [Za0, List.length_map]
   have ct := ZgB (dI (nI row)) k (by rw [Za0, List.length_map]; omega)
   have cd := ZgC (dI (nI row)) k (by rw [Za0, List.length_map]; omega)
   have hq : (putQ k d1 (qI row)).length = row.length + 1 := by rw [ZeV _ _ _ (by rw [List.length_map]; omega), List.length_map]
   have g1 : binW .Add (.nd .lst ((dI (nI row)).take k)) (.nd .lst [d1]) = some (.node .lst true ((dI (nI row)).take k ++ [d1])) := catD _ _ (by rw [List.length_take, Za0, List.length_map]; simp; omega)
   have g2 : binW .Add (.nd .lst ((dI (nI row)).take k ++ [d1])) (.nd .lst ((dI (nI row)).drop k)) = some (.node .lst true ((putQ k d1 (qI row)).map Prod.fst)) := by
    rw [catD _ _ (by rw [List.length_append, List.length_take, List.length_drop, Za0, List.length_map, List.length_singleton]; omega), <- Zjd, putQ, List.map_append, List.map_cons, List.map_take, List.map_drop, List.append_assoc]
    rfl
   have ct2 := ZgB ((putQ k d1 (qI row)).map Prod.fst) j (by rw [List.length_map, hq]; omega)
   have cd2 := ZgC ((putQ k d1 (qI row)).map Prod.fst) j (by rw [List.length_map, hq]; omega)
   have hl1 : (((putQ k d1 (qI row)).map Prod.fst).length : Int) = ((row.length + 1 : Nat) : Int) := by rw [List.length_map, hq]
   have sq1 := Zd1 (putQ k d1 (qI row)) fun q h => (ZgD (k := k) (ZgA hx) s1 q h).sh
   have hw1 : ∀ u : D, newL [u] = some (.node .lst true [u]) := fun u => ZaG _ (by rw [szl]; simp)
   have pc : ∀ (fi : FI) (es : List E) (c : M Op), ZaP (.call fi es) c = ((c.bnd view).bnd fun w => lift (intP w)) := fun _ _ _ => rfl
   have hv : ∀ y0 y1 y2 y3 y5 y6 y7 y8 y9 : D, vwR 4 [y0, y1, y2, y3, .node .lst o2 (dI (nI row)), y5, y6, y7, y8, y9] (some (.node .lst o2 (dI (nI row)))) = .ok (.nd .lst (dI (nI row)), [y0, y1, y2, y3, .node .lst o2 (dI (nI row)), y5, y6, y7, y8, y9]) := fun y0 y1 y2 y3 y5 y6 y7 y8 y9 => by
    cases o2
    . rfl
    . rw [ZdE, ZC]; rfl
   generalize (putQ k d1 (qI row)).map Prod.fst = Q1 at e3 e4 g2 ct2 cd2 hl1 sq1
   generalize qs.map Prod.fst = Q2 at e4 hg sq
   refine ⟨.node .tup true [I 2, I m], I k, .node .lst true Q2, I j, .node .lst true Mo, ?_⟩
   simp_all [h5, h6, h7, h8, h9, l1, l2, l3, hs3, hs4, hs5, hs6, hs7, hs8, ho1, ho2, hv, hlr, Zdx, x0, hl0, hw1, ct, cd, g1, g2, sq1, hl1, pc, e1, e2, e3, e4, e5, e6, e7, e8, ct2, cd2, Zaw, sq, hg, V.int.injEq]
 . refine ⟨a5, a6, a7, a8, a9, ?_⟩
   simp_all [l1, hs3, hr3, V.int.injEq]
theorem cells (h3 : lk 3 = false) (h4 : lk 4 = false) (h5 : lk 5 = false) (h6 : lk 6 = false) (h7 : lk 7 = false) (h8 : lk 8 = false) (h9 : lk 9 = false) (C : Addr) (t : Str) (hp : 0 < p) (hp2 : p <= 47) (n1 : 1 <= n) (hn : n <= 4) (hl : rs.length = n) (hok : ZH p n rs) (s : D) : ∀ (cs : List Int) (o : Bool) (a3 a4 a5 a6 a7 a8 a9 : D), ∃ (o' : Bool) (b3 b4 b5 b6 b7 b8 b9 : D),
 forL (asgT lk (.name 3)) (exs ⟨lk, fok, fuel⟩ (zA C [zB C])) (dI cs) [s, RL false rs, Tb C o p rs t, a3, a4, a5, a6, a7, a8, a9] = .ok (.nx, [s, RL false rs, Tb C o' p rs t, b3, b4, b5, b6, b7, b8, b9]) := by
 intro cs
 induction cs with
 | nil => exact fun o a3 a4 a5 a6 a7 a8 a9 => ⟨o, a3, a4, a5, a6, a7, a8, a9, rfl⟩
 | cons c cs ih =>
  intro o a3 a4 a5 a6 a7 a8 a9
  obtain ⟨o2, row, d5, hx, hxl, ha⟩ := ZoQ lk fok fuel h4 h5 C t hp n1 hn hl hok s c [zB C] o a4 a5 a6 a7 a8 a9
  obtain ⟨b5, b6, b7, b8, b9, hb⟩ := ZoS lk fok fuel h5 h6 h7 h8 h9 C t hp hp2 n1 hl hok s c o2 row hx hxl d5 a6 a7 a8 a9
  obtain ⟨o', c3, c4, c5, c6, c7, c8, c9, ih⟩ := ih false (I c) (Ls o2 (nI row)) b5 b6 b7 b8 b9
  refine ⟨o', c3, c4, c5, c6, c7, c8, c9, ?_⟩
  rw [hb] at ha
  rw [Zbu, Zbd]
  generalize zA C [zB C] = bd at ha ih
  simp_all [h3, ha]
  exact ih
def Zkx (C : Addr) (ns : List Int) (h : ns.length <= 63) : ∃ ds', (Zf5 C).run [scr ns] = .ok (.sc (.bl true), ds') := by
 obtain ⟨p, hp, n, rs, h1, h4, hl, hok, hr⟩ := Zki ns 0
 rw [show ((0 : Nat) : Int) = 0 from rfl] at hr
 have hpl := Zcd p hp
 have t1 := fun b => Zkj (p := p) b hp h1 h4 hl hok
 have i1 := fun δ => new1 (Zko C hp h1 h4 hl hok) δ
 generalize text p rs = t at t1 i1
 obtain ⟨o', b3, b4, b5, b6, b7, b8, b9, hc⟩ := cells (fun j => decide (j < 1) || walked [.sl (.v 0) (.k (.int 5)) (.k (.int 25))] j) (CK C).fok (CK C).fuel rfl rfl rfl rfl rfl rfl rfl C t (by omega) hpl.2 h1 h4 hl hok (scr ns) (cutI ns (some 5) (some 25)) true .hole .hole .hole .hole .hole .hole .hole
 simp only [walked, Bool.or_false, zA, zB, Zcc, bdy, gd1, gd0] at hc
 show ∃ ds', Zr (CK C) 1 10 (Zcc C) [scr ns] = .ok (.sc (.bl true), ds')
 rw [runA (show [scr ns].length = 1 from rfl)]
 unfold Zcc
 simp only [List.replicate, Nat.reduceSub]
 have k1 : Zbz.lend = true := rfl
 have k2 : Zb0.lend = true := rfl
 have ci := ZjQ ns (some 5) (some 25)
 have sh := ZC
 have wk : ∀ (a b c : E) (j : Nat), walked [.sl a b c] j = false := fun _ _ _ _ => rfl
 simp only [scr] at hr hc
 simp_all [k1, k2, hr, t1, i1, ci, sh, wk, hc]
 exact ⟨_, rfl⟩
end My
open PySem PySem.W PyProof.Rows
set_option maxHeartbeats 0 in
theorem PySem.Challenge.cw_barlabel_k03_rows_read_holds : PySem.Challenge.rw_barlabel_k03_rows_read.Holds := by
 w_on; o_law; k_head; (case hw => w_witness2)
 k_fill
 refine T.ZjL (l := PySem.Challenge.rw_barlabel_k03_rows_read) (k := 7) (x := "_law_script") (R := fun K => (My.Zf5 (My.Ze1 K)).run) rfl rfl ⟨rfl, by decide, by decide⟩ (fun w h Y => PySem.W.kIn_of Y) ?F (fun K ns hl => My.Zkx (My.Ze1 K) ns hl)
 case F =>
  intro w mg fa h KX G hmg
  refine' My.ZoD KX G hmg ?_ ?_ ?_ ?_ ?_ ?_ ?_ ?_ ?_ ?_ ?_ ?_ ?_ ?_ ?_ ?_ ?_ ?_ ?_ ?_ ?_ ?_ ?_ ?_ ?_ ?_ ?_ ?_ ?_ ?_ ?_ ?_ ?_ ?_ ?_ ?_ ?_ ?_ ?_ ?_ ?_ ?_ ?_ ?_ ?_ ?_ ?_ ?_ ?_ ?_ ?_ ?_ ?_ ?_ ?_ ?_ ?_ ?_ ?_ ?_ ?_ ?_ ?_ ?_ ?_ ?_ ?_
  any_goals first | (refine' T.Zrs ?a ?b ?c ?d; (case a => k_is); (case b => k_is); (case c => k_is); (case d => k_is)) | (refine' T.Zrt ?a ?b ?c ?d ?e; (case a => k_is); (case b => k_is); (case c => k_is); (case d => k_is); (case e => k_is)) | (refine' T.CI.mk ?a ?b ?c ?d ?e ?f ?g; (case a => k_is); (case b => k_is); (case c => k_is); (case d => k_is); (case e => k_is); (case f => k_is); (case g => k_is)) | (refine' T.Zry ?a ?b; (case a => k_is); (case b => k_is)) | (refine' T.XA.mk ?a ?b ?c ?d ?e ?f ?g ?h ?i ?j ?k; (case a => k_is); (case b => k_is); (case c => k_is); (case d => k_is); (case e => k_is); (case f => k_is); (case g => k_is); (case h => k_is); (case i => k_is); (case j => k_is); (case k => k_is)) | (refine' T.Zrx ?a ?b ?c ?d ?e ?f ?g ?h; (case a => k_is); (case b => k_is); (case c => k_is); (case d => simp [L2.Zgq]); (case e => k_is); (case f => k_is); (case g => k_is); (case h => k_is)) | (refine' T.Zrz ?a ?b ?c ?d ?e; (case a => k_is); (case b => k_is); (case c => k_is); (case d => k_is); (case e => k_is)) | (refine' T.Zrw ?a ?b ?c ?d ?e ?f ?g; (case a => k_is); (case b => k_is); (case c => k_is); (case d => k_is); (case e => k_is); (case f => k_is); (case g => rfl)) | (refine' L2.XI.mk ?a ?b ?c; (case a => k_is); (case b => k_is); (case c => k_is)) | (unfold T.NI; k_is) | k_is | rfl | exact Nat.le_of_ble_eq_true rfl
