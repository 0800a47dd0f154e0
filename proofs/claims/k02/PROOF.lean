import PyProof.Rows.All
import Wide.All
import OpenK.AllK
import Wide.FinOn
import Lean
import PyProof.EqAt
import PyProof.EqKinds
import PyProof.TupleCall
import PySem.Challenge.RW_barlabel_k02_tables_refused
set_option Elab.async false
set_option compiler.extract_closed false
set_option linter.all false
set_option maxRecDepth 100000
set_option maxHeartbeats 4100000
abbrev Fg := PySem.W.Frag
namespace PySem.W.Fast
def tw2085245354573065569 := ()
def tw3563408837866363216 := ()
def tw940751263939197158 := ()
def tw12967004468838627666 := ()
def tw2190960349803499317 := ()
def tw8960967300665763352 := ()
def tw10359618080037735508 := ()
def tw13316399399555020858 := ()
def tw5546282100590881115 := ()
def tw8966363359395832194 := ()
def tw6302184461211436618 := ()
def tw12234685427947233609 := ()
def tw5953695269935905537 := ()
def tw4058722937916826145 := ()
def tw3396824822750291348 := ()
def tw815424403629018183 := ()
def tw1535314056396450742 := ()
def tw4482942426842464812 := ()
def tw1568622086279926294 := ()
def tw17390187861410108084 := ()
def tw13850363648613679613 := ()
def tw8606344696298883920 := ()
def tw7265358325172801950 := ()
def tw18266851420832459969 := ()
def tw15676980403300148616 := ()
def tw13840274249484556832 := ()
def tw537630183005552717 := ()
def tw5407942195710228303 := ()
def tw154200907810573437 := ()
def tw16544600350237157268 := ()
def tw8729903242179857357 := ()
def tw10270109652081600249 := ()
def tw12238587664888701824 := ()
def tw13878056550216365415 := ()
def tw15086390925305422004 := ()
def tw17788197168791934142 := ()
def tw14944693787521461937 := ()
def tw5292998604951720778 := ()
def tw15582679602994676849 := ()
def tw13684023751038573089 := ()
def tw16135281641600033925 := ()
def tw17008036055677108016 := ()
def tw14107076316210086117 := ()
def tw12169543672519374356 := ()
def tw16409550230267348800 := ()
def tw4944758677006028904 := ()
def tw17798151331381727820 := ()
def tw7680485905875230320 := ()
def tw6985135254670047735 := ()
def tw1091851842448999818 := ()
def tw4762464524161985110 := ()
def tw11572998389991872514 := ()
def tw14257369023827161072 := ()
def tw683051869609592425 := ()
def tw11752354209383318787 := ()
def tw3880175265175209935 := ()
def tw13420224399265780150 := ()
def tw1468125885314267750 := ()
def tw13562430253637473915 := ()
def tw18253689163115642689 := ()
def tw1317404507695865110 := ()
def tw6526919572336473387 := ()
def tw6812819050108115357 := ()
def tw2085499214967186446 := ()
def tw590349637229109764 := ()
def tw13267193289185319404 := ()
def tw3850748408109285293 := ()
def tw16913058618126053664 := ()
def tw12399083691853998468 := ()
def tw18290047176685576211 := ()
def tw18053343304611343333 := ()
def tw2612636924334543041 := ()
def tw394619332076475591 := ()
def tw12463207635491940820 := ()
def tw9757182006704960057 := ()
def tw14264038966886357968 := ()
def tw12011796934288217015 := ()
def tw6063932026951214437 := ()
def tw1514227820265091637 := ()
def tw17854691143846382157 := ()
def tw17272238514789883690 := ()
def tw8790793742173521831 := ()
def tw6421127849322581107 := ()
def tw9394648257862662749 := ()
def tw6684312634117067159 := ()
def tw3467722253249150055 := ()
def tw11750599276707828270 := ()
def tw6763952482409519780 := ()
def tw4179585765270148291 := ()
def tw12035488320311954995 := ()
def tw1650135985515207825 := ()
def tw2687368507662022373 := ()
def tw16078765663896499443 := ()
def tw1633198286530399906 := ()
def tw4890621426106440761 := ()
def tw11404337676996682098 := ()
def tw4837572405024007834 := ()
def tw15110813086539984022 := ()
def tw6283553081089545028 := ()
def tw12573829064971504437 := ()
def tw10098893926116174779 := ()
def tw17746999328727578089 := ()
def tw17467525178156673401 := ()
def tw17614740489552329358 := ()
def tw9064781041685211676 := ()
def tw11586350548516806755 := ()
def tw18400083296024435646 := ()
def tw11584670986749741358 := ()
def tw1967619530975901805 := ()
def tw9356530066967157312 := ()
def tw13586744492773798961 := ()
def tw6730708340345681853 := ()
def tw6971316558233499357 := ()
def tw3578116079950010078 := ()
def tw14488245157307342506 := ()
def tw12213158049562055545 := ()
def tw12486490963601440155 := ()
def tw12217462537191469068 := ()
def tw4274145791412479224 := ()
def tw16720545845879536260 := ()
def tw8127735416880425889 := ()
def tw209300592974598889 := ()
def tw17653381110743401018 := ()
def tw11403809724983538328 := ()
def tw18195525220149000761 := ()
def tw2571558946265818007 := ()
def tw15956657349179881877 := ()
def tw11841745019275304277 := ()
def tw13864025397724214435 := ()
def tw4632063793706248199 := ()
def tw7127392638432266160 := ()
def tw6972847120617122422 := ()
def tw438374229446513134 := ()
def tw17649547789893042503 := ()
def tw14590122798594938144 := ()
def tw13412714767666434451 := ()
def tw12813029885098315552 := ()
def tw1557057946662830653 := ()
def tw454343226229033550 := ()
def tw409249745773537210 := ()
def tw4062093465870889669 := ()
def tw13196992612600664378 := ()
end PySem.W.Fast
namespace L2
open PySem PySem.Spec PyProof.Rows
noncomputable abbrev Key := Sum Int Str
noncomputable def Zdq : Key -> Value -> Bool
 | .inl k, v => Value.isInt k v
 | .inr x, v => Value.isStrOf x v
noncomputable def keyH (w : World) : Key -> Int
 | .inl k => hashInt k
 | .inr x => hashStr w x
theorem ZU : ∀ {k : Key} {v : Value}, Zdq k v = true -> (∃ i t, k = Sum.inl i /\ v = Value.int i t) \/ (∃ x t, k = Sum.inr x /\ v = Value.str x t)
 | .inl i, v, h => by
  obtain ⟨t, e⟩ := Value.isInt_shape (k := i) (v := v) h
  exact .inl ⟨i, t, rfl, e⟩
 | .inr x, v, h => by
  obtain ⟨t, e⟩ := Value.isStrOf_shape (x := x) (v := v) h
  exact .inr ⟨x, t, rfl, e⟩
theorem Zh4 (i : Int) (t : Tok) : Zdq (.inl i) (.int i t) = true := by simp [Zdq, Value.isInt]
theorem Zh5 (x : Str) (t : Tok) : Zdq (.inr x) (.str x t) = true := by simp [Zdq, Value.isStrOf]
theorem ZlF (a b : Int) : decide ((Sum.inl a : Key) = Sum.inl b) = (a == b) := by
 by_cases e : a = b
 . subst e; simp
 . have h : ¬ (Sum.inl a : Key) = Sum.inl b := fun q => e (Sum.inl.inj q)
   rw [decide_eq_false h]
   exact (beq_eq_false_iff_ne.mpr e).symm
theorem ZlG (a b : Str) : decide ((Sum.inr a : Key) = Sum.inr b) = decide (a = b) := by
 by_cases e : a = b
 . subst e; simp
 . have h : ¬ (Sum.inr a : Key) = Sum.inr b := fun q => e (Sum.inr.inj q)
   rw [decide_eq_false h, decide_eq_false e]
theorem ZlH (a : Int) (b : Str) : decide ((Sum.inl a : Key) = Sum.inr b) = false := decide_eq_false (fun q => nomatch q)
theorem ZlI (a : Str) (b : Int) : decide ((Sum.inr a : Key) = Sum.inl b) = false := decide_eq_false (fun q => nomatch q)
noncomputable def ZL (prog : Program) (w : World) : PySem.KeyKind prog w Key where
 is := Zdq
 hash := keyH w
 inj := fun v a b ha hb => by
  rcases ZU ha with ⟨i, t, rfl, rfl⟩ | ⟨x, t, rfl, rfl⟩
  . rcases ZU hb with ⟨j, u, rfl, e⟩ | ⟨y, u, rfl, e⟩
    . injection e with e1 _; rw [e1]
    . exact nomatch e
  . rcases ZU hb with ⟨j, u, rfl, e⟩ | ⟨y, u, rfl, e⟩
    . exact nomatch e
    . injection e with e1 _; rw [e1]
 byValue := fun k v h => by
  rcases ZU h with ⟨i, t, rfl, rfl⟩ | ⟨x, t, rfl, rfl⟩ <;> rfl
 pyHash := fun hv h => by
  rcases ZU hv with ⟨i, t, rfl, rfl⟩ | ⟨x, t, rfl, rfl⟩
  . exact wpAny_pyHash_int h
  . exact wpAny_pyHash_str h
 eqBool := fun hu hv h => by
  rcases ZU hu with ⟨i, t, rfl, rfl⟩ | ⟨x, t, rfl, rfl⟩
  . rcases ZU hv with ⟨j, u, rfl, rfl⟩ | ⟨y, u, rfl, rfl⟩
    . rw [ZlF] at h; exact wpAny_eqBool_int h
    . rw [ZlH] at h; exact SeqAt.EqAt.int_str i t y u _ _ _ _ h
  . rcases ZU hv with ⟨j, u, rfl, rfl⟩ | ⟨y, u, rfl, rfl⟩
    . rw [ZlI] at h; exact SeqAt.EqAt.str_int x t j u _ _ _ _ h
    . rw [ZlG] at h; exact wpAny_eqBool_str h
 «strs» := fun k x t v h => by
  rcases ZU h with ⟨i, u, rfl, e⟩ | ⟨y, u, rfl, e⟩
  . exact nomatch e
  . injection e with e1 _
    subst e1
    cases v <;> rfl
theorem Zgl (prog : Program) (w : World) (i : Int) (t : Tok) : (ZL prog w).is (.inl i) (.int i t) = true := Zh4 i t
theorem Zgm (prog : Program) (w : World) (x : Str) (t : Tok) : (ZL prog w).is (.inr x) (.str x t) = true := Zh5 x t
end L2
namespace L2
open PySem PySem.Spec PyProof.Rows
inductive V where
 | non | bl (b : Bool) | int (i : Int) | str (x : Str) | byt (b : Array UInt8) | flt (b : UInt64) | ref (a : Addr) | ty (n : String)
 deriving DecidableEq
def RelV : V -> Value -> Prop
 | .non, u => u = Value.none
 | .bl b, u => u = Value.bool b
 | .int i, u => ∃ t, u = Value.int i t
 | .str x, u => ∃ t, u = Value.str x t
 | .byt b, u => ∃ t, u = Value.bytes b t
 | .flt b, u => ∃ t, u = Value.float b t
 | .ref a, u => u = Value.ref a
 | .ty n, u => u = Value.type n
abbrev Vals : List V -> List Value -> Prop := Paired RelV
theorem Vals.length (r : Vals xs us) : xs.length = us.length := Paired.length r
theorem Vals.get : ∀ {xs : List V} {us : List Value} {i : Nat} {x : V}, Vals xs us -> xs[i]? = some x -> ∃ u, us[i]? = some u /\ RelV x u
 | _, _, _, _, .nil, e => by simp at e
 | _, _, 0, _, .cons r _, e => by simp at e; subst e; exact ⟨_, rfl, r⟩
 | _, _, i + 1, x, .cons _ t, e => by
  obtain ⟨u, h1, h2⟩ := Vals.get (i := i) (x := x) t (by simpa using e)
  exact ⟨u, by simpa using h1, h2⟩
theorem Vals.set (r : RelV x u) : ∀ {xs : List V} {us : List Value} (i : Nat), Vals xs us -> Vals (xs.set i x) (us.set i u)
 | _, _, _, .nil => .nil
 | _, _, 0, .cons _ t => .cons r t
 | _, _, i + 1, .cons q t => .cons q (Vals.set r i t)
theorem Vals.append : ∀ {xs ys : List V} {us ws : List Value}, Vals xs us -> Vals ys ws -> Vals (xs ++ ys) (us ++ ws)
 | _, _, _, _, .nil, s => s
 | _, _, _, _, .cons r t, s => .cons r (Vals.append t s)
theorem Vals.take : ∀ {xs : List V} {us : List Value} (n : Nat), Vals xs us -> Vals (xs.take n) (us.take n)
 | _, _, 0, _ => .nil
 | _, _, _ + 1, .nil => .nil
 | _, _, n + 1, .cons r t => .cons r (Vals.take n t)
theorem Vals.drop : ∀ {xs : List V} {us : List Value} (n : Nat), Vals xs us -> Vals (xs.drop n) (us.drop n)
 | _, _, 0, r => r
 | _, _, _ + 1, .nil => .nil
 | _, _, n + 1, .cons _ t => Vals.drop n t
def RelO : Option V -> Option Value -> Prop
 | some v, some u => RelV v u
 | none, none => True
 | _, _ => False
def KV {κ : Type} : List (κ × V) -> List (κ × Value) -> Prop := Paired fun (p : κ × V) (q : κ × Value) => p.1 = q.1 /\ RelV p.2 q.2
noncomputable def kV : Key -> V
 | .inl i => .int i
 | .inr x => .str x
inductive HO where
 | lst (xs : List V)
 | tup (xs : List V)
 | dK (kvs : List (Key × V)) | dT (kvs : List (List Key × V))
 | set (S : Int -> Bool) (n : Nat)
 | ins (C dx : Addr) (fs : List (Str × V))
 | own (x : Addr)
 | xd (fs : List (Str × V))
 | met (f x : Addr)
 | rng (lo hi : Int)
 | frz (o : Obj) (u : HO)
 | tbl (ps : Array Value)
 | ext (φ : Heap -> Prop)
 | exc (C : Addr) (dx : Option Addr) (fr : Bool) (fs : List (Str × V))
noncomputable abbrev Hp := Addr -> Option HO
noncomputable def upd (H : Hp) (a : Addr) (o : HO) : Hp := fun b => if b = a then some o else H b
theorem Zi : upd H a o a = some o := by unfold upd; rw [if_pos rfl]
theorem Zj (h : b ≠ a) : upd H a o b = H b := by unfold upd; rw [if_neg h]
theorem ZnW {H : Hp} {a b : Addr} {o u : HO} (h : H a = some o) (h' : H b = some u) (d : o ≠ u) : a ≠ b := by
 intro e; subst e; rw [h] at h'; exact d (Option.some.inj h')
theorem ZV {H : Hp} {a b : Addr} {o : HO} (h : H a = some o) (h' : H b = none) : a ≠ b := by
 intro e; subst e; rw [h] at h'; cases h'
section
variable (P : Program) (w : World)
def Z8 (H : Hp) (h : Heap) (a : Addr) : HO -> Prop
 | .lst xs => xs.length <= sizeLine /\ ∃ (its : List Value) (n : Nat), Vals xs its /\ h.get? a = some { cls := .type "list", data := .seq its.toArray n }
 | .tup xs => xs.length <= sizeLine /\ ∃ its : List Value, Vals xs its /\ IsTup h a its.toArray
 | .dK kvs => kvs.length <= sizeLine /\ (a == sysModules) = false /\ ∃ vs, KV kvs vs /\ h.DictOf (ZL P w) a vs
 | .dT kvs => kvs.length <= sizeLine /\ (a == sysModules) = false /\ ∃ xs : List (List Key × Addr × Value),
  Paired (fun (p : List Key × V) (q : List Key × Addr × Value) => p.1 = q.1 /\ H q.2.1 = some (.tup (p.1.map kV)) /\ RelV p.2 q.2.2) kvs xs /\
  ∃ o es ep, h.get? a = some o /\ o.ExactDict /\ o.data = .dict es ep /\ es.toList = xs.map (entryOfKey (tupleKind (ZL P w))) /\ (xs.map (·.1)).Nodup
 | .set S n => h.SetOf (intKind P w) a S n
 | .ins C dx fs => H dx = some (.own a) /\ fs.length <= 1000 /\ dx ≠ a /\ h.get? a = some (PySem.W.instObj C dx) /\
  ∃ mA, h.Ns1 dx mA /\ (∀ f, RelO (fs.lookup f) (mA f)) /\ PySem.Within mA (fs.map (·.1))
 | .own _ => ∃ o, h.get? a = some o
 | .xd fs => ∃ mA, h.Ns1 a mA /\ ∀ f, RelO (fs.lookup f) (mA f)
 | .rng lo hi => ∃ t u v, h.get? a = some { cls := .type "range", data := .fields #[.int lo t, .int hi u, .int 1 v] }
 | .frz o u => h.get? a = some o /\ Z8 H h a u
 | .tbl ps => h.get? a = some { cls := .none, data := .fields ps }
 | .met f x => h.get? a = some (PySem.W.methodObj (.ref f) (.ref x))
 | .exc C dx fr fs => fs.length <= 1000 /\ (∃ o vs, h.get? a = some o /\ o.cls = .ref C /\ o.dict = dx /\ o.data = .fields vs /\ vs.size = 6 /\ (fr = true -> vs[1]? = some .none)) /\
  match dx with
  | none => fs = []
  | some d => H d = some (.own a) /\ d ≠ a /\ ∃ mA, h.Ns1 d mA /\ (∀ f, RelO (fs.lookup f) (mA f)) /\ PySem.Within mA (fs.map (·.1))
 | .ext φ => φ h /\ (∃ o, h.get? a = some o) /\ ∀ h1 h2 : Heap, φ h1 -> (∀ o, h1.get? a = some o -> h2.get? a = some o) -> φ h2
def HOk (H : Hp) (h : Heap) : Prop := ∀ a o, H a = some o -> Z8 P w H h a o
end
section
variable {P : Program} {w : World} {H H' : Hp} {h h' : Heap} {a : Addr} {o : HO}
theorem Z8.lt (x : Z8 P w H h a o) : a < h.objs.size := by
 cases o with
 | lst xs => obtain ⟨_, _, _, _, e⟩ := x; exact Heap.lt_size e
 | tup xs => obtain ⟨_, _, _, p⟩ := x; exact p.lt
 | dK kvs => obtain ⟨_, _, _, _, o, _, _, e, _⟩ := x; exact Heap.lt_size e
 | dT kvs => obtain ⟨_, _, _, _, o, _, _, e, _⟩ := x; exact Heap.lt_size e
 | set S n => obtain ⟨o, _, _, _, e, _⟩ := x; exact Heap.lt_size e
 | ins C dx fs => obtain ⟨_, _, _, e, _⟩ := x; exact Heap.lt_size e
 | own y => obtain ⟨_, e⟩ := x; exact Heap.lt_size e
 | xd fs => obtain ⟨_, ⟨_, _, _, e, _⟩, _⟩ := x; exact Heap.lt_size e
 | rng lo hi => obtain ⟨_, _, _, e⟩ := x; exact Heap.lt_size e
 | frz ob u => obtain ⟨e, _⟩ := x; exact Heap.lt_size e
 | tbl ps => exact Heap.lt_size (show h.get? a = some _ from x)
 | met f y => exact Heap.lt_size (show h.get? a = some _ from x)
 | ext φ => obtain ⟨_, ⟨_, e⟩, _⟩ := x; exact Heap.lt_size e
 | exc C dx fr fs => obtain ⟨_, ⟨_, _, e, _⟩, _⟩ := x; exact Heap.lt_size e
theorem Paired.mapP : ∀ {l₁ : List α} {l₂ : List β}, Paired F l₁ l₂ -> (∀ a b, F a b -> G a b) -> Paired G l₁ l₂
 | _, _, .nil, _ => .nil
 | _, _, .cons r t, f => .cons (f _ _ r) (Paired.mapP t f)
theorem Z8.stay (x : Z8 P w H h a o) (k : ∀ b u, (b = a \/ H b = some (.own a)) -> h.get? b = some u -> h'.get? b = some u)
 (ho : ∀ b, H b = some (.own a) -> H' b = some (.own a)) (ht : ∀ b xs, H b = some (.tup xs) -> H' b = some (.tup xs)) : Z8 P w H' h' a o := by
 induction o with
 | lst xs => obtain ⟨z, its, n, r, e⟩ := x; exact ⟨z, its, n, r, k _ _ (.inl rfl) e⟩
 | tup xs => obtain ⟨z, its, r, ob, e, c⟩ := x; exact ⟨z, its, r, ob, k _ _ (.inl rfl) e, c⟩
 | dK kvs => obtain ⟨z, y, vs, r, ob, es, ep, e, c⟩ := x; exact ⟨z, y, vs, r, ob, es, ep, k _ _ (.inl rfl) e, c⟩
 | dT kvs =>
  obtain ⟨z, y, xs, r, ob, es, ep, e, c⟩ := x
  exact ⟨z, y, xs, Paired.mapP r fun p q z => ⟨z.1, ht _ _ z.2.1, z.2.2⟩, ob, es, ep, k _ _ (.inl rfl) e, c⟩
 | set S n => obtain ⟨ob, es, ep, t, e, c⟩ := x; exact ⟨ob, es, ep, t, k _ _ (.inl rfl) e, c⟩
 | ins C dx fs =>
  obtain ⟨d, z, ne, e, mA, ⟨od, es, ep, e2, c⟩, r⟩ := x
  exact ⟨ho _ d, z, ne, k _ _ (.inl rfl) e, mA, ⟨od, es, ep, k _ _ (.inr d) e2, c⟩, r⟩
 | own y => obtain ⟨ob, e⟩ := x; exact ⟨ob, k _ _ (.inl rfl) e⟩
 | xd fs => obtain ⟨mA, ⟨od, es, ep, e, c⟩, r⟩ := x; exact ⟨mA, ⟨od, es, ep, k _ _ (.inl rfl) e, c⟩, r⟩
 | rng lo hi => obtain ⟨t, u, v, e⟩ := x; exact ⟨t, u, v, k _ _ (.inl rfl) e⟩
 | frz ob u ih => obtain ⟨e, q⟩ := x; exact ⟨k _ _ (.inl rfl) e, ih q⟩
 | tbl ps =>
  have e : h.get? a = some { cls := .none, data := .fields ps } := x
  show h'.get? a = some { cls := .none, data := .fields ps }
  exact k a _ (.inl rfl) e
 | met f y =>
  have e : h.get? a = some (PySem.W.methodObj (.ref f) (.ref y)) := x
  show h'.get? a = some (PySem.W.methodObj (.ref f) (.ref y))
  exact k a _ (.inl rfl) e
 | ext φ => obtain ⟨p, ⟨o, e⟩, st⟩ := x; exact ⟨st _ _ p fun o q => k _ _ (.inl rfl) q, ⟨o, k _ _ (.inl rfl) e⟩, st⟩
 | exc C dx fr fs =>
  obtain ⟨z, ⟨o, vs, e, q⟩, r⟩ := x
  refine ⟨z, ⟨o, vs, k _ _ (.inl rfl) e, q⟩, ?_⟩
  cases dx with
  | none => exact r
  | some d =>
   obtain ⟨r1, r2, mA, ⟨od, es, ep, e2, c⟩, r3⟩ := r
   exact ⟨ho _ r1, r2, mA, ⟨od, es, ep, k _ _ (.inr r1) e2, c⟩, r3⟩
theorem HOk.lt (x : HOk P w H h) (e : H a = some o) : a < h.objs.size := (x a o e).lt
theorem HOk.fresh (x : HOk P w H h) (e : h.objs.size <= a) : H a = none := by
 cases q : H a with
 | none => rfl
 | some u => exact absurd (Nat.lt_of_lt_of_le (x.lt q) e) (Nat.lt_irrefl _)
theorem HOk.kept (x : HOk P w H h) (k : ∀ b u, h.get? b = some u -> h'.get? b = some u) : HOk P w H h' := fun a o e =>
 (x a o e).stay (fun b u _ q => k b u q) (fun _ q => q) fun _ _ q => q
theorem HOk.laid (x : HOk P w H h) (k : ∀ b u, h.get? b = some u -> h'.get? b = some u) (hp : h.objs.size <= a) (new : Z8 P w (upd H a o) h' a o) : HOk P w (upd H a o) h' := fun b u e => by
 have hn := x.fresh hp
 by_cases hb : b = a
 . subst hb; rw [Zi] at e; cases e; exact new
 . rw [Zj hb] at e
   exact (x b u e).stay (fun c v _ q => k c v q) (fun c q => by rw [Zj (ZV q hn)]; exact q) fun c xs q => by rw [Zj (ZV q hn)]; exact q
end
def Rd (H : Hp) (a : Addr) (u : HO) : Prop := H a = some u \/ ∃ o, H a = some (.frz o u)
theorem Rd.ok (r : Rd H a u) (x : HOk P w H h) : Z8 P w H h a u := by
 rcases r with r | ⟨o, r⟩
 . exact x a u r
 . obtain ⟨_, q⟩ := x a _ r
   exact q
def Mut : Option HO -> Prop
 | some (.lst _) => True
 | some (.dK _) => True
 | some (.dT _) => True
 | some (.set _ _) => True
 | some (.ins _ _ _) => True
 | some (.ext _) => True
 | some (.exc _ _ _ _) => True
 | _ => False
section
theorem HOk.write (ok : HOk P w H h) (mu : Mut (H x)) (he : e = x \/ H e = some (.own x)) (k : ∀ b u, b ≠ e -> h.get? b = some u -> h'.get? b = some u) (heo : ∃ u, h'.get? e = some u)
 (new : Z8 P w (upd H x o') h' x o') : HOk P w (upd H x o') h' := fun b u q => by
 have nown : ∀ c y, H c = some (.own y) -> c ≠ x := fun c y r z => by subst z; rw [r] at mu; exact mu
 have ntup : ∀ c xs, H c = some (.tup xs) -> c ≠ x := fun c xs r z => by subst z; rw [r] at mu; exact mu
 by_cases hb : b = x
 . subst hb; rw [Zi] at q; cases q; exact new
 . rw [Zj hb] at q
   by_cases hbe : b = e
   . have q' : H b = some (.own x) := by
      rcases he with z | z
      . exact absurd (hbe.trans z) hb
      . rw [hbe]; exact z
     rw [q] at q'; cases q'
     obtain ⟨v, hv⟩ := heo
     exact ⟨v, by rw [hbe]; exact hv⟩
   . refine (ok b u q).stay (fun c v hc r => k c v ?_ r) (fun c r => by rw [Zj (nown c b r)]; exact r) fun c xs r => by rw [Zj (ntup c xs r)]; exact r
     rcases hc with rfl | hc
     . exact hbe
     . rintro rfl
       rcases he with z | z
       . exact nown c b hc z
       . rw [hc] at z; cases z; exact hb rfl
end
structure Un (fs ex : List Addr) (H H' : Hp) (h h' : Heap) : Prop where
 keep : ∀ b o, h.get? b = some o -> H b = none -> b ∉ fs -> b ∉ ex -> h'.get? b = some o
 slot : ∀ b o, h.get? b = some o -> H b = none -> b ∈ fs -> b ∉ ex -> ∃ sl, h'.get? b = some { o with slots := sl }
 free : ∀ b o, h.get? b = some o -> H b = none -> b ∉ ex -> H' b = none
 there : ∀ b o, h.get? b = some o -> b ∉ ex -> ∃ o', h'.get? b = some o'
 tups : ∀ b xs, H b = some (.tup xs) -> H' b = some (.tup xs)
 frzs : ∀ b o u, H b = some (.frz o u) -> H' b = some (.frz o u)
 tbls : ∀ b ps, H b = some (.tbl ps) -> ∃ more, H' b = some (.tbl (ps ++ more))
section
variable {fs fs' ex ex' : List Addr} {H H1 H2 : Hp} {h h1 h2 h' : Heap} {a x e : Addr} {o : HO}
theorem Un.any (u : Un fs ex H H1 h h1) (q : h.get? b = some ob) (n : H b = none) (hx : b ∉ ex) : ∃ sl, h1.get? b = some { ob with slots := sl } := by
 by_cases hb : b ∈ fs
 . exact u.slot b ob q n hb hx
 . exact ⟨ob.slots, u.keep b ob q n hb hx⟩
theorem Un.kept (k : ∀ b u, h.get? b = some u -> h'.get? b = some u) : Un fs ex H H h h' :=
 ⟨fun b ob q _ _ _ => k b ob q, fun b ob q _ _ _ => ⟨ob.slots, k b ob q⟩, fun _ _ _ n _ => n, fun b ob q _ => ⟨ob, k b ob q⟩, fun _ _ q => q, fun _ _ _ q => q, fun _ ps q => ⟨#[], by rw [q]; simp⟩⟩
theorem Un.refl : Un fs ex H H h h := Un.kept fun _ _ q => q
theorem Un.laid (k : ∀ b u, h.get? b = some u -> h'.get? b = some u) (hp : h.objs.size <= a) (hn : H a = none) : Un fs ex H (upd H a o) h h' where
 keep := fun b u q _ _ _ => k b u q
 slot := fun b u q _ _ _ => ⟨u.slots, k b u q⟩
 free := fun b u q n _ => by rw [Zj (Nat.ne_of_lt (Nat.lt_of_lt_of_le (Heap.lt_size q) hp))]; exact n
 there := fun b u q _ => ⟨u, k b u q⟩
 tups := fun b xs q => by rw [Zj (ZV q hn)]; exact q
 frzs := fun b u xs q => by rw [Zj (ZV q hn)]; exact q
 tbls := fun b ps q => ⟨#[], by rw [Zj (ZV q hn), q]; simp⟩
theorem Un.write (mu : Mut (H x)) (he : e = x \/ H e = some (.own x)) (k : ∀ b u, b ≠ e -> h.get? b = some u -> h'.get? b = some u) (heo : ∃ u, h'.get? e = some u) : Un fs ex H (upd H x o) h h' := by
 have hx : ∀ b, H b = none -> b ≠ x := fun b n z => by subst z; rw [n] at mu; exact mu
 have hb : ∀ b, H b = none -> b ≠ e := fun b n z => by
  subst z
  rcases he with r | r
  . exact hx b n r
  . rw [n] at r; cases r
 have hm : ∀ b u, H b = some u -> ¬ Mut (some u) -> b ≠ x := fun b u q nm z => by subst z; rw [q] at mu; exact nm mu
 refine ⟨fun b u q n _ _ => k b u (hb b n) q, fun b u q n _ _ => ⟨u.slots, k b u (hb b n) q⟩, fun b u q n _ => by rw [Zj (hx b n)]; exact n, fun b u q _ => ?_,
  fun b xs q => by rw [Zj (hm b _ q fun z => z)]; exact q, fun b u xs q => by rw [Zj (hm b _ q fun z => z)]; exact q, fun b ps q => ⟨#[], by rw [Zj (hm b _ q fun z => z), q]; simp⟩⟩
 by_cases hbe : b = e
 . subst hbe; exact heo
 . exact ⟨u, k b u hbe q⟩
end
noncomputable def trk (h : Heap) (H : Hp) : List Addr := (List.range h.objs.size).filter fun a => (H a).isSome
noncomputable def hidT (h : Heap) (H : Hp) : Heap := PySem.W.hideAll h (trk h H)
theorem Zh6 (h : Heap) (H : Hp) : (hidT h H).objs.size = h.objs.size := PySem.W.hideAll_size _ _
theorem Zi1 (e : h.get? b = some o) (n : H b = none) : (hidT h H).get? b = some o :=
 PySem.W.hideAll_get _ e fun hm => by
  have q : (H b).isSome = true := (List.mem_filter.mp hm).2
  rw [n] at q; simp at q
theorem Zkc (e : (hidT h H).get? b = some o) : h.get? b = some o /\ H b = none := by
 have e' : h.get? b = some o := PySem.W.of_hideAll (trk h H) e
 refine ⟨e', ?_⟩
 cases q : H b with
 | none => rfl
 | some x =>
  have hm : b ∈ trk h H := List.mem_filter.mpr ⟨List.mem_range.mpr (Heap.lt_size e'), by simp [q]⟩
  have z : (hidT h H).get? b = none := PySem.W.hideAll_none (trk h H) hm
  rw [z] at e; cases e
noncomputable def Zkd (g h : Heap) (L : Addr) : List (Addr × Obj) := (List.range h.objs.size).filterMap fun a => if a = L \/ (g.get? a).isSome = true then none else (h.get? a).map fun o => (a, o)
noncomputable def rest (g h : Heap) (L d : Addr) : List (Addr × Obj) := (Zkd g h L).filter fun p => decide (p.1 ≠ d)
end L2
namespace L2
open PySem PySem.Spec PyProof.Rows
structure Mod (K : Fg) (mg : Str -> Option Value) (base : Heap) : Prop where
 kin : K.In base
 glob : base.Ns mainGlobals mg
 blt : ∃ mb, base.Ns builtinsNs mb /\ ∀ x : Str, x ≠ "__name__" -> mb x = bootBuiltins x
 nolimit : base.NoLimit
structure Cx where
 prog : Program
 w : World
 K : Fg
 mg : Str -> Option Value
 base : Heap
 A : Around
 N : List Str
 s₀ : Shared
 H₀ : Hp
 env : Env
 outer : List Env
 stack : List Env
 ex : List Addr
 fn : Str -> Bool
 calm : Bool
 pn : List (Addr × Obj)
 xe : Value -> Shared -> Prop
noncomputable def frs (l : List Env) : List Addr := l.filterMap (·.frame)
noncomputable abbrev Cx.fs (X : Cx) : List Addr := frs X.outer
def Vis (sc : Scope) (x : Str) : Prop := sc.names.lookup x = some .local \/ sc.names.lookup x = some .cell \/ sc.names.lookup x = some .free
def Loc (sc : Scope) (x : Str) : Prop := sc.names.lookup x = some .local \/ sc.names.lookup x = some .cell
def Look (env : Env) (h : Heap) (m : Str -> Option Value) (x : Str) (u : Value) : Prop :=
 (env.kindOf x = some .local /\ m x = some u) \/ ((env.kindOf x = some .cell \/ env.kindOf x = some .free) /\ ∃ c, env.cells.lookup x = some c /\ h.IsCell c (some u))
structure Cx.Ok (X : Cx) : Prop where
 mod : Mod X.K X.mg X.base
 kind : X.env.scope.kind = .function
 glob : X.env.globals = mainGlobals
 blt : X.env.builtins = builtinsNs
 above : X.s₀.heap.objs.size <= X.env.locals
 inj : ∀ x y c, X.env.cells.lookup x = some c -> X.env.cells.lookup y = some c -> x = y
 has : ∀ x, (X.env.kindOf x = some .cell \/ X.env.kindOf x = some .free) -> ∃ c, X.env.cells.lookup x = some c
 cab : ∀ x c, X.fn x = true -> X.env.cells.lookup x = some c -> X.s₀.heap.objs.size <= c
 hd : X.calm = true -> X.A.handled = none
 frames : X.A.frames = some X.stack
 stk : X.stack = X.outer \/ (X.stack = X.env :: X.outer /\ X.env.frame = some X.env.locals)
 exf : ∀ b ∈ X.ex, b ≠ X.env.locals /\ ∀ x c, X.env.cells.lookup x = some c -> c ≠ b
 bs : ∀ b o, X.base.get? b = some o -> X.s₀.heap.get? b = some o /\ X.H₀ b = none
 bsz : X.base.objs.size <= X.s₀.heap.objs.size
 noex : ∀ b o, X.base.get? b = some o -> b ∉ X.ex
 exfs : ∀ b ∈ X.ex, b ∉ X.fs
 funs : X.s₀.heap.FunFrames X.base X.outer
 frf : ∀ b ∈ X.fs, X.H₀ b = none
structure Inv (X : Cx) (pins : List (Addr × Obj)) (σ : List (Option V)) (H : Hp) (s : Shared) : Prop where
 ok : X.Ok
 os : s.os = X.s₀.os
 bare : AllBare s.gens
 base : Un X.fs X.ex X.H₀ H X.s₀.heap s.heap
 loc : ∃ m, s.heap.Ns X.env.locals m /\ ∀ (i : Nat) (x : Str) (v : V), X.N[i]? = some x -> σ[i]? = some (some v) -> Vis X.env.scope x -> ∃ u, RelV v u /\ Look X.env s.heap m x u
 cell : ∀ x c, X.env.cells.lookup x = some c -> ∃ v, s.heap.IsCell c v
 free : H X.env.locals = none
 freeC : ∀ x c, X.env.cells.lookup x = some c -> H c = none
 pin : ∀ p ∈ X.pn ++ pins, s.heap.get? p.1 = some p.2 /\ H p.1 = none /\ p.1 ≠ X.env.locals /\ p.1 ∉ X.fs /\ ∀ v, p.2.data ≠ .cell v
 hok : HOk X.prog X.w H s.heap
 len : σ.length = X.N.length
section
variable {X : Cx} {pins : List (Addr × Obj)} {σ : List (Option V)} {H H' : Hp} {s : Shared} {h' : Heap}
theorem Cx.Ok.nofr (ok : X.Ok) (e : X.base.get? b = some o) : b ∉ X.fs := fun hb => by
 have := (ok.funs.mem hb).1
 rw [e] at this; cases this
theorem Inv.bs (I : Inv X pins σ H s) : ∀ b o, X.base.get? b = some o -> s.heap.get? b = some o /\ H b = none := fun b o e =>
 ⟨I.base.keep b o (I.ok.bs b o e).1 (I.ok.bs b o e).2 (I.ok.nofr e) (I.ok.noex b o e), I.base.free b o (I.ok.bs b o e).1 (I.ok.bs b o e).2 (I.ok.noex b o e)⟩
theorem Inv.bk (I : Inv X pins σ H s) : ∀ b o, X.base.get? b = some o -> s.heap.get? b = some o := fun b o e => (I.bs b o e).1
theorem Inv.mod (I : Inv X pins σ H s) : Mod X.K X.mg X.base := I.ok.mod
theorem Inv.kIn (I : Inv X pins σ H s) : X.K.In s.heap := I.ok.mod.kin.keeps I.bk
theorem Inv.lt (I : Inv X pins σ H s) : X.env.locals < s.heap.objs.size := let ⟨_, hn, _⟩ := I.loc; hn.lt
theorem Inv.sz (I : Inv X pins σ H s) : X.s₀.heap.objs.size <= s.heap.objs.size := Nat.le_trans I.ok.above (Nat.le_of_lt I.lt)
theorem Inv.nofs (I : Inv X pins σ H s) (h : s.heap.objs.size <= a) : a ∉ X.fs := fun hb => by
 obtain ⟨_, o, ho, _⟩ := I.ok.funs.mem hb
 exact absurd (Nat.lt_of_lt_of_le (Heap.lt_size ho) (Nat.le_trans I.sz h)) (Nat.lt_irrefl _)
theorem Inv.cne (I : Inv X pins σ H s) : ∀ x c, X.env.cells.lookup x = some c -> c ≠ X.env.locals := fun x c e z => by
 obtain ⟨v, o, ho, hd⟩ := I.cell x c e
 obtain ⟨m, ⟨o', es, ep, ho', hd', _⟩, _⟩ := I.loc
 rw [z, ho'] at ho; cases ho; rw [hd'] at hd; cases hd
theorem Inv.funs (I : Inv X pins σ H s) : s.heap.FunFrames X.base X.outer := by
 have all : ∀ (l : List Env), (∀ b ∈ frs l, b ∈ X.fs) -> X.s₀.heap.FunFrames X.base l -> s.heap.FunFrames X.base l := by
  intro l
  induction l with
  | nil => intro _ _; trivial
  | cons env r ih =>
   intro hs hl
   obtain ⟨hk, ⟨L, o, hf, hn, ho, hd⟩, hr⟩ := hl
   have hL : L ∈ X.fs := hs L (by unfold frs; rw [List.filterMap_cons, hf]; exact List.mem_cons_self)
   obtain ⟨sl, e⟩ := I.base.slot L o ho (I.ok.frf L hL) hL fun z => I.ok.exfs L z hL
   exact ⟨hk, ⟨L, _, hf, hn, e, hd⟩, ih (fun b hb => hs b (by unfold frs; rw [List.filterMap_cons, hf]; exact List.mem_cons_of_mem _ hb)) hr⟩
 exact all X.outer (fun _ hb => hb) I.ok.funs
theorem Inv.stack (I : Inv X pins σ H s) : s.heap.FunFrames X.base X.stack := by
 rcases I.ok.stk with e | ⟨e, hf⟩
 . rw [e]; exact I.funs
 . rw [e]
   obtain ⟨m, hn, _⟩ := I.loc
   refine .cons (by rw [I.ok.kind]; decide) hf hn ?_ I.funs
   exact Heap.get?_none_of_le (Nat.le_trans I.ok.bsz I.ok.above)
theorem Inv.stkSub (I : Inv X pins σ H s) : ∀ b ∈ frs X.stack, b ∈ X.env.locals :: X.fs := fun b hb => by
 rcases I.ok.stk with e | ⟨e, hf⟩
 . rw [e] at hb; exact List.mem_cons_of_mem _ hb
 . rw [e] at hb
   unfold frs at hb
   rw [List.filterMap_cons, hf] at hb
   exact hb
theorem Inv.stkFree (I : Inv X pins σ H s) : ∀ b ∈ frs X.stack, H b = none := fun b hb => by
 rcases List.mem_cons.mp (I.stkSub b hb) with e | hb
 . rw [e]; exact I.free
 . obtain ⟨_, o, ho, _⟩ := I.ok.funs.mem hb
   exact I.base.free b o ho (I.ok.frf b hb) fun z => I.ok.exfs b z hb
theorem Inv.step {g' : Array GenState} {t' : Nat} {d' : Drawn} {ch : List Addr} (I : Inv X pins σ H s)
 (hch : ∀ b ∈ ch, (b ∈ X.ex \/ X.s₀.heap.objs.size <= b) /\ b ≠ X.env.locals /\ (∀ x c, X.env.cells.lookup x = some c -> c ≠ b) /\ ∀ p ∈ X.pn ++ pins, p.1 ≠ b)
 (keep : ∀ b o, b ≠ X.env.locals -> b ∉ X.fs -> b ∉ ch -> s.heap.get? b = some o -> H b = none -> h'.get? b = some o)
 (slot : ∀ b o, b ≠ X.env.locals -> b ∈ X.fs -> b ∉ ch -> s.heap.get? b = some o -> H b = none -> ∃ sl, h'.get? b = some { o with slots := sl }) (free : ∀ b o, b ∉ ch -> s.heap.get? b = some o -> H b = none -> H' b = none)
 (there : ∀ b o, b ∉ ch -> s.heap.get? b = some o -> ∃ o', h'.get? b = some o')
 (tups : ∀ b xs, H b = some (.tup xs) -> H' b = some (.tup xs)) (frzs : ∀ b o u, H b = some (.frz o u) -> H' b = some (.frz o u)) (tbls : ∀ b ps, H b = some (.tbl ps) -> ∃ more, H' b = some (.tbl (ps ++ more)))
 (ns : ∀ m, s.heap.Ns X.env.locals m -> h'.Ns X.env.locals m) (hok : HOk X.prog X.w H' h') (hg : AllBare g') :
 Inv X pins σ H' { s with heap := h', gens := g', drawn := d', toks := t' } := by
 have neL : ∀ b o, X.s₀.heap.get? b = some o -> b ≠ X.env.locals := fun b o e => Nat.ne_of_lt (Nat.lt_of_lt_of_le (Heap.lt_size e) I.ok.above)
 have neC : ∀ b o, X.s₀.heap.get? b = some o -> b ∉ X.ex -> b ∉ ch := fun b o e hx hb => by
  rcases (hch b hb).1 with z | z
  . exact hx z
  . exact absurd (Nat.lt_of_lt_of_le (Heap.lt_size e) z) (Nat.lt_irrefl _)
 have cellK : ∀ x c, X.env.cells.lookup x = some c -> ∀ v, s.heap.IsCell c v -> h'.IsCell c v := fun x c e v z0 => by
  obtain ⟨o, ho, hd⟩ := z0
  have nch : c ∉ ch := fun z => (hch c z).2.2.1 x c e rfl
  by_cases hc : c ∈ X.fs
  . obtain ⟨sl, q⟩ := slot c o (I.cne x c e) hc nch ho (I.freeC x c e)
    exact ⟨_, q, hd⟩
  . exact ⟨o, keep c o (I.cne x c e) hc nch ho (I.freeC x c e), hd⟩
 refine ⟨I.ok, I.os, hg, ⟨fun b o e n hb hx => ?_, fun b o e n hb hx => ?_, fun b o e n hx => ?_, fun b o e hx => ?_, fun b xs e => tups b xs (I.base.tups b xs e), fun b o xs e => frzs b o xs (I.base.frzs b o xs e), fun b ps e => ?_⟩, ?_, fun x c e => ?_, ?_, fun x c e => ?_, fun p hp => ?_, hok, I.len⟩
 . exact keep b o (neL b o e) hb (neC b o e hx) (I.base.keep b o e n hb hx) (I.base.free b o e n hx)
 . obtain ⟨sl, e1⟩ := I.base.slot b o e n hb hx
   obtain ⟨sl', e2⟩ := slot b _ (neL b o e) hb (neC b o e hx) e1 (I.base.free b o e n hx)
   exact ⟨sl', e2⟩
 . obtain ⟨o', e1⟩ := I.base.there b o e hx
   exact free b o' (neC b o e hx) e1 (I.base.free b o e n hx)
 . obtain ⟨o', e1⟩ := I.base.there b o e hx
   exact there b o' (neC b o e hx) e1
 . obtain ⟨m1, e1⟩ := I.base.tbls b ps e
   obtain ⟨m2, e2⟩ := tbls b _ e1
   exact ⟨m1 ++ m2, by rw [e2, Array.append_assoc]⟩
 . obtain ⟨m, hn, hl⟩ := I.loc
   refine ⟨m, ns m hn, fun i x v e1 e2 e3 => ?_⟩
   obtain ⟨u, r, l⟩ := hl i x v e1 e2 e3
   refine ⟨u, r, ?_⟩
   rcases l with l | ⟨k, c, e, z⟩
   . exact .inl l
   . exact .inr ⟨k, c, e, cellK x c e _ z⟩
 . obtain ⟨v, z⟩ := I.cell x c e
   exact ⟨v, cellK x c e v z⟩
 . obtain ⟨m, ⟨o, _, _, ho, _⟩, _⟩ := I.loc
   exact free _ o (fun z => (hch _ z).2.1 rfl) ho I.free
 . obtain ⟨v, o, ho, hd⟩ := I.cell x c e
   exact free c o (fun z => (hch c z).2.2.1 x c e rfl) ho (I.freeC x c e)
 . obtain ⟨e, n, ne, nf, d⟩ := I.pin p hp
   have nch : p.1 ∉ ch := fun z => (hch p.1 z).2.2.2 p hp rfl
   exact ⟨keep p.1 p.2 ne nf nch e n, free p.1 p.2 nch e n, ne, nf, d⟩
theorem Inv.un {t' : Nat} (I : Inv X pins σ H s) (u : Un X.fs [] H H' s.heap h') (hok : HOk X.prog X.w H' h') : Inv X pins σ H' { s with heap := h', toks := t' } := by
 obtain ⟨m, ⟨o, es, ep, ho, r⟩, _⟩ := id I.loc
 obtain ⟨sl, hL⟩ := u.any ho I.free (by simp)
 exact I.step (g' := s.gens) (d' := s.drawn) (ch := []) (fun _ z => nomatch z) (fun b o _ hb _ e n => u.keep b o e n hb (by simp)) (fun b o _ hb _ e n => u.slot b o e n hb (by simp)) (fun b o _ e n => u.free b o e n (by simp)) (fun b o _ e => u.there b o e (by simp)) u.tups u.frzs u.tbls (fun m' hm => by
  obtain ⟨o', es', ep', ho', r'⟩ := hm
  rw [ho] at ho'; cases ho'
  exact ⟨_, es', ep', hL, r'⟩) hok I.bare
theorem Inv.call {g' : Array GenState} {t' : Nat} {d' : Drawn} {ch : List Addr} (I : Inv X pins σ H s) (u : Un (frs X.stack) ch H H' s.heap h') (hok : HOk X.prog X.w H' h') (hg : AllBare g')
 (hch : ∀ b ∈ ch, (b ∈ X.ex \/ X.s₀.heap.objs.size <= b) /\ b ≠ X.env.locals /\ (∀ x c, X.env.cells.lookup x = some c -> c ≠ b) /\ ∀ p ∈ X.pn ++ pins, p.1 ≠ b) :
 Inv X pins σ H' { s with heap := h', gens := g', drawn := d', toks := t' } := by
 obtain ⟨m, ⟨o, es, ep, ho, r⟩, _⟩ := id I.loc
 obtain ⟨sl, hL⟩ := u.any ho I.free fun z => (hch _ z).2.1 rfl
 exact I.step (ch := ch) hch (fun b o hL hb hc e n => u.keep b o e n (fun z => (List.mem_cons.mp (I.stkSub b z)).elim hL hb) hc) (fun b o _ _ hc e n => u.any e n hc) (fun b o hc e n => u.free b o e n hc) (fun b o hc e => u.there b o e hc) u.tups u.frzs u.tbls (fun m' hm => by
  obtain ⟨o', es', ep', ho', r'⟩ := hm
  rw [ho] at ho'; cases ho'
  exact ⟨_, es', ep', hL, r'⟩) hok hg
theorem Inv.turned {t' : Nat} {it : Addr} (I : Inv X pins σ H s) (k : ∀ b o, b ≠ it -> s.heap.get? b = some o -> h'.get? b = some o) (hn : H it = none) (hL : it ≠ X.env.locals)
 (h1 : it ∈ X.ex \/ X.s₀.heap.objs.size <= it) (h2 : ∀ x c, X.env.cells.lookup x = some c -> c ≠ it) (h3 : ∀ p ∈ X.pn ++ pins, p.1 ≠ it) : Inv X pins σ H { s with heap := h', toks := t' } := by
 have nit : ∀ b u, H b = some u -> b ≠ it := fun b u e z => by rw [z, hn] at e; cases e
 refine I.step (g' := s.gens) (d' := s.drawn) (ch := [it]) (fun b hb => ?_) (fun b o _ _ hc e _ => k b o (fun z => hc (by simp [z])) e) (fun b o _ _ hc e _ => ⟨o.slots, k b o (fun z => hc (by simp [z])) e⟩) (fun _ _ _ _ n => n)
  (fun b o hc e => ⟨o, k b o (fun z => hc (by simp [z])) e⟩) (fun _ _ e => e) (fun _ _ _ e => e) (fun b ps e => ⟨#[], by rw [e]; simp⟩) (fun m hm => ?_) (fun b u e => ?_) I.bare
 . have e : b = it := by simpa using hb
   subst e
   exact ⟨h1, hL, h2, h3⟩
 . obtain ⟨o, es, ep, ho, r⟩ := hm
   exact ⟨o, es, ep, k _ o (Ne.symm hL) ho, r⟩
 . refine (I.hok b u e).stay (fun c v hc q => k c v ?_ q) (fun _ q => q) fun _ _ q => q
   rcases hc with z | z
   . rw [z]; exact nit b u e
   . exact nit c _ z
theorem Inv.tok (I : Inv X pins σ H s) (t : Nat) : Inv X pins σ H { s with toks := t } := I.un (h' := s.heap) (t' := t) Un.refl I.hok
theorem Inv.kept (I : Inv X pins σ H s) (k : ∀ b u, s.heap.get? b = some u -> h'.get? b = some u) : Inv X pins σ H { s with heap := h', toks := t' } := I.un (Un.kept k) (I.hok.kept k)
theorem Inv.laid (I : Inv X pins σ H s) (k : ∀ b u, s.heap.get? b = some u -> h'.get? b = some u) (hp : s.heap.objs.size <= a) (new : Z8 X.prog X.w (upd H a o) h' a o) :
 Inv X pins σ (upd H a o) { s with heap := h', toks := t' } := I.un (Un.laid k hp (I.hok.fresh hp)) (I.hok.laid k hp new)
theorem Inv.write (I : Inv X pins σ H s) (mu : Mut (H x)) (he : e = x \/ H e = some (.own x)) (k : ∀ b u, b ≠ e -> s.heap.get? b = some u -> h'.get? b = some u) (heo : ∃ u, h'.get? e = some u)
 (new : Z8 X.prog X.w (upd H x o) h' x o) : Inv X pins σ (upd H x o) { s with heap := h', toks := t' } := I.un (Un.write mu he k heo) (I.hok.write mu he k heo new)
theorem Inv.pins_of (I : Inv X pins σ H s) (h : ∀ p ∈ pins', s.heap.get? p.1 = some p.2 /\ H p.1 = none /\ p.1 ≠ X.env.locals /\ p.1 ∉ X.fs /\ ∀ v, p.2.data ≠ .cell v) : Inv X pins' σ H s :=
 ⟨I.ok, I.os, I.bare, I.base, I.loc, I.cell, I.free, I.freeC, fun p hp => (List.mem_append.mp hp).elim (fun z => I.pin p (List.mem_append_left _ z)) (h p), I.hok, I.len⟩
theorem ZdM {N : List Str} (hN : N.Nodup) {i j : Nat} {x : Str} (a : N[i]? = some x) (b : N[j]? = some x) : i = j := by
 obtain ⟨h1, e1⟩ := List.getElem?_eq_some_iff.mp a
 obtain ⟨h2, e2⟩ := List.getElem?_eq_some_iff.mp b
 exact (List.getElem_inj hN).mp (e1.trans e2.symm)
theorem Zh7 {M : Model} {A : Around} {E : Value -> Shared -> Prop} {i : Nat} {x : Str} {v : V} {u : Value} {Q : Unit -> Shared -> Prop} (I : Inv X pins σ H s) (hN : X.N.Nodup) (hi : X.N[i]? = some x) (hx : Loc X.env.scope x) (r : RelV v u)
 (h : ∀ s', Inv X pins (σ.set i (some v)) H s' -> (∃ a, Heap.SameBut a s.heap s'.heap /\ (a = X.env.locals \/ X.env.cells.lookup x = some a)) -> Q () s') (hf : X.fn x = true \/ X.env.scope.names.lookup x = some .local := by first | exact .inl rfl | exact .inr rfl | assumption) : wpAny M A (storeName X.env x u) Q E s := by
 obtain ⟨m, hn, hl⟩ := id I.loc
 have hcls : (X.env.scope.kind == .class || (X.env.scope.kind == .module && X.env.locals != X.env.globals)) = false := by rw [I.ok.kind]; rfl
 have hiσ : i < σ.length := by rw [I.len]; exact (List.getElem?_eq_some_iff.mp hi).1
 have cne := I.cne
 have tracked : ∀ {a : Addr} {h' : Heap}, (∃ o, s.heap.get? a = some o /\ H a = none) -> Heap.SameBut a s.heap h' -> HOk X.prog X.w H h' := fun {a h'} ha hs b ob e => by
  obtain ⟨_, _, hfree⟩ := ha
  refine (I.hok b ob e).stay (fun c w' hc q => (hs.2 c ?_).trans q) (fun _ q => q) fun _ _ q => q
  rintro rfl
  rcases hc with rfl | hc
  . rw [hfree] at e; cases e
  . rw [hfree] at hc; cases hc
 rcases hx with hk | hk
 . refine wpAny_storeName_local hk hn (fun h' hn' hs => ?_) hcls
   obtain ⟨oL, _, _, hoL, _⟩ := id hn
   refine h _ ⟨I.ok, I.os, I.bare, ⟨fun b o e n hb hx => ?_, fun b o e n hb hx => ?_, I.base.free, fun b o e hx => ?_, I.base.tups, I.base.frzs, I.base.tbls⟩, ⟨_, hn', fun j y v' e1 e2 e3 => ?_⟩, fun y c e => ?_, I.free, I.freeC, fun p hp => ?_, tracked ⟨oL, hoL, I.free⟩ hs, by simpa using I.len⟩ ⟨_, hs, .inl rfl⟩
   . exact (hs.2 b (Nat.ne_of_lt (Nat.lt_of_lt_of_le (Heap.lt_size e) I.ok.above))).trans (I.base.keep b o e n hb hx)
   . obtain ⟨sl, e1⟩ := I.base.slot b o e n hb hx
     exact ⟨sl, (hs.2 b (Nat.ne_of_lt (Nat.lt_of_lt_of_le (Heap.lt_size e) I.ok.above))).trans e1⟩
   . obtain ⟨o', e1⟩ := I.base.there b o e hx
     exact ⟨o', (hs.2 b (Nat.ne_of_lt (Nat.lt_of_lt_of_le (Heap.lt_size e) I.ok.above))).trans e1⟩
   . by_cases hj : j = i
     . subst hj
       rw [hi] at e1; cases e1
       rw [List.getElem?_set_self hiσ] at e2
       cases e2
       exact ⟨u, r, .inl ⟨hk, by simp⟩⟩
     . rw [List.getElem?_set_ne (Ne.symm hj)] at e2
       obtain ⟨u', r', q⟩ := hl j y v' e1 e2 e3
       refine ⟨u', r', ?_⟩
       rcases q with ⟨k, e⟩ | ⟨k, c, e, z⟩
       . refine .inl ⟨k, ?_⟩
         have : y ≠ x := fun e => hj (ZdM hN e1 (e ▸ hi))
         simp [this, e]
       . exact .inr ⟨k, c, e, z.sameBut hs (cne y c e)⟩
   . obtain ⟨w', z⟩ := I.cell y c e
     exact ⟨w', z.sameBut hs (cne y c e)⟩
   . obtain ⟨e, n, ne, nf, d⟩ := I.pin p hp
     exact ⟨(hs.2 p.1 ne).trans e, n, ne, nf, d⟩
 . have hfn : X.fn x = true := by
    rcases hf with z | z
    . exact z
    . rw [z] at hk; cases hk
   obtain ⟨c, hc⟩ := I.ok.has x (.inl hk)
   obtain ⟨w', z⟩ := I.cell x c hc
   refine wpAny_storeName_cell I.ok.kind hk hc z (fun h' hc' hs => ?_)
   obtain ⟨oc, hoc, hocd⟩ := id z
   refine h { s with heap := h' } ⟨I.ok, I.os, I.bare, ⟨fun b o e n hb hx => ?_, fun b o e n hb hx => ?_, I.base.free, fun b o e hx => ?_, I.base.tups, I.base.frzs, I.base.tbls⟩, ⟨m, hn.sameBut hs (Ne.symm (cne x c hc)), fun j y v' e1 e2 e3 => ?_⟩, fun y c' e => ?_, I.free, I.freeC, fun p hp => ?_, tracked ⟨oc, hoc, I.freeC x c hc⟩ hs, by simpa using I.len⟩ ⟨c, hs, .inr hc⟩
   . exact (hs.2 b (Nat.ne_of_lt (Nat.lt_of_lt_of_le (Heap.lt_size e) (I.ok.cab x c hfn hc)))).trans (I.base.keep b o e n hb hx)
   . obtain ⟨sl, e1⟩ := I.base.slot b o e n hb hx
     exact ⟨sl, (hs.2 b (Nat.ne_of_lt (Nat.lt_of_lt_of_le (Heap.lt_size e) (I.ok.cab x c hfn hc)))).trans e1⟩
   . obtain ⟨o', e1⟩ := I.base.there b o e hx
     exact ⟨o', (hs.2 b (Nat.ne_of_lt (Nat.lt_of_lt_of_le (Heap.lt_size e) (I.ok.cab x c hfn hc)))).trans e1⟩
   . by_cases hj : j = i
     . subst hj
       rw [hi] at e1; cases e1
       rw [List.getElem?_set_self hiσ] at e2
       cases e2
       exact ⟨u, r, .inr ⟨.inl hk, c, hc, hc'⟩⟩
     . rw [List.getElem?_set_ne (Ne.symm hj)] at e2
       obtain ⟨u', r', q⟩ := hl j y v' e1 e2 e3
       refine ⟨u', r', ?_⟩
       rcases q with q | ⟨k, c', e, z'⟩
       . exact .inl q
       . refine .inr ⟨k, c', e, z'.sameBut hs ?_⟩
         rintro rfl
         exact hj (ZdM hN e1 (I.ok.inj _ _ _ e hc ▸ hi))
   . by_cases hcc : c' = c
     . subst hcc; exact ⟨_, hc'⟩
     . obtain ⟨w2, z2⟩ := I.cell y c' e
       exact ⟨w2, z2.sameBut hs hcc⟩
   . obtain ⟨e, n, ne, nf, d⟩ := I.pin p hp
     refine ⟨(hs.2 p.1 ?_).trans e, n, ne, nf, d⟩
     intro q
     rw [q, hoc] at e
     have q' : oc = p.2 := Option.some.inj e
     exact d w' (by rw [<- q']; exact hocd)
theorem Zbo (I : Inv X pins σ H s) (hN : X.N.Nodup) (hi : X.N[i]? = some x) (hx : Loc X.env.scope x) (r : RelV v u)
 (h : ∀ s', Inv X pins (σ.set i (some v)) H s' -> Q () s') (hf : X.fn x = true \/ X.env.scope.names.lookup x = some .local := by first | exact .inl rfl | exact .inr rfl | assumption) : wpAny M A (storeName X.env x u) Q E s :=
 Zh7 I hN hi hx r (fun s' I' _ => h s' I') hf
theorem Inv.call' (I : Inv X pins σ H s) (ho : s'.os = s.os) (u : Un (frs X.stack) ch H H' s.heap s'.heap) (hok : HOk X.prog X.w H' s'.heap) (hg : AllBare s'.gens)
 (hch : ∀ b ∈ ch, (b ∈ X.ex \/ X.s₀.heap.objs.size <= b) /\ b ≠ X.env.locals /\ (∀ x c, X.env.cells.lookup x = some c -> c ≠ b) /\ ∀ p ∈ X.pn ++ pins, p.1 ≠ b) : Inv X pins σ H' s' := by
 obtain ⟨h', g', d', t', o'⟩ := s'
 have e : o' = s.os := ho
 subst e
 exact I.call (g' := g') (t' := t') (d' := d') u hok hg hch
end
abbrev XK := Value -> Option Addr -> Hp -> Prop
noncomputable abbrev St := List (Option V)
abbrev VK := V -> Hp -> Prop
abbrev TE := St -> Hp -> VK -> Prop
abbrev TT := St -> Hp -> (Bool -> Hp -> Prop) -> Prop
abbrev TA := St -> Hp -> (List V -> Hp -> Prop) -> Prop
structure Ends where
 nx : St -> Hp -> Prop
 rt : VK
 bk : St -> Hp -> Prop := fun _ _ => False
 ct : St -> Hp -> Prop := fun _ _ => False
abbrev TS := Ends -> St -> Hp -> Prop
def EP (X : Cx) (pins : List (Addr × Obj)) (σ : St) (Q : VK) (u : Value) (s' : Shared) : Prop := ∃ v H', Inv X pins σ H' s' /\ RelV v u /\ Q v H'
def TP (X : Cx) (pins : List (Addr × Obj)) (σ : St) (Q : Bool -> Hp -> Prop) (b : Bool) (s' : Shared) : Prop := ∃ H', Inv X pins σ H' s' /\ Q b H'
def AP (X : Cx) (pins : List (Addr × Obj)) (σ : St) (Q : List V -> Hp -> Prop) (us : List Value) (s' : Shared) : Prop := ∃ vs H', Inv X pins σ H' s' /\ Vals vs us /\ Q vs H'
def SP (X : Cx) (pins : List (Addr × Obj)) (D : Ends) (f : Flow) (s' : Shared) : Prop :=
 match f with
 | .next => ∃ σ' H', Inv X pins σ' H' s' /\ D.nx σ' H'
 | .brk => ∃ σ' H', Inv X pins σ' H' s' /\ D.bk σ' H'
 | .cont => ∃ σ' H', Inv X pins σ' H' s' /\ D.ct σ' H'
 | .ret u => ∃ v σ' H', Inv X pins σ' H' s' /\ RelV v u /\ D.rt v H'
def PE (X : Cx) (e : Expr) (t : TE) : Prop :=
 ∀ (pins : List (Addr × Obj)) (s : Shared) (σ : St) (H : Hp) (Q : VK), Inv X pins σ H s -> t σ H Q -> wpAny (model X.prog X.w) X.A (eval e X.env) (EP X pins σ Q) X.xe s
def PT (X : Cx) (e : Expr) (t : TT) : Prop :=
 ∀ (pins : List (Addr × Obj)) (s : Shared) (σ : St) (H : Hp) (Q : Bool -> Hp -> Prop), Inv X pins σ H s -> t σ H Q -> wpAny (model X.prog X.w) X.A (isTrue e X.env (eval e X.env)) (TP X pins σ Q) X.xe s
def PW (X : Cx) (e : Expr) (t : TT) : Prop :=
 ∀ (whole : Sem Value) (pins : List (Addr × Obj)) (s : Shared) (σ : St) (H : Hp) (Q : Bool -> Hp -> Prop), Inv X pins σ H s -> t σ H Q -> wpAny (model X.prog X.w) X.A (isTrue e X.env whole) (TP X pins σ Q) X.xe s
theorem PW.pt (h : PW X e t) : PT X e t := h _
def PA (X : Cx) (es : List Expr) (t : TA) : Prop :=
 ∀ (pos : Pos) (pins : List (Addr × Obj)) (s : Shared) (σ : St) (H : Hp) (Q : List V -> Hp -> Prop), Inv X pins σ H s -> t σ H Q -> wpAny (model X.prog X.w) X.A (spliced (backTo pos (starEach es X.env))) (AP X pins σ Q) X.xe s
def PS (X : Cx) (st : Stmt) (t : TS) : Prop :=
 ∀ (pins : List (Addr × Obj)) (s : Shared) (σ : St) (H : Hp) (D : Ends), Inv X pins σ H s -> t D σ H -> wpAny (model X.prog X.w) X.A (exec st X.env) (SP X pins D) X.xe s
def PSs (X : Cx) (st : List Stmt) (t : TS) : Prop :=
 ∀ (pins : List (Addr × Obj)) (s : Shared) (σ : St) (H : Hp) (D : Ends), Inv X pins σ H s -> t D σ H -> wpAny (model X.prog X.w) X.A (execs st X.env) (SP X pins D) X.xe s
theorem thn (h : wpAny M A t Q E s) (hQ : ∀ a s, Q a s -> Q' a s) : wpAny M A t Q' E s := wpAny_mono h hQ fun _ _ x => x
end L2
namespace L2
open PySem PySem.Spec PyProof.Rows
section
variable {X : Cx}
theorem bin {a b : Expr} {ta tb : TE} (ha : PE X a ta) (hb : PE X b tb) {pins : List (Addr × Obj)} {s : Shared} {σ : St} {H : Hp} {R : V -> V -> Hp -> Prop} (I : Inv X pins σ H s) (h : ta σ H fun x H1 => tb σ H1 fun y H2 => R x y H2)
 {α : Type} {Q : α -> Shared -> Prop} {f : Value -> Value -> Sem α}
 (hf : ∀ v u s2 x y H2, Inv X pins σ H2 s2 -> RelV x v -> RelV y u -> R x y H2 -> wpAny (model X.prog X.w) X.A (f v u) Q X.xe s2) :
 wpAny (model X.prog X.w) X.A (eval a X.env) (fun v s₁ => wpAny (model X.prog X.w) X.A (eval b X.env) (fun u s₂ => wpAny (model X.prog X.w) X.A (f v u) Q X.xe s₂) X.xe s₁) X.xe s := by
 refine thn (ha pins s σ H _ I h) fun v s1 z0 => ?_
 obtain ⟨x, H1, I1, r1, q1⟩ := z0
 refine thn (hb pins s1 σ H1 _ I1 q1) fun u s2 z0 => ?_
 obtain ⟨y, H2, I2, r2, q2⟩ := z0
 exact hf v u s2 x y H2 I2 r1 r2 q2
def tVar (i : Nat) : TE := fun σ H Q => ∃ v, σ[i]? = some (some v) /\ Q v H
def tC (v : V) : TE := fun _ H Q => Q v H
theorem Zh8 (hN : X.N[i]? = some x) (hv : Vis X.env.scope x) (hd : (x == ("__debug__" : Str)) = false := by decide) (hcd : (x == ("__classdict__" : Str)) = false := by decide) : PE X (.Name x pos) (tVar i) := by
 intro pins s σ H Q I h
 obtain ⟨v, e, h⟩ := h
 obtain ⟨m, hn, hl⟩ := I.loc
 obtain ⟨u, r, l⟩ := hl i x v hN e hv
 have fin : EP X pins σ Q u s := ⟨v, H, I, r, h⟩
 rcases l with ⟨hk, hm⟩ | ⟨hk, c, hc, hcell⟩
 . exact wpAny_Name (wpAny_loadName_local I.ok.kind hk hn hm fin) hd
 . rcases hk with hk | hk
   . exact wpAny_Name (wpAny_loadName_cell I.ok.kind hk hc hcell fin) hd
   . exact wpAny_Name (wpAny_loadName_free I.ok.kind hk hc hcell fin hcd) hd
theorem ZaO {i j pos} : PE X (.Constant (.int i) j pos) (tC (.int i)) := fun _ _ _ H _ I h => wpAny_Constant_int ⟨.int i, H, I.tok _, ⟨_, rfl⟩, h⟩
theorem Zdr {b j pos} : PE X (.Constant (.bool b) j pos) (tC (.bl b)) := fun _ _ _ H _ I h => Constant_bool ⟨.bl b, H, I, rfl, h⟩
theorem Zco {j pos} : PE X (.Constant .none j pos) (tC .non) := fun _ _ _ H _ I h => Constant_none ⟨.non, H, I, rfl, h⟩
theorem Zn {x j pos} : PE X (.Constant (.str x) j pos) (tC (.str x)) := fun _ _ _ H _ I h => Calls.Constant_str ⟨.str x, H, I.tok _, ⟨_, rfl⟩, h⟩
def Gl (X : Cx) (x : Str) : Prop := X.env.kindOf x = some .globalImplicit
theorem Zbp (I : Inv X pins σ H s) (hg : Gl X x) (hm : X.mg x = some u) (h : Q u s)
 (hd : (x == ("__debug__" : Str)) = false := by decide) : wpAny (model X.prog X.w) X.A (eval (.Name x pos) X.env) Q E s :=
 Calls.Name_function_global I.ok.kind hg (Calls.loadGlobal_global (by rw [I.ok.glob]; exact I.mod.glob.keeps I.bk) hm h) hd
theorem ZcM (I : Inv X pins σ H s) (hg : Gl X x) (hm : X.mg x = none) (hv : bootBuiltins x = some u) (h : Q u s)
 (hn : x ≠ "__name__" := by decide) (hd : (x == ("__debug__" : Str)) = false := by decide) : wpAny (model X.prog X.w) X.A (eval (.Name x pos) X.env) Q E s := by
 obtain ⟨mb, h1, h2⟩ := I.mod.blt
 exact Calls.Name_function_global I.ok.kind hg (Calls.loadGlobal_builtin (by rw [I.ok.glob]; exact I.mod.glob.keeps I.bk) hm (by rw [I.ok.blt]; exact h1.keeps I.bk) ((h2 x hn).trans hv) h) hd
theorem Zds (hg : Gl X x) (hm : X.mg x = some u) (r : RelV v u) (hd : (x == ("__debug__" : Str)) = false := by decide) : PE X (.Name x pos) (tC v) :=
 fun _ _ _ H _ I h => Zbp I hg hm ⟨v, H, I, r, h⟩ hd
theorem Zgu (hg : Gl X x) (hm : X.mg x = none) (hv : bootBuiltins x = some u) (r : RelV v u) (hn : x ≠ "__name__" := by decide) (hd : (x == ("__debug__" : Str)) = false := by decide) : PE X (.Name x pos) (tC v) :=
 fun _ _ _ H _ I h => ZcM I hg hm hv ⟨v, H, I, r, h⟩ hn hd
variable {a b : Expr} {ta tb : TE} {pos : Pos}
def PC (X : Cx) (op : CmpOp) (a b : Expr) (t : TE) : Prop :=
 ∀ (pins : List (Addr × Obj)) (s : Shared) (σ : St) (H : Hp) (Q : VK), Inv X pins σ H s -> t σ H Q ->
  wpAny (model X.prog X.w) X.A (eval a X.env) (fun v s₁ => wpAny (model X.prog X.w) X.A (eval b X.env) (fun u s₂ => wpAny (model X.prog X.w) X.A (compareOp op v u) (EP X pins σ Q) X.xe s₂) X.xe s₁) X.xe s
theorem Zfq (b : Expr) (h : op ≠ .In) (h2 : op ≠ .NotIn) : behindInMarks op b = false := by
 have e1 : (op == CmpOp.In) = false := by cases op <;> first | rfl | exact absurd rfl h
 have e2 : (op == CmpOp.NotIn) = false := by cases op <;> first | rfl | exact absurd rfl h2
 cases b <;> simp [behindInMarks, e1, e2]
def tIsN (ta : TE) : TE := fun σ H Q => ta σ H fun x H1 => Q (.bl (decide (x = .non))) H1
def ZnX (ta : TE) : TE := fun σ H Q => ta σ H fun x H1 => Q (.bl (!decide (x = .non))) H1
theorem RelV.none_iff (r : RelV x v) : (v == Value.none) = decide (x = .non) := by
 cases x with
 | non => cases r; rfl
 | bl _ => cases r; rfl
 | int _ => obtain ⟨t, rfl⟩ := r; rfl
 | str _ => obtain ⟨t, rfl⟩ := r; rfl
 | byt _ => obtain ⟨t, rfl⟩ := r; rfl
 | flt _ => obtain ⟨t, rfl⟩ := r; rfl
 | ref _ => cases r; rfl
 | ty _ => cases r; rfl
theorem Zh9 {j pos'} (ha : PE X a ta) : PC X .Is a (.Constant .none j pos') (tIsN ta) := by
 intro pins s σ H Q I h
 refine thn (ha pins s σ H _ I h) fun v s1 z0 => ?_
 obtain ⟨x, H1, I1, r1, q1⟩ := z0
 exact Constant_none (is_none_gen ⟨.bl _, H1, I1, by rw [r1.none_iff]; rfl, q1⟩)
theorem Zke {j pos'} (ha : PE X a ta) : PC X .IsNot a (.Constant .none j pos') (ZnX ta) := by
 intro pins s σ H Q I h
 refine thn (ha pins s σ H _ I h) fun v s1 z0 => ?_
 obtain ⟨x, H1, I1, r1, q1⟩ := z0
 exact Constant_none (isnot_none_gen ⟨.bl _, H1, I1, by rw [r1.none_iff]; rfl, q1⟩)
def tB (t : TE) : TT := fun σ H Q => t σ H fun x H1 => ∃ c, x = .bl c /\ Q c H1
theorem ZlJ (h : PC X op a b t) (h1 : behindInMarks op b = false := by first | exact Zfq _ (by decide) (by decide) | rfl) : PE X (.Compare a [op] [b] pos) t := fun pins s σ H Q I hw => wpAny_Compare1 (h pins s σ H Q I hw) h1
theorem ZhA (h : PC X op a b t) (h1 : behindInMarks op b = false := by first | exact Zfq _ (by decide) (by decide) | rfl) : PT X (.Compare a [op] [b] pos) (tB t) := by
 intro pins s σ H Q I hw
 refine wpAny_isTrue_Compare1 (thn (h pins s σ H _ I hw) fun v s1 h1 => thn h1 fun u s2 h2 => thn h2 fun c s3 z0 => ?_) h1
 obtain ⟨x, H1, I1, r1, q1⟩ := z0
 obtain ⟨d, rfl, q⟩ := q1
 cases r1
 exact wpAny_truthy_bool ⟨H1, I1, q⟩
variable {tA tB' : TT} {rest : List Expr}
def tAnd (t u : TT) : TT := fun σ H Q => t σ H fun c H1 => if c = true then u σ H1 Q else Q false H1
def tOr (t u : TT) : TT := fun σ H Q => t σ H fun c H1 => if c = true then Q true H1 else u σ H1 Q
def tNot (t : TT) : TT := fun σ H Q => t σ H fun c H1 => Q (!c) H1
theorem Zkf (ha : PT X a tA) : PW X (.BoolOp .And [a] pos) tA := by
 intro wh pins s σ H Q I h
 refine isTrue_and (thn (ha pins s σ H Q I h) fun c s1 e => ?_)
 cases c with
 | true => exact isTrue_and_nil e
 | false => exact e
theorem ZlK (ha : PT X a tA) : PW X (.BoolOp .Or [a] pos) tA := by
 intro wh pins s σ H Q I h
 refine isTrue_or (thn (ha pins s σ H Q I h) fun c s1 e => ?_)
 cases c with
 | false => exact isTrue_or_nil e
 | true => exact e
theorem ZlL (ha : PT X a tA) (hb : PW X (.BoolOp .And (b :: rest) pos) tB') : PW X (.BoolOp .And (a :: b :: rest) pos) (tAnd tA tB') := by
 intro wh pins s σ H Q I h
 refine isTrue_and (thn (ha pins s σ H _ I h) fun c s1 z0 => ?_)
 obtain ⟨H1, I1, q1⟩ := z0
 cases c with
 | true => exact hb wh pins s1 σ H1 Q I1 q1
 | false => exact ⟨H1, I1, q1⟩
theorem ZnY (ha : PT X a tA) (hb : PW X (.BoolOp .Or (b :: rest) pos) tB') : PW X (.BoolOp .Or (a :: b :: rest) pos) (tOr tA tB') := by
 intro wh pins s σ H Q I h
 refine isTrue_or (thn (ha pins s σ H _ I h) fun c s1 z0 => ?_)
 obtain ⟨H1, I1, q1⟩ := z0
 cases c with
 | true => exact ⟨H1, I1, q1⟩
 | false => exact hb wh pins s1 σ H1 Q I1 q1
theorem ZlM (ha : PT X a tA) : PT X (.UnaryOp .Not a pos) (tNot tA) := by
 intro pins s σ H Q I h
 exact isTrue_not (ha pins s σ H (fun c H1 => Q (!c) H1) I h)
def ZnZ (ta tb : TE) : TE := fun σ H Q => ta σ H fun x H1 => ∃ c, x = .bl c /\ if c = true then tb σ H1 Q else Q (.bl false) H1
def Zoa (ta : TE) : TE := fun σ H Q => ta σ H fun x H1 => ∃ c, x = .bl c /\ Q (.bl (!c)) H1
theorem ZlN {op} (h : PE X a t) : PE X (.BoolOp op [a] pos) t := fun pins s σ H Q I hw => BoolOp_one (h pins s σ H Q I hw)
theorem ZlO (ha : PE X a ta) (hb : PE X (.BoolOp .And (b :: rest) pos) tb) : PE X (.BoolOp .And (a :: b :: rest) pos) (ZnZ ta tb) := by
 intro pins s σ H Q I h
 refine BoolOp_and (thn (ha pins s σ H _ I h) fun v s1 z0 => ?_)
 obtain ⟨x, H1, I1, r1, q1⟩ := z0
 obtain ⟨c, rfl, q1⟩ := q1
 cases r1
 refine wpAny_truthy_bool ?_
 cases c with
 | true => exact hb pins s1 σ H1 Q I1 q1
 | false => exact ⟨.bl false, H1, I1, rfl, q1⟩
theorem ZlP (ha : PE X a ta) : PE X (.UnaryOp .Not a pos) (Zoa ta) := by
 intro pins s σ H Q I h
 refine UnaryOp_ (thn (ha pins s σ H _ I h) fun v s1 z0 => ?_)
 obtain ⟨x, H1, I1, r1, q1⟩ := z0
 obtain ⟨c, rfl, q1⟩ := q1
 cases r1
 exact not_of (wpAny_truthy_bool ⟨.bl (!c), H1, I1, rfl, q1⟩)
end
end L2
namespace L2
open PySem PySem.Spec PyProof.Rows
def SqL (K : Fg) (H : Hp) (a : Addr) (xs : List V) : Prop :=
 Rd H a (.lst xs) \/
  ∃ (o : Obj) (its : Array Value) (n : Nat), K.lookup a = some o /\ o.cls = .type "list" /\ o.dict = none /\ o.data = .seq its n /\ its.size <= sizeLine /\ Vals xs its.toList
def SqT (K : Fg) (H : Hp) (a : Addr) (xs : List V) : Prop :=
 Rd H a (.tup xs) \/
  ∃ (o : Obj) (its : Array Value) (n : Nat), K.lookup a = some o /\ o.cls = .type "tuple" /\ o.data = .seq its n /\ its.size <= sizeLine /\ Vals xs its.toList
noncomputable def absV : Value -> Option V
 | .none => some .non
 | .bool b => some (.bl b)
 | .int i _ => some (.int i)
 | .str x _ => some (.str x)
 | .bytes b _ => some (.byt b)
 | .float b _ => some (.flt b)
 | .ref a => some (.ref a)
 | .type n => some (.ty n)
 | _ => none
theorem RelV.abs (r : RelV x u) : absV u = some x := by
 cases x with
 | non => cases r; rfl
 | bl _ => cases r; rfl
 | int _ => obtain ⟨t, rfl⟩ := r; rfl
 | str _ => obtain ⟨t, rfl⟩ := r; rfl
 | byt _ => obtain ⟨t, rfl⟩ := r; rfl
 | flt _ => obtain ⟨t, rfl⟩ := r; rfl
 | ref _ => cases r; rfl
 | ty _ => cases r; rfl
theorem RelV.inj (r : RelV x u) (q : RelV y u) : x = y := Option.some.inj (r.abs.symm.trans q.abs)
theorem Vals.inj : ∀ {xs ys : List V} {us : List Value}, Vals xs us -> Vals ys us -> xs = ys
 | _, _, _, .nil, .nil => rfl
 | _, _, _, .cons r t, .cons r' t' => by rw [r.inj r', Vals.inj t t']
section
variable {X : Cx} {pins : List (Addr × Obj)} {σ : St} {H : Hp} {s : Shared} {a : Addr} {xs ys : List V}
theorem Inv.list (I : Inv X pins σ H s) (h : SqL X.K H a xs) : ∃ its : List Value, Vals xs its /\ PlainL s.heap a its.toArray /\ xs.length <= sizeLine := by
 rcases h with h | ⟨o, its, n, hk, hc, hd, hs, hz, r⟩
 . obtain ⟨z, its, n, r, e⟩ := h.ok I.hok
   exact ⟨its, r, ⟨_, n, e, rfl, rfl, rfl⟩, z⟩
 . refine ⟨its.toList, r, ⟨o, n, I.kIn a o hk, hc, hd, by simpa using hs⟩, ?_⟩
   have e := r.length
   simp only [Array.length_toList] at e
   omega
theorem Inv.tuple (I : Inv X pins σ H s) (h : SqT X.K H a xs) : ∃ its : List Value, Vals xs its /\ IsTup s.heap a its.toArray /\ xs.length <= sizeLine := by
 rcases h with h | ⟨o, its, n, hk, hc, hs, hz, r⟩
 . obtain ⟨z, its, r, p⟩ := h.ok I.hok
   exact ⟨its, r, p, z⟩
 . refine ⟨its.toList, r, ⟨o, I.kIn a o hk, hc, n, by simpa using hs⟩, ?_⟩
   have e := r.length
   simp only [Array.length_toList] at e
   omega
theorem Inv.list_inj (I : Inv X pins σ H s) (h : SqL X.K H a xs) (h' : SqL X.K H a ys) : xs = ys := by
 obtain ⟨its, r, ⟨o, n, e, _, _, d⟩, _⟩ := I.list h
 obtain ⟨its', r', ⟨o', n', e', _, _, d'⟩, _⟩ := I.list h'
 rw [e] at e'; cases e'
 rw [d] at d'
 injection d' with d1 _
 have : its = its' := by simpa using congrArg Array.toList d1
 subst this
 exact r.inj r'
theorem Inv.tuple_inj (I : Inv X pins σ H s) (h : SqT X.K H a xs) (h' : SqT X.K H a ys) : xs = ys := by
 obtain ⟨its, r, ⟨o, e, _, n, d⟩, _⟩ := I.tuple h
 obtain ⟨its', r', ⟨o', e', _, n', d'⟩, _⟩ := I.tuple h'
 rw [e] at e'; cases e'
 rw [d] at d'
 injection d' with d1 _
 have : its = its' := by simpa using congrArg Array.toList d1
 subst this
 exact r.inj r'
end
noncomputable abbrev Cx.wish (X : Cx) (E : Value -> Shared -> Prop) : Cx := { X with xe := E }
noncomputable abbrev Cx.nox (X : Cx) : Cx := X.wish fun _ _ => False
theorem Cx.Ok.wish {X : Cx} (ok : X.Ok) (E : Value -> Shared -> Prop) : (X.wish E).Ok :=
 ⟨ok.mod, ok.kind, ok.glob, ok.blt, ok.above, ok.inj, ok.has, ok.cab, ok.hd, ok.frames, ok.stk, ok.exf, ok.bs, ok.bsz, ok.noex, ok.exfs, ok.funs, ok.frf⟩
theorem Cx.Ok.unwish {X : Cx} {E : Value -> Shared -> Prop} (ok : (X.wish E).Ok) : X.Ok :=
 ⟨ok.mod, ok.kind, ok.glob, ok.blt, ok.above, ok.inj, ok.has, ok.cab, ok.hd, ok.frames, ok.stk, ok.exf, ok.bs, ok.bsz, ok.noex, ok.exfs, ok.funs, ok.frf⟩
section
variable {X : Cx} {pins : List (Addr × Obj)} {σ : St} {H : Hp} {s : Shared} {E : Value -> Shared -> Prop}
theorem Inv.wish (I : Inv X pins σ H s) (E : Value -> Shared -> Prop) : Inv (X.wish E) pins σ H s := ⟨I.ok.wish E, I.os, I.bare, I.base, I.loc, I.cell, I.free, I.freeC, I.pin, I.hok, I.len⟩
theorem Inv.unwish (I : Inv (X.wish E) pins σ H s) : Inv X pins σ H s := ⟨I.ok.unwish, I.os, I.bare, I.base, I.loc, I.cell, I.free, I.freeC, I.pin, I.hok, I.len⟩
theorem SP.unwish (h : SP (X.wish E) pins D f s') : SP X pins D f s' := by
 cases f with
 | next => obtain ⟨σ', H', I, q⟩ := h; exact ⟨σ', H', I.unwish, q⟩
 | brk => obtain ⟨σ', H', I, q⟩ := h; exact ⟨σ', H', I.unwish, q⟩
 | cont => obtain ⟨σ', H', I, q⟩ := h; exact ⟨σ', H', I.unwish, q⟩
 | ret u => obtain ⟨v, σ', H', I, r, q⟩ := h; exact ⟨v, σ', H', I.unwish, r, q⟩
theorem PSs.nox {st : List Stmt} {t : TS} (h : PSs X.nox st t) : PSs X st t := fun pins s σ H D I hw =>
 wpAny_mono (h pins s σ H D (I.wish _) hw) (fun _ _ q => q.unwish) fun _ _ z => False.elim z
end
section
variable {X : Cx} {st : Stmt} {rest : List Stmt} {t u : TS} {e : Expr} {te : TE} {pos : Pos}
def Zob : TS := fun D σ H => D.nx σ H
def tSeq (t u : TS) : TS := fun D σ H => t { D with nx := u D } σ H
theorem Zkg : PSs X [] Zob := fun _ _ σ H _ I h => wpAny_execs_nil ⟨σ, H, I, h⟩
theorem Zi2 (h1 : PS X st t) (h2 : PSs X rest u) : PSs X (st :: rest) (tSeq t u) := by
 intro pins s σ H D I h
 refine wpAny_execs_cons (thn (h1 pins s σ H { D with nx := u D } I h) fun f s1 q => ?_)
 cases f with
 | next =>
  obtain ⟨σ', H', I', q⟩ := q
  exact h2 pins s1 σ' H' D I' q
 | ret v => exact q
 | brk => exact q
 | cont => exact q
theorem Inv.quiet (I : Inv X pins σ H s) : interactive X.env = false := by simp [interactive, I.ok.kind]
def Zoc (te : TE) : TS := fun D σ H => te σ H fun _ H1 => D.nx σ H1
theorem Zkh (he : PE X e te) (hs : swapsWith e none pos.line X.env = pure false := by rfl) : PS X (.Expr e pos) (Zoc te) := by
 intro pins s σ H D I h
 exact wpAny_Expr_any (thn (he pins s σ H _ I h) fun v s1 ⟨x, H1, I1, r1, q1⟩ => ⟨σ, H1, I1, q1⟩) I.quiet hs
def tRet (te : TE) : TS := fun D σ H => te σ H D.rt
theorem ZlQ (he : PE X e te) : PS X (.Return (some e) pos) (tRet te) := by
 intro pins s σ H D I h
 exact wpAny_Return_some (thn (he pins s σ H _ I h) fun v s1 ⟨x, H1, I1, r1, q1⟩ => ⟨x, σ, H1, I1, r1, q1⟩)
def tIfS (c : TT) (t u : TS) : TS := fun D σ H => c σ H fun b H1 => if b = true then t D σ H1 else u D σ H1
theorem Zod (hc : PT X c tc) (ha : PSs X a t) (hb : PSs X b u) : PS X (.If c a b pos) (tIfS tc t u) := by
 intro pins s σ H D I h
 refine wpAny_If (thn (hc pins s σ H _ I h) fun d s1 z0 => ?_)
 obtain ⟨H1, I1, q1⟩ := z0
 cases d with
 | true => exact ha pins s1 σ H1 D I1 q1
 | false => exact hb pins s1 σ H1 D I1 q1
end
abbrev TG := V -> St -> Hp -> (St -> Hp -> Prop) -> Prop
abbrev TGs := List V -> St -> Hp -> (St -> Hp -> Prop) -> Prop
def PG (X : Cx) (target : Expr) (t : TG) : Prop :=
 ∀ (pins : List (Addr × Obj)) (s : Shared) (σ : St) (H : Hp) (v : V) (u : Value) (Q : St -> Hp -> Prop), Inv X pins σ H s -> RelV v u -> t v σ H Q ->
  wpAny (model X.prog X.w) X.A (assign target X.env u) (fun _ s' => ∃ σ' H', Inv X pins σ' H' s' /\ Q σ' H') X.xe s
def PGs (X : Cx) (ts : List Expr) (t : TGs) : Prop :=
 ∀ (pins : List (Addr × Obj)) (s : Shared) (σ : St) (H : Hp) (vs : List V) (us : List Value) (Q : St -> Hp -> Prop), Inv X pins σ H s -> Vals vs us -> t vs σ H Q ->
  wpAny (model X.prog X.w) X.A (assignInOrder ((assignEach ts X.env).map (·.2)) us) (fun _ s' => ∃ σ' H', Inv X pins σ' H' s' /\ Q σ' H') X.xe s
abbrev TSet := V -> V -> V -> Hp -> (Hp -> Prop) -> Prop
def PSet (X : Cx) (t : TSet) : Prop :=
 ∀ (pins : List (Addr × Obj)) (s : Shared) (σ : St) (H : Hp) (o i v : V) (ov iv u : Value) (Q : Hp -> Prop), Inv X pins σ H s -> RelV o ov -> RelV i iv -> RelV v u -> t o i v H Q ->
  wpAny (model X.prog X.w) X.A (setItem ov iv u) (fun _ s' => ∃ H', Inv X pins σ H' s' /\ Q H') X.xe s
section
noncomputable def Zca (i : Nat) : TG := fun v σ H Q => Q (σ.set i (some v)) H
theorem Zgv (hN : X.N.Nodup) (hi : X.N[i]? = some x) (hx : Loc X.env.scope x) (hf : X.fn x = true \/ X.env.scope.names.lookup x = some .local := by first | exact .inl rfl | exact .inr rfl | assumption) : PG X (.Name x pos) (Zca i) := by
 intro pins s σ H v u Q I r h
 exact wpAny_assign_Name (Zbo I hN hi hx r (fun s' I' => ⟨_, H, I', h⟩) hf)
noncomputable def gNil : TGs := fun vs σ H Q => vs = [] /\ Q σ H
noncomputable def ZjC (t : TG) (u : TGs) : TGs := fun vs σ H Q => ∃ v r, vs = v :: r /\ t v σ H fun σ' H' => u r σ' H' Q
theorem Zki : PGs X [] gNil := by
 intro pins s σ H vs us Q I r h
 obtain ⟨e, h⟩ := h
 subst e
 cases r
 exact assignInOrder_nil ⟨σ, H, I, h⟩
theorem Zi3 (h1 : PG X e t) (h2 : PGs X es u)
 (hs : (assignEach (e :: es) X.env).map (·.2) = assign e X.env :: (assignEach es X.env).map (·.2) := by rfl) : PGs X (e :: es) (ZjC t u) := by
 intro pins s σ H vs us Q I r h
 obtain ⟨v, vr, e1, h⟩ := h
 subst e1
 cases r with
 | cons r rr =>
  rw [hs]
  refine assignInOrder_cons (thn (h1 pins s σ H _ _ _ I r h) fun _ s1 z0 => ?_)
  obtain ⟨σ1, H1, I1, q1⟩ := z0
  exact h2 pins s1 σ1 H1 _ _ Q I1 rr q1
noncomputable def gTup (K : Fg) (n : Nat) (t : TGs) : TG := fun v σ H Q => ∃ a xs, v = .ref a /\ SqT K H a xs /\ xs.length = n /\ t xs σ H Q
theorem ZlR (hc : X.calm = true) (h : PGs X es t)
 (hn : (assignEach es X.env).length = n := by rfl) (hst : (assignEach es X.env).findIdx? (·.1) = none := by rfl) : PG X (.Tuple es k pos) (gTup X.K n t) := by
 intro pins s σ H v u Q I r hw
 obtain ⟨a, xs, e1, hq, hl, hw⟩ := hw
 subst e1
 cases r
 obtain ⟨its, rv, ht, hz⟩ := I.tuple hq
 refine assign_Tuple_tuple (I.ok.hd hc) ht (by simp [hn, <- hl, rv.length]) hst fun h' hx => ?_
 have I1 : Inv X pins σ H { s with heap := h' } := I.kept (t' := s.toks) fun b o e => hx b o (Nat.ne_of_lt (Heap.lt_size e)) e
 exact h pins _ σ H xs _ Q I1 (by simpa using rv) hw
noncomputable def gSub (to ti : TE) (t : TSet) : TG := fun v σ H Q => to σ H fun o H1 => ti σ H1 fun i H2 => t o i v H2 fun H3 => Q σ H3
theorem ZlS (ho : PE X o to) (hi : PE X i ti) (hs : PSet X t)
 (ha : ∀ v, assign (.Subscript o i pos) X.env v = (do
  let ov <- holding [v] (eval o X.env)
  let iv <- holding [v, ov] (eval i X.env)
  standAt pos
  holding [v, ov, iv] (setItem ov iv v)
  release [v, ov, iv] []) := by intro _; rfl) : PG X (.Subscript o i pos) (gSub to ti t) := by
 intro pins s σ H v u Q I r h
 rw [ha]
 refine wpAny_bind (wpAny_holding (thn (ho pins s σ H _ I h) fun ov s1 z0 => ?_))
 obtain ⟨x, H1, I1, r1, q1⟩ := z0
 refine wpAny_bind (wpAny_holding (thn (hi pins s1 σ H1 _ I1 q1) fun iv s2 z0 => ?_))
 obtain ⟨y, H2, I2, r2, q2⟩ := z0
 refine wpAny_bind (wpAny_standAt (wpAny_bind (wpAny_holding (thn (hs pins s2 σ H2 x y v ov iv u _ I2 r1 r2 r q2) fun _ s3 z0 => ?_))))
 obtain ⟨H3, I3, q3⟩ := z0
 exact wpAny_release ⟨σ, H3, I3, q3⟩
def tAsg (te : TE) (g : TG) : TS := fun D σ H => te σ H fun x H1 => g x σ H1 D.nx
theorem ZhB (he : PE X e te) (hg : PG X tg g) (hs : swapsWithSole [tg] e pos.line X.env = pure false := by rfl) (hw : swappedStores [tg] e X.env = pure none := by rfl)
 (h1 : (assignEach [tg] X.env).map (·.2) = [assign tg X.env] := by rfl) : PS X (.Assign [tg] e pos) (tAsg te g) := by
 intro pins s σ H D I h
 refine wpAny_Assign_stores (thn (he pins s σ H _ I h) fun v s1 z0 => ?_) hs hw
 obtain ⟨x, H1, I1, r1, q1⟩ := z0
 rw [h1]
 exact thn (hg pins s1 σ H1 x v _ I1 r1 q1) fun _ s2 q => q
theorem ZlT (hN : X.N.Nodup) (hi : X.N[i]? = some x) (hx : Loc X.env.scope x) (he : PE X e te) (hs : swapsWith e (some (.Name x pos')) pos.line X.env = pure false := by rfl) (hf : X.fn x = true \/ X.env.scope.names.lookup x = some .local := by first | exact .inl rfl | exact .inr rfl | assumption) :
 PS X (.Assign [.Name x pos'] e pos) (tAsg te (Zca i)) := by
 intro pins s σ H D I h
 refine wpAny_Assign_Name (thn (he pins s σ H _ I h) fun v s1 z0 => ?_) hs
 obtain ⟨y, H1, I1, r1, q1⟩ := z0
 exact Zbo I1 hN hi hx r1 (fun s2 I2 => ⟨_, H1, I2, q1⟩) hf
end
structure It where
 go : Nat -> Hp -> Prop
 yld : Nat -> Hp -> V -> Hp -> Prop
 stop : Nat -> Hp -> Prop
def FpOk (X : Cx) (pins : List (Addr × Obj)) (H : Hp) (b : Addr) : Prop :=
 H b = none /\ b ≠ X.env.locals /\ b ∉ X.fs /\ (b ∈ X.ex \/ X.s₀.heap.objs.size <= b) /\ (∀ x c, X.env.cells.lookup x = some c -> c ≠ b) /\ ∀ p ∈ X.pn ++ pins, p.1 ≠ b
theorem Inv.fpOk (I : Inv X pins σ H s) (hb : s.heap.objs.size <= b) (hn : H' b = none) : FpOk X pins H' b := by
 refine ⟨hn, Nat.ne_of_gt (Nat.lt_of_lt_of_le I.lt hb), I.nofs hb, .inr (Nat.le_trans I.sz hb), fun x c e z => ?_, fun p hp z => ?_⟩
 . obtain ⟨v, q⟩ := I.cell x c e
   exact absurd (Nat.lt_of_lt_of_le q.lt (by rw [z]; exact hb)) (Nat.lt_irrefl _)
 . exact absurd (Nat.lt_of_lt_of_le (Heap.lt_size (I.pin p hp).1) (by rw [z]; exact hb)) (Nat.lt_irrefl _)
structure Turn (P : Program) (w : World) (K : Fg) (tg : Expr) (J : It) (fp : List Addr) (it : Addr) (tn : Nat -> Heap -> Prop) : Prop where
 mem : it ∈ fp
 obj : ∀ i h, tn i h -> ∀ b ∈ fp, ∃ o, h.get? b = some o /\ ∀ v, o.data ≠ .cell v
 keep : ∀ i h h', tn i h -> (∀ b ∈ fp, ∀ o, h.get? b = some o -> h'.get? b = some o) -> tn i h'
 item : ∀ (X : Cx), X.prog = P -> X.w = w -> X.K = K -> X.calm = true -> ∀ (i : Nat) (pins : List (Addr × Obj)) (s : Shared) (σ : St) (H : Hp) (E : Value -> Shared -> Prop), Inv X pins σ H s -> (∀ b ∈ fp, FpOk X pins H b) -> tn i s.heap -> J.go i H ->
  wpAny (model P w) X.A (pyNext (.ref it)) (fun r s1 => ∃ u, r = some u /\
   wpAny (model P w) X.A (letOwnedTupleGo tg (.ref it) u) (fun _ s2 => ∃ x H', Inv X pins σ H' s2 /\ RelV x u /\ J.yld i H x H' /\ tn (i + 1) s2.heap /\ ∀ b ∈ fp, H' b = none) E s1) E s
 done : ∀ (X : Cx), X.prog = P -> X.w = w -> X.K = K -> X.calm = true -> ∀ (i : Nat) (pins : List (Addr × Obj)) (s : Shared) (σ : St) (H : Hp) (E : Value -> Shared -> Prop), Inv X pins σ H s -> (∀ b ∈ fp, FpOk X pins H b) -> tn i s.heap -> J.stop i H ->
  wpAny (model P w) X.A (pyNext (.ref it)) (fun r s1 => r = none /\ Inv X pins σ H s1) E s
 self : ∀ (A : Around) (i : Nat) (s : Shared) (Q : Value -> Shared -> Prop) (E : Value -> Shared -> Prop), tn i s.heap -> Q (.ref it) s -> wpAny (model P w) A (pyIter (.ref it)) Q E s
abbrev TI := St -> Hp -> (It -> Hp -> Prop) -> Prop
def PIE (X : Cx) (pins : List (Addr × Obj)) (σ : St) (tg : Expr) (R : It -> Hp -> Prop) (itv : Value) (s2 : Shared) : Prop :=
 ∃ (it : Addr) (fp : List Addr) (tn : Nat -> Heap -> Prop) (J : It) (H' : Hp), itv = .ref it /\ Inv X pins σ H' s2 /\ Turn X.prog X.w X.K tg J fp it tn /\ tn 0 s2.heap /\ (∀ b ∈ fp, FpOk X pins H' b) /\ R J H'
def PI (X : Cx) (tg iter : Expr) (wi : TI) : Prop :=
 ∀ (pins : List (Addr × Obj)) (s : Shared) (σ : St) (H : Hp) (R : It -> Hp -> Prop), Inv X pins σ H s -> wi σ H R ->
  wpAny (model X.prog X.w) X.A (eval iter X.env) (fun v s1 => wpAny (model X.prog X.w) X.A (pyIter v) (PIE X pins σ tg R) X.xe s1) X.xe s
theorem Zff (ho : s.heap.get? it = some o) (hc : o.cls = .type n) (hd : o.data = .fields vs)
 (hn : ["enumerate", "zip", "dict_itemiterator", "dict_reverseitemiterator", "odict_iterator", "itertools.zip_longest", "itertools.pairwise"].contains n = false) (hQ : Q () s) : wpAny M A (letOwnedTupleGo tg (.ref it) u) Q E s := by
 unfold letOwnedTupleGo
 cases tg <;> first
  | exact wpAny_pure hQ
  | (cases u <;> first
   | exact wpAny_pure hQ
   | (refine wpAny_bind (wpAny_load ho ?_)
      rw [hc, hd]
      show wpAny M A (if (["enumerate", "zip", "dict_itemiterator", "dict_reverseitemiterator", "odict_iterator", "itertools.zip_longest", "itertools.pairwise"].contains n && vs[0]? == some (rawInt _)) = true then _ else _) Q E s
      rw [if_neg (by intro h; rw [hn, Bool.false_and] at h; cases h)]
      exact wpAny_pure hQ))
noncomputable def Itl (K : Fg) (a : Addr) : It :=
 ⟨fun i H => ∃ xs x, SqL K H a xs /\ xs[i]? = some x, fun i H x H' => H' = H /\ ∀ xs, SqL K H a xs -> xs[i]? = some x, fun i H => ∃ xs, SqL K H a xs /\ xs.length <= i⟩
noncomputable def Itt (K : Fg) (a : Addr) : It :=
 ⟨fun i H => ∃ xs x, SqT K H a xs /\ xs[i]? = some x, fun i H x H' => H' = H /\ ∀ xs, SqT K H a xs -> xs[i]? = some x, fun i H => ∃ xs, SqT K H a xs /\ xs.length <= i⟩
noncomputable def Itr (lo : Int) (n : Nat) : It := ⟨fun i _ => i < n, fun i H x H' => H' = H /\ x = .int (lo + i), fun i _ => n <= i⟩
theorem ZhC {P : Program} {w : World} {K : Fg} {tg : Expr} (a it : Addr) : Turn P w K tg (Itl K a) [it] it (fun i h => h.IsListIter it a i) where
 mem := by simp
 obj := fun i h st b hb => by
  have e : b = it := by simpa using hb
  subst e
  obtain ⟨o, e, c, d⟩ := st
  exact ⟨o, e, fun v z => by rw [d] at z; cases z⟩
 keep := fun i h h' st k => st.at fun o e => k it (by simp) o e
 item := by
  intro X hP hw hK hc i pins s σ H E I hf st hg
  subst hP hw hK
  obtain ⟨xs, x, hq, hx⟩ := hg
  obtain ⟨its, rv, p, hz⟩ := I.list hq
  obtain ⟨u, hu, ru⟩ := rv.get hx
  obtain ⟨f0, f1, f2, f3, f4, f5⟩ := hf it (by simp)
  refine wpAny_pyNext_list_item st p.isList (x := u) (by simpa using hu) fun h' st' sb => ?_
  have I1 : Inv X pins σ H { s with heap := h' } := I.turned (t' := s.toks) (fun b o hb e => (sb.2 b hb).trans e) f0 f1 f3 f4 f5
  obtain ⟨o, e, c, d⟩ := id st'
  exact ⟨u, rfl, Zff (s := { s with heap := h' }) e c d (by decide) ⟨x, H, I1, ru, ⟨rfl, fun ys hy => by rw [I.list_inj hy hq]; exact hx⟩, st', fun b hb => (hf b hb).1⟩⟩
 done := by
  intro X hP hw hK hc i pins s σ H E I hf st hg
  subst hP hw hK
  obtain ⟨xs, hq, hx⟩ := hg
  obtain ⟨its, rv, p, hz⟩ := I.list hq
  obtain ⟨f0, f1, f2, f3, f4, f5⟩ := hf it (by simp)
  have hl := rv.length
  exact wpAny_pyNext_list_end (I.ok.hd hc) st p.isList (by simp; omega) fun h' eb => ⟨rfl, I.turned (t' := s.toks) (fun b o hb e => eb b o hb e) f0 f1 f3 f4 f5⟩
 self := fun _ _ _ _ _ st h => wpAny_pyIter_listiter st h
theorem ZgN {P : Program} {w : World} {K : Fg} {tg : Expr} (a it : Addr) : Turn P w K tg (Itt K a) [it] it (fun i h => h.IsTupleIter it a i) where
 mem := by simp
 obj := fun i h st b hb => by
  have e : b = it := by simpa using hb
  subst e
  obtain ⟨o, e, c, d⟩ := st
  exact ⟨o, e, fun v z => by rw [d] at z; cases z⟩
 keep := fun i h h' st k => st.at fun o e => k it (by simp) o e
 item := by
  intro X hP hw hK hc i pins s σ H E I hf st hg
  subst hP hw hK
  obtain ⟨xs, x, hq, hx⟩ := hg
  obtain ⟨its, rv, p, hz⟩ := I.tuple hq
  obtain ⟨u, hu, ru⟩ := rv.get hx
  obtain ⟨f0, f1, f2, f3, f4, f5⟩ := hf it (by simp)
  refine wpAny_pyNext_tuple_item st (show s.heap.IsTuple a its.toArray from p) (x := u) (by simpa using hu) fun h' st' sb => ?_
  have I1 : Inv X pins σ H { s with heap := h' } := I.turned (t' := s.toks) (fun b o hb e => (sb.2 b hb).trans e) f0 f1 f3 f4 f5
  obtain ⟨o, e, c, d⟩ := id st'
  exact ⟨u, rfl, Zff (s := { s with heap := h' }) e c d (by decide) ⟨x, H, I1, ru, ⟨rfl, fun ys hy => by rw [I.tuple_inj hy hq]; exact hx⟩, st', fun b hb => (hf b hb).1⟩⟩
 done := by
  intro X hP hw hK hc i pins s σ H E I hf st hg
  subst hP hw hK
  obtain ⟨xs, hq, hx⟩ := hg
  obtain ⟨its, rv, p, hz⟩ := I.tuple hq
  obtain ⟨f0, f1, f2, f3, f4, f5⟩ := hf it (by simp)
  have hl := rv.length
  exact wpAny_pyNext_tuple_end (I.ok.hd hc) st (show s.heap.IsTuple a its.toArray from p) (by simp; omega) fun h' eb => ⟨rfl, I.turned (t' := s.toks) (fun b o hb e => eb b o hb e) f0 f1 f3 f4 f5⟩
 self := fun _ _ _ _ _ st h => wpAny_pyIter_tupleiter st h
theorem ZgO {P : Program} {w : World} {K : Fg} {tg : Expr} (it : Addr) (lo : Int) (n : Nat) : Turn P w K tg (Itr lo n) [it] it (fun i h => IsRangeIter h it (lo + (i : Nat) * 1) ((n : Int) - (i : Nat)) 1) where
 mem := by simp
 obj := fun i h st b hb => by
  have e : b = it := by simpa using hb
  subst e
  exact ⟨_, st, fun v z => by
   have z' : Data.fields _ = Data.cell v := z
   cases z'⟩
 keep := fun i h h' st k => k it (by simp) _ st
 item := by
  intro X hP hw hK hc i pins s σ H E I hf st hg
  subst hP hw hK
  obtain ⟨f0, f1, f2, f3, f4, f5⟩ := hf it (by simp)
  have W := Walks.range (prog := X.prog) (w := X.w) (I.ok.hd hc) it lo 1 n
  refine W.item i s _ _ hg st fun v h' tk hv st' kk => ?_
  obtain ⟨t, rfl⟩ := hv
  have I1 : Inv X pins σ H { s with heap := h', toks := tk } := I.turned (fun b o hb e => kk b o (by simpa using hb) e) f0 f1 f3 f4 f5
  refine ⟨_, rfl, Zff (s := { s with heap := h', toks := tk }) (n := "range_iterator") st' rfl rfl (by decide) ⟨.int (lo + i), H, I1, ⟨t, ?_⟩, ⟨rfl, rfl⟩, st', fun b hb => (hf b hb).1⟩⟩
  rw [Int.mul_one]
 done := by
  intro X hP hw hK hc i pins s σ H E I hf st hg
  subst hP hw hK
  obtain ⟨f0, f1, f2, f3, f4, f5⟩ := hf it (by simp)
  exact wpAny_pyNext_range_end (I.ok.hd hc) st (by have : n <= i := hg; omega) fun h' eb => ⟨rfl, I.turned (t' := s.toks) (fun b o hb e => eb b o hb e) f0 f1 f3 f4 f5⟩
 self := fun _ _ _ _ _ st h => wpAny_pyIter_rangeiter st h
end L2
namespace L2
open PySem PySem.Spec PyProof.Rows
section
variable {X : Cx} {tg : Expr}
noncomputable def Zoe (K : Fg) (tl : TE) : TI := fun σ H R => tl σ H fun x H1 => ∃ a, x = .ref a /\ (∃ xs, SqL K H1 a xs) /\ R (Itl K a) H1
noncomputable def iTup (K : Fg) (tl : TE) : TI := fun σ H R => tl σ H fun x H1 => ∃ a, x = .ref a /\ (∃ xs, SqT K H1 a xs) /\ R (Itt K a) H1
theorem Zgw (hl : PE X l tl) : PI X tg l (Zoe X.K tl) := by
 intro pins s σ H R I h
 refine thn (hl pins s σ H _ I h) fun v s1 z0 => ?_
 obtain ⟨x, H1, I1, r1, q1⟩ := z0
 obtain ⟨a, e, ⟨xs, hq⟩, q⟩ := q1
 subst e
 cases r1
 obtain ⟨its, rv, p, hz⟩ := I1.list hq
 refine wpAny_pyIter_list p.isList ?_
 refine ⟨s1.heap.objs.size, [s1.heap.objs.size], _, _, H1, rfl, I1.kept (t' := s1.toks) fun b o e => Heap.get?_push_of_some _ e, ZhC a _, ⟨_, Heap.get?_push_size _ rfl, rfl, rfl⟩, fun b hb => ?_, q⟩
 have e : b = s1.heap.objs.size := by simpa using hb
 subst e
 exact I1.fpOk (Nat.le_refl _) (I1.hok.fresh (Nat.le_refl _))
theorem ZhD (hl : PE X l tl) : PI X tg l (iTup X.K tl) := by
 intro pins s σ H R I h
 refine thn (hl pins s σ H _ I h) fun v s1 z0 => ?_
 obtain ⟨x, H1, I1, r1, q1⟩ := z0
 obtain ⟨a, e, ⟨xs, hq⟩, q⟩ := q1
 subst e
 cases r1
 obtain ⟨its, rv, p, hz⟩ := I1.tuple hq
 refine wpAny_pyIter_tuple (show s1.heap.IsTuple a its.toArray from p) ?_
 refine ⟨s1.heap.objs.size, [s1.heap.objs.size], _, _, H1, rfl, I1.kept (t' := s1.toks) fun b o e => Heap.get?_push_of_some _ e, ZgN a _, ⟨_, Heap.get?_push_size _ rfl, rfl, rfl⟩, fun b hb => ?_, q⟩
 have e : b = s1.heap.objs.size := by simpa using hb
 subst e
 exact I1.fpOk (Nat.le_refl _) (I1.hok.fresh (Nat.le_refl _))
theorem Zfr {pins : List (Addr × Obj)} {σ : St} {H : Hp} {s : Shared} {R : It -> Hp -> Prop} {E : Value -> Shared -> Prop} {lo hi : Int} {t u v : Tok} {tk : Nat} (I : Inv X pins σ H s) (h1 : -(2 ^ 62) <= lo) (h2 : lo < 2 ^ 62) (h3 : -(2 ^ 62) <= hi) (h4 : hi < 2 ^ 62)
 (q : R (Itr lo (hi - lo).toNat) H) : wpAny (model X.prog X.w) X.A (pyIter (.ref s.heap.objs.size)) (PIE X pins σ tg R) E { s with heap := s.heap.push { cls := .type "range", data := .fields #[.int lo t, .int hi u, .int 1 v] }, toks := tk } := by
 refine wpAny_pyIter_range (IsRange.new ..) (small_one h1 h2 h3 h4) ?_
 have I1 : Inv X pins σ H { s with heap := s.heap.push { cls := .type "range", data := .fields #[.int lo t, .int hi u, .int 1 v] }, toks := tk } := I.kept fun b o e => Heap.get?_push_of_some _ e
 refine ⟨(s.heap.push { cls := .type "range", data := .fields #[.int lo t, .int hi u, .int 1 v] }).objs.size, [(s.heap.push { cls := .type "range", data := .fields #[.int lo t, .int hi u, .int 1 v] }).objs.size], _, _, H, rfl,
  I1.kept (t' := tk) fun b o e => Heap.get?_push_of_some _ e, ZgO _ lo (hi - lo).toNat, ?_, fun b hb => ?_, q⟩
 . have e1 : lo + ((0 : Nat) : Int) * 1 = lo := by simp
   have e2 : (((hi - lo).toNat : Nat) : Int) - ((0 : Nat) : Int) = Builtin.Range.rangeSize lo hi 1 := by rw [rangeSize_one]; split <;> omega
   show IsRangeIter _ _ (lo + ((0 : Nat) : Int) * 1) ((((hi - lo).toNat : Nat) : Int) - ((0 : Nat) : Int)) 1
   rw [e1, e2]
   exact Heap.get?_push_size _ rfl
 . have e : b = (s.heap.push { cls := .type "range", data := .fields #[.int lo t, .int hi u, .int 1 v] }).objs.size := by simpa using hb
   subst e
   exact I1.fpOk (Nat.le_refl _) (I1.hok.fresh (Nat.le_refl _))
noncomputable def Zof (ta : TA) : TI := fun σ H R => ta σ H fun vs H1 => ∃ j : Int, vs = [.int j] /\ -(2 ^ 62) <= j /\ j < 2 ^ 62 /\ R (Itr 0 j.toNat) H1
noncomputable def Zog (ta : TA) : TI := fun σ H R => ta σ H fun vs H1 => ∃ i j : Int, vs = [.int i, .int j] /\ (-(2 ^ 62) <= i /\ i < 2 ^ 62 /\ -(2 ^ 62) <= j /\ j < 2 ^ 62) /\ R (Itr i (j - i).toNat) H1
theorem ZhE {a : Expr} {ta : TA} {p pos : Pos} (hg : Gl X "range") (hm : X.mg "range" = none) (ha : PA X [a] ta) (hs : starEach [a] X.env = [(false, eval a X.env)] := by rfl) : PI X tg (.Call (.Name "range" p) [a] [] pos) (Zof ta) := by
 intro pins s σ H R I h
 refine Call_ (ZcM I hg hm boot_range (PyProof.Rows.callWith_type1 (thn (ha pos pins s σ H _ I h) fun us s1 z0 => ?_) hs rfl))
 obtain ⟨vs, H1, I1, r1, q1⟩ := z0
 obtain ⟨j, e, q1, q2, q⟩ := q1
 subst e
 cases r1 with
 | cons r rr =>
  cases rr
  obtain ⟨t, rfl⟩ := r
  exact call_range_1 (Zfr I1 (by omega) (by omega) q1 q2 (by simpa using q))
theorem ZhF (hg : Gl X "range") (hm : X.mg "range" = none) (ha : PA X [a, b] ta) (hs : starEach [a, b] X.env = [(false, eval a X.env), (false, eval b X.env)] := by rfl) (hs2 : starEach [b] X.env = [(false, eval b X.env)] := by rfl) :
 PI X tg (.Call (.Name "range" p) [a, b] [] pos) (Zog ta) := by
 intro pins s σ H R I h
 refine Call_ (ZcM I hg hm boot_range (PyProof.Rows.callWith_type1 (thn (ha pos pins s σ H _ I h) fun us s1 z0 => ?_) (by rw [hs, hs2]) (by rw [hs2]; rfl)))
 obtain ⟨vs, H1, I1, r1, q1⟩ := z0
 obtain ⟨i, j, e, ⟨q1, q2, q3, q4⟩, q⟩ := q1
 subst e
 cases r1 with
 | cons r rr =>
  cases rr with
  | cons r' rr =>
   cases rr
   obtain ⟨t, rfl⟩ := r
   obtain ⟨t', rfl⟩ := r'
   exact call_range_2 (Zfr I1 q1 q2 q3 q4 q)
def tFor (wi : TI) (g : TG) (tb : TS) : TS := fun D σ H => wi σ H fun J H1 => ∃ W : Nat -> Nat -> St -> Hp -> Prop, (∃ m, W 0 m σ H1) /\ ∀ i m σ H, W i m σ H ->
 (J.stop i H /\ D.nx σ H) \/ (J.go i H /\ ∃ N : St -> Hp -> Prop, (∀ σ' H', N σ' H' -> ∃ m', m' < m /\ W (i + 1) m' σ' H') /\ ∀ x H', J.yld i H x H' -> g x σ H' fun σ2 H2 => tb { D with nx := N, ct := N, bk := D.nx } σ2 H2)
noncomputable def Zcp (fp : List Addr) (h : Heap) : List (Addr × Obj) := fp.filterMap fun b => (h.get? b).map fun o => (b, o)
theorem ZaF (hb : b ∈ fp) (e : h.get? b = some o) : (b, o) ∈ Zcp fp h := List.mem_filterMap.mpr ⟨b, hb, by rw [e]; rfl⟩
theorem ZhG (hp : p ∈ Zcp fp h) : p.1 ∈ fp /\ h.get? p.1 = some p.2 := by
 obtain ⟨b, hb, e⟩ := List.mem_filterMap.mp hp
 cases q : h.get? b with
 | none => rw [q] at e; cases e
 | some o =>
  rw [q] at e
  have e' : (b, o) = p := Option.some.inj e
  subst e'
  exact ⟨hb, q⟩
theorem Inv.pinned (I : Inv X pins σ H s) (hf : ∀ b ∈ fp, FpOk X pins H b) (ho : ∀ b ∈ fp, ∃ o, s.heap.get? b = some o /\ ∀ v, o.data ≠ .cell v) : Inv X (pins ++ Zcp fp s.heap) σ H s :=
 I.pins_of fun p hp => (List.mem_append.mp hp).elim (fun z => I.pin p (List.mem_append_right _ z)) fun z => by
  obtain ⟨hb, e⟩ := ZhG z
  obtain ⟨f0, f1, f2, _⟩ := hf p.1 hb
  obtain ⟨o, e', d⟩ := ho p.1 hb
  rw [e] at e'; cases e'
  exact ⟨e, f0, f1, f2, d⟩
theorem Inv.unpinned (I : Inv X (pins ++ pl) σ H s) : Inv X pins σ H s := I.pins_of fun p hp => I.pin p (List.mem_append_right _ (List.mem_append_left _ hp))
theorem ZlU (hp : PassesOwn (model X.prog X.w) X.A X.env X.xe) (hc : X.calm = true) (hi : PI X tg iter wi) (hg : PG X tg g) (hb : PSs X body tb)
 (hs : ∀ x, foldedSetIterable iter X.env x = pure x := by intro _; rfl) : PS X (.For tg iter body [] pos) (tFor wi g tb) := by
 intro pins s σ H D I h
 refine wpAny_For (thn (hi pins s σ H _ I h) fun v s1 h1 => thn h1 fun itv s2 h2 => ?_) hs
 obtain ⟨it, fp, tn, J, H2, e, I2, T, st2, f2, W, ⟨m0, w0⟩, turn⟩ := h2
 subst e
 have stat : ∀ {H' : Hp}, (∀ b ∈ fp, H' b = none) -> ∀ b ∈ fp, FpOk X pins H' b := fun hn b hb => ⟨hn b hb, (f2 b hb).2⟩
 refine codeAny_forLoop_any (fun n s' => ∃ i σ' H', Inv X pins σ' H' s' /\ tn i s'.heap /\ (∀ b ∈ fp, H' b = none) /\ W i n σ' H') ?_ m0 ⟨0, σ, H2, I2, st2, fun b hb => (f2 b hb).1, w0⟩
 rintro n s3 ⟨i, σ3, H3, I3, st3, fr3, w3⟩
 rcases turn i n σ3 H3 w3 with ⟨stop, qn⟩ | ⟨go, N, hN, step⟩
 . refine wpAny_passesOwn hp (thn (T.done X rfl rfl rfl hc i pins s3 σ3 H3 X.xe I3 (stat fr3) st3 stop) fun r s4 z0 => ?_)
   obtain ⟨hr, I4⟩ := z0
   subst hr
   exact wpAny_execs_nil ⟨σ3, H3, I4, qn⟩
 . refine wpAny_passesOwn hp (thn (T.item X rfl rfl rfl hc i pins s3 σ3 H3 X.xe I3 (stat fr3) st3 go) fun r s4 z0 => ?_)
   obtain ⟨u, hr, h4⟩ := z0
   subst hr
   refine wpAny_passesOwn hp (thn h4 fun _ s5 z0 => ?_)
   obtain ⟨x, H5, I5, r5, y5, st5, fr5⟩ := z0
   have I5' := I5.pinned (stat fr5) (T.obj _ _ st5)
   refine wpAny_passesOwn hp (thn (hg _ s5 σ3 H5 x u _ I5' r5 (step x H5 y5)) fun _ s6 z0 => ?_)
   obtain ⟨σ6, H6, I6, q6⟩ := z0
   refine wpAny_passesOwn hp (thn (hb _ s6 σ6 H6 _ I6 q6) fun f s7 q7 => ?_)
   have again : ∀ {σ7 : St} {H7 : Hp}, Inv X (pins ++ Zcp fp s5.heap) σ7 H7 s7 -> N σ7 H7 -> ∃ m, m < n /\ ∃ i σ' H', Inv X pins σ' H' s7 /\ tn i s7.heap /\ (∀ b ∈ fp, H' b = none) /\ W i m σ' H' := fun {σ7 H7} I7 n7 => by
    obtain ⟨m', hm, w7⟩ := hN σ7 H7 n7
    refine ⟨m', hm, i + 1, σ7, H7, I7.unpinned, T.keep _ _ _ st5 fun b hb o e => (I7.pin (b, o) (List.mem_append_right _ (List.mem_append_right _ (ZaF hb e)))).1, fun b hb => ?_, w7⟩
    obtain ⟨o, e, d⟩ := T.obj _ _ st5 b hb
    exact (I7.pin (b, o) (List.mem_append_right _ (List.mem_append_right _ (ZaF hb e)))).2.1
   cases f with
   | next => obtain ⟨σ7, H7, I7, n7⟩ := q7; exact again I7 n7
   | cont => obtain ⟨σ7, H7, I7, n7⟩ := q7; exact again I7 n7
   | brk => obtain ⟨σ7, H7, I7, q7⟩ := q7; exact ⟨σ7, H7, I7.unpinned, q7⟩
   | ret v => obtain ⟨x7, σ7, H7, I7, r7, q7⟩ := q7; exact ⟨x7, σ7, H7, I7.unpinned, r7, q7⟩
end
end L2
namespace L2
open PySem PySem.Spec PyProof.Rows
abbrev R2 := V -> V -> Hp -> VK -> Prop
def OpR (X : Cx) (f : Value -> Value -> Sem Value) (r : R2) : Prop :=
 ∀ (pins : List (Addr × Obj)) (s : Shared) (σ : St) (H : Hp) (x y : V) (v u : Value) (Q : VK), Inv X pins σ H s -> RelV x v -> RelV y u -> r x y H Q ->
  wpAny (model X.prog X.w) X.A (f v u) (EP X pins σ Q) X.xe s
def UnR (X : Cx) (f : Value -> Sem Value) (r : V -> Hp -> VK -> Prop) : Prop :=
 ∀ (pins : List (Addr × Obj)) (s : Shared) (σ : St) (H : Hp) (x : V) (v : Value) (Q : VK), Inv X pins σ H s -> RelV x v -> r x H Q ->
  wpAny (model X.prog X.w) X.A (f v) (EP X pins σ Q) X.xe s
def Zag (X : Cx) (f : Value) (r : List V -> Hp -> VK -> Prop) : Prop :=
 ∀ (pins : List (Addr × Obj)) (s : Shared) (σ : St) (H : Hp) (xs : List V) (us : List Value) (Q : VK), Inv X pins σ H s -> Vals xs us -> r xs H Q ->
  wpAny (model X.prog X.w) X.A (call f us) (EP X pins σ Q) X.xe s
def TruR (X : Cx) (r : V -> Hp -> (Bool -> Hp -> Prop) -> Prop) : Prop :=
 ∀ (pins : List (Addr × Obj)) (s : Shared) (σ : St) (H : Hp) (x : V) (v : Value) (Q : Bool -> Hp -> Prop), Inv X pins σ H s -> RelV x v -> r x H Q ->
  wpAny (model X.prog X.w) X.A (truthy v) (TP X pins σ Q) X.xe s
def tOp (r : R2) (ta tb : TE) : TE := fun σ H Q => ta σ H fun x H1 => tb σ H1 fun y H2 => r x y H2 Q
def tUn (r : V -> Hp -> VK -> Prop) (ta : TE) : TE := fun σ H Q => ta σ H fun x H1 => r x H1 Q
def rI (C : Int -> Int -> Prop) (g : Int -> Int -> V) : R2 := fun x y H Q => ∃ i j, x = .int i /\ y = .int j /\ C i j /\ Q (g i j) H
def rI0 (g : Int -> Int -> V) : R2 := fun x y H Q => ∃ i j, x = .int i /\ y = .int j /\ Q (g i j) H
def rU (g : Int -> V) : V -> Hp -> VK -> Prop := fun x H Q => ∃ i, x = .int i /\ Q (g i) H
section
variable {X : Cx} {a b c : Expr} {ta tb tc : TE} {pos : Pos}
theorem binT (ha : PE X a ta) (hb : PE X b tb) {pins : List (Addr × Obj)} {s : Shared} {σ : St} {H : Hp} {R : V -> V -> Hp -> Prop} (I : Inv X pins σ H s)
 (h : ta σ H fun x H1 => tb σ H1 fun y H2 => R x y H2) {Q : Value -> Shared -> Prop} {f : Value -> Value -> Sem Value}
 (hf : ∀ v u s2 x y H2, Inv X pins σ H2 s2 -> RelV x v -> RelV y u -> R x y H2 -> wpAny (model X.prog X.w) X.A (f v u) Q X.xe s2) :
 wpAny (model X.prog X.w) X.A (eval a X.env) (fun v s₁ => wpAny (model X.prog X.w) X.A (eval b X.env) (fun u s₂ => wpAny (model X.prog X.w) X.A (f v u) Q X.xe s₂) X.xe s₁) X.xe s := by
 refine thn (ha pins s σ H _ I h) fun v s1 z0 => ?_
 obtain ⟨x, H1, I1, r1, q1⟩ := z0
 refine thn (hb pins s1 σ H1 _ I1 q1) fun u s2 z0 => ?_
 obtain ⟨y, H2, I2, r2, q2⟩ := z0
 exact hf v u s2 x y H2 I2 r1 r2 q2
theorem Zoh {op : Operator} {r : R2} (ho : OpR X (binaryOp op) r) (ha : PE X a ta) (hb : PE X b tb) : PE X (.BinOp a op b pos) (tOp r ta tb) := by
 intro pins s σ H Q I h
 exact wpAny_BinOp (binT ha hb I h fun v u s2 x y H2 I2 rx ry q => ho pins s2 σ H2 x y v u Q I2 rx ry q)
theorem Zoi (ho : UnR X (unaryOp op) r) (ha : PE X a ta) : PE X (.UnaryOp op a pos) (tUn r ta) := by
 intro pins s σ H Q I h
 exact UnaryOp_ (thn (ha pins s σ H _ I h) fun v s1 ⟨x, H1, I1, r1, q1⟩ => ho pins s1 σ H1 x v Q I1 r1 q1)
theorem opI {f : Value -> Value -> Sem Value} {C : Int -> Int -> Prop} {g : Int -> Int -> Int}
 (rule : ∀ (i j : Int) (t u : Tok) (s : Shared) (Q : Value -> Shared -> Prop) (E : Value -> Shared -> Prop), C i j -> Q (.int (g i j) s.toks) { s with toks := s.toks + 1 } -> wpAny (model X.prog X.w) X.A (f (.int i t) (.int j u)) Q E s) :
 OpR X f (rI C fun i j => .int (g i j)) := by
 intro pins s σ H x y v u Q I rx ry h
 obtain ⟨i, j, rfl, rfl, hc, q⟩ := h
 obtain ⟨t, rfl⟩ := rx
 obtain ⟨t', rfl⟩ := ry
 exact rule i j t t' s _ _ hc ⟨.int (g i j), H, I.tok _, ⟨_, rfl⟩, q⟩
theorem opI0 {f : Value -> Value -> Sem Value} {g : Int -> Int -> Int}
 (rule : ∀ (i j : Int) (t u : Tok) (s : Shared) (Q : Value -> Shared -> Prop) (E : Value -> Shared -> Prop), Q (.int (g i j) s.toks) { s with toks := s.toks + 1 } -> wpAny (model X.prog X.w) X.A (f (.int i t) (.int j u)) Q E s) :
 OpR X f (rI0 fun i j => .int (g i j)) := by
 intro pins s σ H x y v u Q I rx ry h
 obtain ⟨i, j, rfl, rfl, q⟩ := h
 obtain ⟨t, rfl⟩ := rx
 obtain ⟨t', rfl⟩ := ry
 exact rule i j t t' s _ _ ⟨.int (g i j), H, I.tok _, ⟨_, rfl⟩, q⟩
theorem opB0 {f : Value -> Value -> Sem Value} {g : Int -> Int -> Bool}
 (rule : ∀ (i j : Int) (t u : Tok) (s : Shared) (Q : Value -> Shared -> Prop) (E : Value -> Shared -> Prop), Q (.bool (g i j)) s -> wpAny (model X.prog X.w) X.A (f (.int i t) (.int j u)) Q E s) :
 OpR X f (rI0 fun i j => .bl (g i j)) := by
 intro pins s σ H x y v u Q I rx ry h
 obtain ⟨i, j, rfl, rfl, q⟩ := h
 obtain ⟨t, rfl⟩ := rx
 obtain ⟨t', rfl⟩ := ry
 exact rule i j t t' s _ _ ⟨.bl (g i j), H, I, rfl, q⟩
def CDiv (i j : Int) : Prop := 0 < j /\ j < 1073741824
def CPow (i j : Int) : Prop := 0 <= j /\ j <= 1000000 /\ i.natAbs < 2 ^ 64
def CMul (i j : Int) : Prop := (-(2 ^ 64) < i /\ i < 2 ^ 64) \/ (-(2 ^ 64) < j /\ j < 2 ^ 64)
theorem CMul.ok (h : CMul i j) : IntMulOk i j := by
 rcases h with ⟨h1, h2⟩ | ⟨h1, h2⟩
 . exact .of_left (intBits_le_64 h1 h2)
 . exact .of_right (intBits_le_64 h1 h2)
theorem ZlV : OpR X (binaryOp .Add) (rI0 fun i j => .int (i + j)) := opI0 fun _ _ _ _ _ _ _ q => add_int q
theorem ZlW : OpR X (binaryOp .Sub) (rI0 fun i j => .int (i - j)) := opI0 fun _ _ _ _ _ _ _ q => sub_int q
theorem ZlX : OpR X (binaryOp .Mult) (rI CMul fun i j => .int (i * j)) := opI fun _ _ _ _ _ _ _ hc q => mul_int q hc.ok
theorem Zkj : OpR X (binaryOp .FloorDiv) (rI CDiv fun i j => .int (i / j)) := opI fun i j _ _ _ _ _ hc q => by
 have h1 : (0 : Int) < j := hc.1
 have h2 : j < 1073741824 := hc.2
 exact floordiv_int (by omega) (by rw [Int.fdiv_eq_ediv_of_nonneg i (by omega)]; exact q) (.inl (PyProof.noPylong_small (by omega)))
theorem ZlY : OpR X (binaryOp .Mod) (rI (fun _ j => 0 < j) fun i j => .int (i % j)) := opI fun i j _ _ _ _ _ hc q => by
 have h1 : (0 : Int) < j := hc
 exact mod_int' (by omega) (by rw [Int.fmod_eq_emod_of_nonneg i (by omega)]; exact q)
theorem ZlZ : OpR X (binaryOp .Pow) (rI CPow fun i j => .int (i ^ j.toNat)) := opI fun _ _ _ _ _ _ _ hc q => pow_int_small hc.1 hc.2.1 hc.2.2 q
theorem unI {f : Value -> Sem Value} {g : Int -> Int}
 (rule : ∀ (i : Int) (t : Tok) (s : Shared) (Q : Value -> Shared -> Prop) (E : Value -> Shared -> Prop), Q (.int (g i) s.toks) { s with toks := s.toks + 1 } -> wpAny (model X.prog X.w) X.A (f (.int i t)) Q E s) :
 UnR X f (rU fun i => .int (g i)) := by
 intro pins s σ H x v Q I rx h
 obtain ⟨i, rfl, q⟩ := h
 obtain ⟨t, rfl⟩ := rx
 exact rule i t s _ _ ⟨.int (g i), H, I.tok _, ⟨_, rfl⟩, q⟩
theorem Zma : UnR X (unaryOp .USub) (rU fun i => .int (-i)) := unI fun _ _ _ _ _ q => neg_int q
end
noncomputable def scal : V -> V -> Bool
 | .non, .non => true | .non, .int _ => true | .int _, .non => true | .non, .bl _ => true | .bl _, .non => true | .non, .str _ => true | .str _, .non => true
 | .int _, .int _ => true | .bl _, .bl _ => true | .str _, .str _ => true | .byt _, .byt _ => true
 | .int _, .str _ => true | .str _, .int _ => true | .bl _, .str _ => true | .str _, .bl _ => true
 | _, _ => false
def rEq : R2 := fun x y H Q => scal x y = true /\ Q (.bl (decide (x = y))) H
def rNe : R2 := fun x y H Q => scal x y = true /\ Q (.bl (!decide (x = y))) H
theorem Zgx : decide (V.int i = V.int j) = (i == j) := by
 rw [Bool.eq_iff_iff]
 simp
theorem ZhH : decide (V.bl i = V.bl j) = (i == j) := by
 rw [Bool.eq_iff_iff]
 simp
theorem Zgy : decide (V.str i = V.str j) = (i == j) := by
 rw [Bool.eq_iff_iff]
 simp
theorem Zgz : decide (V.byt i = V.byt j) = (i.toList == j.toList) := by
 rw [Bool.eq_iff_iff]
 cases i
 cases j
 simp
section
variable {X : Cx} {a b c : Expr} {ta tb tc : TE} {pos : Pos}
theorem Zz (I : Inv X pins σ H s) (q : Q (.bl k) H) (e : k = k') : EP X pins σ Q (.bool k') s := by
 subst e
 exact ⟨.bl k, H, I, rfl, q⟩
theorem Zoj : OpR X (compareOp .Eq) rEq := by
 intro pins s σ H x y v u Q I rx ry h
 obtain ⟨hs, q⟩ := h
 cases x with
 | non =>
  cases rx
  cases y with
  | non => cases ry; exact PySem.EqNone.eq_none_none (Zz I q (by simp))
  | bl j => cases ry; exact PySem.EqNone.eq_none_bool (Zz I q (by simp))
  | int j => obtain ⟨t', rfl⟩ := ry; exact PySem.EqNone.eq_none_int (Zz I q (by simp))
  | str j => obtain ⟨t', rfl⟩ := ry; exact PySem.EqNone.eq_none_str (Zz I q (by simp))
  | _ => exact absurd (show false = true from hs) Bool.false_ne_true
 | bl i =>
  cases rx
  cases y with
  | non => cases ry; exact PySem.EqNone.eq_bool_none (Zz I q (by simp))
  | bl j => cases ry; exact eq_bool (Zz I q ZhH)
  | str j => obtain ⟨t', rfl⟩ := ry; exact PySem.EqMixed.eq_bool_str (Zz I q (by simp))
  | _ => exact absurd (show false = true from hs) Bool.false_ne_true
 | int i =>
  obtain ⟨t, rfl⟩ := rx
  cases y with
  | non => cases ry; exact PySem.EqNone.eq_int_none (Zz I q (by simp))
  | int j => obtain ⟨t', rfl⟩ := ry; exact eq_int (Zz I q Zgx)
  | str j => obtain ⟨t', rfl⟩ := ry; exact PySem.EqMixed.eq_int_str (Zz I q (by simp))
  | _ => exact absurd (show false = true from hs) Bool.false_ne_true
 | str i =>
  obtain ⟨t, rfl⟩ := rx
  cases y with
  | non => cases ry; exact PySem.EqNone.eq_str_none (Zz I q (by simp))
  | bl j => cases ry; exact PySem.EqMixed.eq_str_bool (Zz I q (by simp))
  | int j => obtain ⟨t', rfl⟩ := ry; exact PySem.EqMixed.eq_str_int (Zz I q (by simp))
  | str j => obtain ⟨t', rfl⟩ := ry; exact eq_str (Zz I q Zgy)
  | _ => exact absurd (show false = true from hs) Bool.false_ne_true
 | byt i =>
  obtain ⟨t, rfl⟩ := rx
  cases y with
  | byt j => obtain ⟨t', rfl⟩ := ry; exact PySem.W.eq_bytes (Zz I q Zgz)
  | _ => exact absurd (show false = true from hs) Bool.false_ne_true
 | _ => cases y <;> exact absurd (show false = true from hs) Bool.false_ne_true
theorem Zok : OpR X (compareOp .NotEq) rNe := by
 intro pins s σ H x y v u Q I rx ry h
 obtain ⟨hs, q⟩ := h
 cases x with
 | non =>
  cases rx
  cases y with
  | non => cases ry; exact PySem.EqNone.ne_none_none (Zz I q (by simp))
  | bl j => cases ry; exact PySem.EqNone.ne_none_bool (Zz I q (by simp))
  | int j => obtain ⟨t', rfl⟩ := ry; exact PySem.EqNone.ne_none_int (Zz I q (by simp))
  | str j => obtain ⟨t', rfl⟩ := ry; exact PySem.EqNone.ne_none_str (Zz I q (by simp))
  | _ => exact absurd (show false = true from hs) Bool.false_ne_true
 | bl i =>
  cases rx
  cases y with
  | non => cases ry; exact PySem.EqNone.ne_bool_none (Zz I q (by simp))
  | bl j => cases ry; exact ne_bool (Zz I q (congrArg not ZhH))
  | str j => obtain ⟨t', rfl⟩ := ry; exact PySem.EqMixed.ne_bool_str (Zz I q (by simp))
  | _ => exact absurd (show false = true from hs) Bool.false_ne_true
 | int i =>
  obtain ⟨t, rfl⟩ := rx
  cases y with
  | non => cases ry; exact PySem.EqNone.ne_int_none (Zz I q (by simp))
  | int j => obtain ⟨t', rfl⟩ := ry; exact ne_int (Zz I q (congrArg not Zgx))
  | str j => obtain ⟨t', rfl⟩ := ry; exact PySem.EqMixed.ne_int_str (Zz I q (by simp))
  | _ => exact absurd (show false = true from hs) Bool.false_ne_true
 | str i =>
  obtain ⟨t, rfl⟩ := rx
  cases y with
  | non => cases ry; exact PySem.EqNone.ne_str_none (Zz I q (by simp))
  | bl j => cases ry; exact PySem.EqMixed.ne_str_bool (Zz I q (by simp))
  | int j => obtain ⟨t', rfl⟩ := ry; exact PySem.EqMixed.ne_str_int (Zz I q (by simp))
  | str j => obtain ⟨t', rfl⟩ := ry; exact ne_str (Zz I q (congrArg not Zgy))
  | _ => exact absurd (show false = true from hs) Bool.false_ne_true
 | byt i =>
  obtain ⟨t, rfl⟩ := rx
  cases y with
  | byt j => obtain ⟨t', rfl⟩ := ry; exact PySem.W.ne_bytes (Zz I q (congrArg not Zgz))
  | _ => exact absurd (show false = true from hs) Bool.false_ne_true
 | _ => cases y <;> exact absurd (show false = true from hs) Bool.false_ne_true
theorem Zol : OpR X (compareOp .Lt) (rI0 fun i j => .bl (decide (i < j))) := opB0 fun _ _ _ _ _ _ _ q => lt_int q
theorem Zom : OpR X (compareOp .LtE) (rI0 fun i j => .bl (decide (i <= j))) := opB0 fun _ _ _ _ _ _ _ q => le_int q
theorem Zon : OpR X (compareOp .Gt) (rI0 fun i j => .bl (decide (j < i))) := opB0 fun _ _ _ _ _ _ _ q => gt_int q
theorem Zoo : OpR X (compareOp .GtE) (rI0 fun i j => .bl (decide (j <= i))) := opB0 fun _ _ _ _ _ _ _ q => ge_int q
theorem nomark (b : Expr) (h : op ≠ .In := by decide) (h2 : op ≠ .NotIn := by decide) : behindInMarks op b = false := by
 have e1 : (op == CmpOp.In) = false := by cases op <;> first | rfl | exact absurd rfl h
 have e2 : (op == CmpOp.NotIn) = false := by cases op <;> first | rfl | exact absurd rfl h2
 cases b <;> simp [behindInMarks, e1, e2]
theorem Zkk (ho : OpR X (compareOp op) r) (ha : PE X a ta) (hb : PE X b tb) (hm : behindInMarks op b = false) : PE X (.Compare a [op] [b] pos) (tOp r ta tb) := by
 intro pins s σ H Q I h
 exact wpAny_Compare1 (binT ha hb I h fun v u s2 x y H2 I2 rx ry q => ho pins s2 σ H2 x y v u Q I2 rx ry q) hm
def Zop (t : TE) : TT := fun σ H Q => t σ H fun x H' => ∃ k, x = .bl k /\ Q k H'
theorem Zkl (ho : OpR X (compareOp op) r) (ha : PE X a ta) (hb : PE X b tb) (hm : behindInMarks op b = false) : PT X (.Compare a [op] [b] pos) (Zop (tOp r ta tb)) := by
 intro pins s σ H Q I h
 refine wpAny_isTrue_Compare1 (thn (ha pins s σ H _ I h) fun v s1 ⟨x, H1, I1, r1, q1⟩ => thn (hb pins s1 σ H1 _ I1 q1) fun u s2 ⟨y, H2, I2, r2, q2⟩ =>
  thn (ho pins s2 σ H2 x y v u _ I2 r1 r2 q2) fun c s3 ⟨z, H3, I3, r3, k, e, q3⟩ => ?_) hm
 subst e
 cases r3
 exact wpAny_truthy_bool ⟨H3, I3, q3⟩
def TruV (K : Fg) (x : V) (H : Hp) (k : Bool) : Prop :=
 match x with
 | .non => k = false
 | .bl b => k = b
 | .int i => k = (i != 0)
 | .str y => y.length <= sizeLine /\ k = ((y.length : Int) != 0)
 | .byt y => y.size <= sizeLine /\ k = ((y.size : Int) != 0)
 | .ref p => (∃ xs, SqL K H p xs /\ k = !xs.isEmpty) \/ (∃ xs, SqT K H p xs /\ k = !xs.isEmpty) \/ ∃ kvs, H p = some (.dK kvs) /\ k = !kvs.isEmpty
 | _ => False
theorem ZgP (r : KV kvs vs) : (!vs.isEmpty) = !kvs.isEmpty := by
 cases r <;> rfl
theorem ZdR (r : Vals xs its) : (!its.toArray.isEmpty) = !xs.isEmpty := by
 cases r <;> simp
theorem ZbS : (sizeLine : Nat) < 2 ^ 63 := by rw [sizeLine_eq]; decide
theorem Zmb : TruR X (fun x H Q => ∃ k, TruV X.K x H k /\ Q k H) := by
 intro pins s σ H x v Q I rx h
 obtain ⟨k, e, q⟩ := h
 have hl := ZbS
 have hs : sizeLine = 16777216 := sizeLine_eq
 cases x with
 | non =>
  cases rx
  have e' : k = false := e
  subst e'
  exact truthy_none ⟨H, I, q⟩
 | bl b =>
  cases rx
  have e' : k = b := e
  subst e'
  exact wpAny_truthy_bool ⟨H, I, q⟩
 | int i =>
  obtain ⟨t, rfl⟩ := rx
  have e' : k = (i != 0) := e
  subst e'
  exact PySem.P.truthy_int ⟨H, I, q⟩
 | str y =>
  obtain ⟨t, rfl⟩ := rx
  obtain ⟨hy, e'⟩ : y.length <= sizeLine /\ k = ((y.length : Int) != 0) := e
  subst e'
  exact PySem.P.truthy_str (by omega) ⟨H, I.tok _, q⟩
 | byt y =>
  obtain ⟨t, rfl⟩ := rx
  obtain ⟨hy, e'⟩ : y.size <= sizeLine /\ k = ((y.size : Int) != 0) := e
  subst e'
  exact PySem.W.truthy_bytes (by omega) ⟨H, I.tok _, q⟩
 | ref p =>
  cases rx
  have e' : (∃ xs, SqL X.K H p xs /\ k = !xs.isEmpty) \/ (∃ xs, SqT X.K H p xs /\ k = !xs.isEmpty) \/ ∃ kvs, H p = some (.dK kvs) /\ k = !kvs.isEmpty := e
  rcases e' with ⟨xs, hx, e'⟩ | ⟨xs, hx, e'⟩ | ⟨kvs, hx, e'⟩
  . subst e'
    obtain ⟨its, r, pl, hz⟩ := I.list hx
    have hlen := r.length
    exact wpAny_truthy_list pl.isList (by simp only [List.size_toArray]; omega) ⟨H, I.tok _, by rw [ZdR r]; exact q⟩
  . subst e'
    obtain ⟨its, r, pl, hz⟩ := I.tuple hx
    have hlen := r.length
    exact truthy_tuple pl (by simp only [List.size_toArray]; omega) ⟨H, I.tok _, by rw [ZdR r]; exact q⟩
  . subst e'
    obtain ⟨hz, hS, vs, r, m⟩ : kvs.length <= sizeLine /\ (p == sysModules) = false /\ ∃ vs, KV kvs vs /\ s.heap.DictOf (ZL X.prog X.w) p vs := I.hok p _ hx
    have hlen : kvs.length = vs.length := Paired.length r
    exact wpAny_truthy_dict hS m (by omega) ⟨H, I.tok _, by rw [ZgP r]; exact q⟩
 | _ => exact (show False from e).elim
theorem Zi4 (ha : PE X a ta) (he : ∀ whole, isTrue a X.env whole = (do let v <- whole; standAt a.pos; holding [v] (truthy v))) :
 PT X a (fun σ H Q => ta σ H fun x H' => ∃ k, TruV X.K x H' k /\ Q k H') := by
 intro pins s σ H Q I h
 exact isTrue_plain (thn (ha pins s σ H _ I h) fun v s1 ⟨x, H1, I1, r1, q1⟩ => Zmb pins s1 σ H1 x v Q I1 r1 q1) (he _)
theorem ZgQ : OpR X (binaryOp .Add) (fun x y H Q => ∃ i j, x = .str i /\ y = .str j /\ i.length + j.length <= sizeLine /\ Q (.str (i ++ j)) H) := by
 intro pins s σ H x y v u Q I rx ry h
 obtain ⟨i, j, rfl, rfl, hz, q⟩ := h
 obtain ⟨t, rfl⟩ := rx
 obtain ⟨t', rfl⟩ := ry
 exact add_str (fun t' tk => ⟨.str (i ++ j), H, I.tok _, ⟨_, rfl⟩, q⟩) hz
theorem Zfg (r : Vals [x] us) : ∃ u, us = [u] /\ RelV x u := by
 cases r with
 | cons r1 r2 => cases r2; exact ⟨_, rfl, r1⟩
theorem Zoq (r : Vals [x, y] us) : ∃ u w', us = [u, w'] /\ RelV x u /\ RelV y w' := by
 cases r with
 | cons r1 r2 =>
  cases r2 with
  | cons r3 r4 => cases r4; exact ⟨_, _, rfl, r1, r3⟩
theorem ZhI (hc : X.calm = true) : Zag X (.builtin "min") (fun xs H Q => ∃ i j, xs = [.int i, .int j] /\ Q (.int (if j < i then j else i)) H) := by
 intro pins s σ H xs us Q I r h
 obtain ⟨i, j, rfl, q⟩ := h
 obtain ⟨u, w', rfl, ⟨t, rfl⟩, ⟨t', rfl⟩⟩ := Zoq r
 refine min_two_ints (I.ok.hd hc) fun h' tk k => ⟨_, H, I.kept k, ?_, q⟩
 by_cases hj : j < i
 . rw [if_pos hj, if_pos hj]; exact ⟨_, rfl⟩
 . rw [if_neg hj, if_neg hj]; exact ⟨_, rfl⟩
theorem Zfs : Zag X (.type "str") (fun xs H Q => ∃ i, xs = [.int i] /\ i.natAbs.log2 < 1920 /\ Q (.str (toString i)) H) := by
 intro pins s σ H xs us Q I r h
 obtain ⟨i, rfl, hz, q⟩ := h
 obtain ⟨u, rfl, t, rfl⟩ := Zfg r
 exact PySem.P.str_of_int hz ⟨.str _, H, I.tok _, ⟨_, rfl⟩, q⟩
end
end L2
namespace L2
open PySem PySem.Spec PyProof.Rows
structure ObjM (h : Heap) (x dx C : Addr) (mA : Str -> Option Value) : Prop where
 obj : h.get? x = some (PySem.W.instObj C dx)
 ns : h.Ns1 dx mA
 ne : dx ≠ x
theorem ZeF {h : Heap} {dx : Addr} {mA : Str -> Option Value} (n : h.Ns1 dx mA) : ∃ od, h.get? dx = some od /\ ∀ name, PySem.W.lookIn name od = some (mA name) := by
 obtain ⟨o, es, ep, ho, hd, hk, _, hm⟩ := n
 refine ⟨o, ho, fun name => ?_⟩
 have e := hm name
 unfold nsFind findBy at e
 rw [<- Array.find?_toList] at e
 unfold PySem.W.lookIn
 rw [hd]
 dsimp only
 split
 . rename_i y q
   rw [q] at e
   exact congrArg some e
 . rename_i q
   rw [q] at e
   have a : es.toList.any (·.refKey) = false := by
    rw [List.any_eq_false]
    intro y hy
    obtain ⟨z, t, hkey⟩ := hk y (Array.mem_toList_iff.mp hy)
    simp [DictEntry.refKey, hkey]
   have a' : ¬ es.toList.any (·.refKey) = true := by rw [a]; exact Bool.false_ne_true
   rw [if_neg a']
   exact congrArg some e
theorem ObjM.look (I : ObjM h x dx C mA) : ∃ od, PySem.W.InstAt h x (PySem.W.instObj C dx) C (some od) /\ ∀ name, PySem.W.lookIn name od = some (mA name) :=
 let ⟨od, ho, hl⟩ := ZeF I.ns
 ⟨od, ⟨I.obj, rfl, rfl, ho⟩, hl⟩
section
variable {prog : Program} {w : World} {A : Around} {E : Value -> Shared -> Prop} {s : Shared} {K : Fg} {x dx C f : Addr} {mA : Str -> Option Value} {name : Str} {v : Value}
theorem Zkm (X : K.In s.heap) (I : ObjM s.heap x dx C mA) (hg : PySem.W.plainGet K C name = true) (hh : PySem.W.hasDictIn K C = true)
 (ha : PySem.W.findIn K (.ref C) name = some none) (hv : mA name = some v) (hv' : PySem.W.handedIn v = true) (h : Q v { s with toks := s.toks + 1 }) :
 wpAny (model prog w) A (getAttr (.ref x) name expr) Q E s := by
 obtain ⟨od, J, hl⟩ := I.look
 exact PySem.W.get_value X J (PySem.W.plainGet_of hg).1 (PySem.W.findObj_own hh ha rfl (by rw [hl, hv])) hv' h
theorem Zi5 (X : K.In s.heap) (I : ObjM s.heap x dx C mA) (hg : PySem.W.plainGet K C name = true)
 (hf : PySem.W.findIn K (.ref C) name = some (some (.ref f))) (ht : PySem.W.isFn K (.ref f) = true) (hv : mA name = none) (h : Q (.ref f, [.ref x]) s) :
 wpAny (model prog w) A (getMethod (.ref x) name pl) Q E s := by
 obtain ⟨od, J, hl⟩ := I.look
 exact PySem.W.method_fn X J (PySem.W.plainGet_of hg).1 (PySem.W.plainGet_of hg).2 hf (beq_iff_eq.mp ht) (by show (PySem.W.lookIn name od).map (·.isSome) = some false; rw [hl, hv]; rfl) h
theorem Zkn (X : K.In s.heap) (I : ObjM s.heap x dx C mA)
 (hs : PySem.W.findIn K (.ref C) "__setattr__" = some (some (.builtin "object.__setattr__"))) (hp : PySem.W.plainOver K C = true) (ht : PySem.W.takerIn K C name = some none) (hh : PySem.W.hasDictIn K C = true)
 (hw : PySem.Within mA ns) (hsz : ns.length <= sizeLine)
 (h : ∀ h', ObjM h' x dx C (fun y => if y = name then some v else mA y) -> Heap.SameBut dx s.heap h' -> Q () { s with heap := h', toks := s.toks + 2 }) :
 wpAny (model prog w) A (setAttr (.ref x) name v) Q E s := by
 obtain ⟨od, J, hl⟩ := I.look
 refine PySem.W.set_plain X J hs (PySem.W.osa_open (s := { s with toks := s.toks + 1 }) (r := none) X J hp ht fun b => ?_)
 obtain ⟨cd, hc, hd'⟩ := PySem.W.any_some hh
 have hx : s.heap.get? x = some ⟨.ref C, some dx, .plain, #[]⟩ := I.obj
 refine wpAny_bind (wpAny_pure (wpAny_bind (wpAny_bind (wpAny_loadPart hx (wpAny_bind (PySem.W.Looks.here (s := { s with toks := s.toks + 1 }) (PySem.W.looks_clsIn X hc) ?_))))))
 rw [hd']
 refine wpAny_pure (a := some dx) (wpAny_bind (wpAny_pure (wpAny_bind ?_)))
 refine wpAny_nsSet1 (s := { s with toks := s.toks + 1 }) I.ns fun h' hn2 hs2 => ?_
 obtain ⟨oD, esD, epD, hoD, hdD, hcD⟩ := hn2.count (PySem.Within.cons name v hw)
 refine wpAny_bind (wpAny_lookBehind hoD (by rw [hdD]; exact pastItsLine_dict (Nat.le_trans hcD (by rw [List.length_cons]; omega))) ?_)
 exact wpAny_pure (h _ ⟨(hs2.2 _ (Ne.symm I.ne)).trans I.obj, hn2, I.ne⟩ hs2)
theorem Zft (X : K.In s.heap) (hm : PySem.W.makesIn K C = true)
 (hi : PySem.W.findIn K (.ref C) "__init__" = some (some (.ref f))) (hf : PySem.W.typeIn K (.ref f) = some (.type "function"))
 (h : codeAny (model prog w) (A.under (.builtin "type.__call__" ⟨.ref C :: vs, kw⟩)) (.call (.ref f) ⟨.ref (s.heap.objs.size + 1) :: vs, kw⟩) (PySem.W.InitBack (s.heap.objs.size + 1) R)
  { s with heap := (s.heap.push PySem.W.emptyDict).push (PySem.W.instObj C s.heap.objs.size) }) :
 codeAny (model prog w) A (.call (.ref C) ⟨vs, kw⟩) R s := by
 obtain ⟨hh, g, d, t, os⟩ := s
 exact PySem.W.make_core (PySem.W.makes_of X hm) (PySem.W.looks_findIn X hi) (fun self => PySem.W.bind_fn X self hf) (.inl rfl) h
end
noncomputable def putF (f : Str) (v : V) : List (Str × V) -> List (Str × V)
 | [] => [(f, v)]
 | (g, x) :: r => if g = f then (g, v) :: r else (g, x) :: putF f v r
theorem Zch (f g : Str) (v : V) : ∀ fs : List (Str × V), (putF f v fs).lookup g = if g = f then some v else fs.lookup g
 | [] => by
  show List.lookup g [(f, v)] = _
  by_cases h : g = f
  . have hb : (g == f) = true := beq_iff_eq.mpr h
    simp only [List.lookup, hb, if_pos h]
  . have hb : (g == f) = false := beq_eq_false_iff_ne.mpr h
    simp only [List.lookup, hb, if_neg h]
 | (k, x) :: r => by
  have ih := Zch f g v r
  rw [show putF f v ((k, x) :: r) = (if k = f then (k, v) :: r else (k, x) :: putF f v r) from rfl]
  by_cases hk : k = f
  . rw [if_pos hk]
    by_cases h : g = k
    . have hb : (g == k) = true := beq_iff_eq.mpr h
      simp only [List.lookup, hb, if_pos (h.trans hk)]
    . have hb : (g == k) = false := beq_eq_false_iff_ne.mpr h
      simp only [List.lookup, hb, if_neg (fun e : g = f => h (e.trans hk.symm))]
  . rw [if_neg hk]
    by_cases h : g = k
    . have hb : (g == k) = true := beq_iff_eq.mpr h
      simp only [List.lookup, hb, if_neg (fun e : g = f => hk (h.symm.trans e))]
    . have hb : (g == k) = false := beq_eq_false_iff_ne.mpr h
      simp only [List.lookup, hb]
      exact ih
theorem Zb4 (f : Str) (v : V) : ∀ fs : List (Str × V), f ∈ (putF f v fs).map (·.1) /\ ∀ g, g ∈ fs.map (·.1) -> g ∈ (putF f v fs).map (·.1)
 | [] => ⟨by simp [putF], fun g h => by simp at h⟩
 | (k, x) :: r => by
  obtain ⟨i1, i2⟩ := Zb4 f v r
  rw [show putF f v ((k, x) :: r) = (if k = f then (k, v) :: r else (k, x) :: putF f v r) from rfl]
  by_cases hk : k = f
  . rw [if_pos hk]
    subst hk
    exact ⟨by simp, fun g h => by simpa using h⟩
  . rw [if_neg hk]
    refine ⟨?_, fun g h => ?_⟩
    . rw [List.map_cons]
      exact List.mem_cons_of_mem _ i1
    . rw [List.map_cons] at h ⊢
      rcases List.mem_cons.mp h with e | e
      . exact List.mem_cons.mpr (.inl e)
      . exact List.mem_cons_of_mem _ (i2 g e)
theorem Zci (f : Str) (v : V) : ∀ fs : List (Str × V), (putF f v fs).length <= fs.length + 1
 | [] => by simp [putF]
 | (k, x) :: r => by
  have ih := Zci f v r
  rw [show putF f v ((k, x) :: r) = (if k = f then (k, v) :: r else (k, x) :: putF f v r) from rfl]
  by_cases hk : k = f
  . rw [if_pos hk, List.length_cons, List.length_cons]; omega
  . rw [if_neg hk, List.length_cons, List.length_cons]; omega
theorem RelO.some_of (r : RelO (some v) o) : ∃ u, o = some u /\ RelV v u := by
 cases o with
 | none => exact (show False from r).elim
 | some u => exact ⟨u, rfl, r⟩
theorem RelO.none_of (r : RelO none o) : o = none := by
 cases o with
 | none => rfl
 | some u => exact (show False from r).elim
theorem ZeG (r : RelV v u) : PySem.W.handedIn u = true := by
 cases v with
 | non => cases (show u = Value.none from r); rfl
 | bl b => cases (show u = Value.bool b from r); rfl
 | int i => obtain ⟨t, e⟩ := (show ∃ t, u = Value.int i t from r); cases e; rfl
 | str x => obtain ⟨t, e⟩ := (show ∃ t, u = Value.str x t from r); cases e; rfl
 | byt b => obtain ⟨t, e⟩ := (show ∃ t, u = Value.bytes b t from r); cases e; rfl
 | flt b => obtain ⟨t, e⟩ := (show ∃ t, u = Value.float b t from r); cases e; rfl
 | ref a => cases (show u = Value.ref a from r); rfl
 | ty n => cases (show u = Value.type n from r); rfl
section
theorem Zdt (hok : HOk P w H h) (e : H a = some (.ins C dx fs)) : ∃ mA, ObjM h a dx C mA /\ (∀ f, RelO (fs.lookup f) (mA f)) /\ PySem.Within mA (fs.map (·.1)) /\ fs.length <= 1000 /\ H dx = some (.own a) := by
 obtain ⟨d, z, ne, ob, mA, n, r, q⟩ := (show Z8 P w H h a (.ins C dx fs) from hok a _ e)
 exact ⟨mA, ⟨ob, n, ne⟩, r, q, z, d⟩
end
structure Cls (K : Fg) (C : Addr) : Prop where
 pg : PySem.W.plainGet K C Str.empty = true
 hd : PySem.W.hasDictIn K C = true
 po : PySem.W.plainOver K C = true
 sa : PySem.W.findIn K (.ref C) "__setattr__" = some (some (.builtin "object.__setattr__"))
theorem Cls.get {K : Fg} {C : Addr} (c : Cls K C) (f : Str) : PySem.W.plainGet K C f = true := c.pg
def ZD (K : Fg) (C : Addr) (f : Str) : Prop := PySem.W.findIn K (.ref C) f = some none
theorem ZD.taker {K : Fg} {C : Addr} {f : Str} (n : ZD K C f) : PySem.W.takerIn K C f = some none := by
 unfold PySem.W.takerIn
 rw [show PySem.W.findIn K (.ref C) f = some none from n]
 rfl
structure Meth (K : Fg) (C : Addr) (m : Str) (f : Addr) : Prop where
 at_ : PySem.W.findIn K (.ref C) m = some (some (.ref f))
 fn : PySem.W.isFn K (.ref f) = true
 kp : PySem.W.keepIn K (.ref f) = true
section
theorem ZgR (I : Inv X pins σ H s) (e : H a = some (.ins C dx fs)) (c : Cls X.K C) (n : ZD X.K C f) (l : fs.lookup f = some v)
 (h : ∀ u s', Inv X pins σ H s' -> RelV v u -> Q u s') : wpAny (model X.prog X.w) A (getAttr (.ref a) f b) Q E s := by
 obtain ⟨mA, O, r, _, _, _⟩ := Zdt I.hok e
 obtain ⟨u, hu, ru⟩ := RelO.some_of (v := v) (o := mA f) (by rw [<- l]; exact r f)
 exact Zkm I.kIn O (c.get f) c.hd n hu (ZeG ru) (h u _ (I.tok _) ru)
theorem ZgS (I : Inv X pins σ H s) (e : H a = some (.ins C dx fs)) (c : Cls X.K C) (k : Meth X.K C m g) (l : fs.lookup m = none)
 (h : Q (.ref g, [.ref a]) s) : wpAny (model X.prog X.w) A (getMethod (.ref a) m pl) Q E s := by
 obtain ⟨mA, O, r, _, _, _⟩ := Zdt I.hok e
 have hn : mA m = none := RelO.none_of (by rw [<- l]; exact r m)
 exact Zi5 I.kIn O (c.get m) k.at_ k.fn hn h
theorem ZdS (I : Inv X pins σ H s) (e : H a = some (.ins C dx fs)) (c : Cls X.K C) (n : ZD X.K C f) (hl : fs.length < 1000) (ry : RelV y u)
 (h : ∀ s', Inv X pins σ (upd H a (.ins C dx (putF f y fs))) s' -> Q () s') : wpAny (model X.prog X.w) A (setAttr (.ref a) f u) Q E s := by
 obtain ⟨mA, O, r, wi, _, ho⟩ := Zdt I.hok e
 have hz : (fs.map (·.1)).length <= sizeLine := by rw [List.length_map, sizeLine_eq]; omega
 refine Zkn I.kIn O c.sa c.po n.taker c.hd wi hz fun h' O' sb => h _ ?_
 have hd : ∃ o, h'.get? dx = some o := let ⟨o, _, _, e', _⟩ := O'.ns; ⟨o, e'⟩
 refine I.write (x := a) (e := dx) (by rw [e]; exact True.intro) (.inr ho) (fun b q hb z => (sb.2 b hb).trans z) hd ?_
 refine ⟨by rw [Zj O.ne]; exact ho, ?_, O.ne, O'.obj, _, O'.ns, fun g => ?_, fun g hg => ?_⟩
 . have := Zci f y fs; omega
 . show RelO ((putF f y fs).lookup g) (if g = f then some u else mA g)
   rw [Zch]
   by_cases q : g = f
   . rw [if_pos q, if_pos q]; exact ry
   . rw [if_neg q, if_neg q]; exact r g
 . by_cases q : g = f
   . rw [q]; exact (Zb4 f y fs).1
   . refine (Zb4 f y fs).2 g (wi g fun z => hg ?_)
     show (if g = f then some u else mA g) = none
     rw [if_neg q]; exact z
theorem Inv.made (I : Inv X pins σ H s) : Inv X pins σ (upd (upd H s.heap.objs.size (.own (s.heap.objs.size + 1))) (s.heap.objs.size + 1) (.ins C s.heap.objs.size []))
 { s with heap := (s.heap.push PySem.W.emptyDict).push (PySem.W.instObj C s.heap.objs.size) } := by
 have e1 : (s.heap.push PySem.W.emptyDict).get? s.heap.objs.size = some PySem.W.emptyDict := Heap.get?_push_size s.heap rfl
 have e2 : ((s.heap.push PySem.W.emptyDict).push (PySem.W.instObj C s.heap.objs.size)).get? (s.heap.objs.size + 1) = some (PySem.W.instObj C s.heap.objs.size) := by
  have := Heap.get?_push_size (s.heap.push PySem.W.emptyDict) (o := PySem.W.instObj C s.heap.objs.size) rfl
  rwa [Heap.size_push] at this
 have e3 : (s.heap.push PySem.W.emptyDict).Ns s.heap.objs.size (fun _ => none) := ⟨PySem.W.emptyDict, #[], _, e1, rfl, (fun e he => absurd he (by simp)), fun _ => rfl⟩
 have I1 := I.laid (a := s.heap.objs.size) (o := .own (s.heap.objs.size + 1)) (h' := s.heap.push PySem.W.emptyDict) (t' := s.toks) (fun b u q => Heap.get?_push_of_some _ q) (Nat.le_refl _) ⟨_, e1⟩
 refine I1.laid (a := s.heap.objs.size + 1) (o := .ins C s.heap.objs.size []) (t' := s.toks) (fun b u q => Heap.get?_push_of_some _ q) (Nat.le_of_eq (Heap.size_push _ _)) ?_
 have ne : s.heap.objs.size ≠ s.heap.objs.size + 1 := Nat.ne_of_lt (Nat.lt_succ_self _)
 refine ⟨by rw [Zj ne, Zi], Nat.zero_le _, ne, e2, fun _ => none, (Heap.Ns1.of_empty e3).at fun o q => Heap.get?_push_of_some _ q, fun _ => True.intro, fun y hy => absurd rfl hy⟩
theorem Zg0 (hb : attributeBase e f env (eval e env) = eval e env)
 (h : wpAny (model prog w) A (eval e env) (fun o s₁ => wpAny (model prog w) A (getAttr o f true) Q E s₁) E s) : wpAny (model prog w) A (eval (.Attribute e f pos) env) Q E s :=
 Attribute_any_ h (by rw [arm_eval_Attribute, hb])
end
def tFld (K : Fg) (ta : TE) (f : Str) : TE := fun σ H Q => ta σ H fun x H1 => ∃ a C dx fs v, x = .ref a /\ H1 a = some (.ins C dx fs) /\ Cls K C /\ ZD K C f /\ fs.lookup f = some v /\ Q v H1
def sFld (K : Fg) (ta tv : TE) (f : Str) : TS := fun D σ H => tv σ H fun y H1 => ta σ H1 fun x H2 => ∃ a C dx fs, x = .ref a /\ H2 a = some (.ins C dx fs) /\ Cls K C /\ ZD K C f /\ fs.length < 1000 /\
 D.nx σ (upd H2 a (.ins C dx (putF f y fs)))
section
theorem Zmc (he : PE X e ta) (hb : attributeBase e f X.env (eval e X.env) = eval e X.env) : PE X (.Attribute e f pos) (tFld X.K ta f) := by
 intro pins s σ H Q I h
 refine Zg0 hb (thn (he pins s σ H _ I h) fun u s1 z0 => ?_)
 obtain ⟨x, H1, I1, rx, a, C, dx, fs, v, ex, ea, c, n, l, q⟩ := z0
 subst ex
 obtain rfl : u = Value.ref a := rx
 exact ZgR I1 ea c n l fun u' s2 I2 ru => ⟨v, H1, I2, ru, q⟩
theorem Zmd (ha : PE X o ta) (hv : PE X value tv) (hs : swapsWith value (some (.Attribute o f pos')) pos.line X.env = pure false) : PS X (.Assign [.Attribute o f pos'] value pos) (sFld X.K ta tv f) := by
 intro pins s σ H D I h
 refine plainObj_wpAny_Assign_Attribute (thn (hv pins s σ H _ I h) fun u s1 ⟨y, H1, I1, ry, q⟩ => thn (ha pins s1 σ H1 _ I1 q) fun ov s2 ⟨x, H2, I2, rx, a, C, dx, fs, ex, ea, c, n, l, q2⟩ => ?_) hs
 subst ex
 obtain rfl : ov = Value.ref a := rx
 exact ZdS I2 ea c n l ry fun s3 I3 => ⟨σ, _, I3, q2⟩
end
section
inductive TyOf (K : Fg) (H : Hp) : V -> Value -> Prop where
 | non : TyOf K H .non (.type "NoneType")
 | bl (x : Bool) : TyOf K H (.bl x) (.type "bool")
 | int (i : Int) : TyOf K H (.int i) (.type "int")
 | str (x : Str) : TyOf K H (.str x) (.type "str")
 | flt (x : UInt64) : TyOf K H (.flt x) (.type "float")
 | lst {a : Addr} {xs : List V} (e : H a = some (.lst xs)) : TyOf K H (.ref a) (.type "list")
 | frz {a : Addr} {o : Obj} {xs : List V} (e : H a = some (.frz o (.lst xs))) : TyOf K H (.ref a) (.type "list")
 | tup {a : Addr} {xs : List V} (e : H a = some (.tup xs)) : TyOf K H (.ref a) (.type "tuple")
 | dK {a : Addr} {kvs : List (Key × V)} (e : H a = some (.dK kvs)) : TyOf K H (.ref a) (.type "dict")
 | dT {a : Addr} {kvs : List (List Key × V)} (e : H a = some (.dT kvs)) : TyOf K H (.ref a) (.type "dict")
 | ins {a C dx : Addr} {fs : List (Str × V)} (e : H a = some (.ins C dx fs)) (cl : Cls K C) (ha : PySem.W.findIn K (.ref C) "__class__" = some (some (.builtin "object.__class__")))
  (hn : PySem.W.specialIn K (.builtin "object.__class__") "__get__" = some (some (.builtin "getset_descriptor.__get__"))) (htk : PySem.W.takesIn K (.builtin "object.__class__") = some true)
  (hm : PySem.W.mroIn K C (.type "object") = some true) : TyOf K H (.ref a) (.ref C)
theorem ZhJ (I : Inv X pins σ H s) (rx : RelV x u) (ty : TyOf X.K H x t) (e : PySem.W.kitOne X.K t c = some b) (h : ∀ tk, Q (.bool b) { s with toks := tk }) :
 wpAny (model X.prog X.w) A (call (.builtin "isinstance") [u, c]) Q E s := by
 cases ty with
 | non => cases (show u = Value.none from rx); exact PySem.W.kia_one PySem.W.kitx_none I.kIn True.intro e (fun z => nomatch z) h
 | bl y => cases (show u = Value.bool y from rx); exact PySem.W.kia_one PySem.W.kitx_bool I.kIn True.intro e (fun z => nomatch z) h
 | int i => obtain ⟨t, q⟩ := (show ∃ t, u = Value.int i t from rx); cases q; exact PySem.W.kia_one PySem.W.kitx_int I.kIn True.intro e (fun z => nomatch z) h
 | str y => obtain ⟨t, q⟩ := (show ∃ t, u = Value.str y t from rx); cases q; exact PySem.W.kia_one PySem.W.kitx_str I.kIn True.intro e (fun z => nomatch z) h
 | flt y => obtain ⟨t, q⟩ := (show ∃ t, u = Value.float y t from rx); cases q; exact PySem.W.kia_one PySem.W.kitx_float I.kIn True.intro e (fun z => nomatch z) h
 | @lst a xs ea =>
  cases (show u = Value.ref a from rx)
  obtain ⟨_, _, n, _, h1⟩ := (show Z8 X.prog X.w H s.heap a (.lst xs) from I.hok a _ ea)
  exact PySem.W.kia_one PySem.W.kitx_list I.kIn ⟨_, h1, rfl⟩ e (fun z => nomatch z) h
 | @frz a ob xs ea =>
  cases (show u = Value.ref a from rx)
  obtain ⟨_, _, _, n, _, h1⟩ := (show Z8 X.prog X.w H s.heap a (.frz ob (.lst xs)) from I.hok a _ ea)
  exact PySem.W.kia_one PySem.W.kitx_list I.kIn ⟨_, h1, rfl⟩ e (fun z => nomatch z) h
 | @tup a xs ea =>
  cases (show u = Value.ref a from rx)
  obtain ⟨_, _, _, p⟩ := (show Z8 X.prog X.w H s.heap a (.tup xs) from I.hok a _ ea)
  obtain ⟨o, h1, h2, _⟩ := p
  exact PySem.W.kia_one PySem.W.kitx_tuple I.kIn ⟨o, h1, h2⟩ e (fun z => nomatch z) h
 | @dK a kvs ea =>
  cases (show u = Value.ref a from rx)
  obtain ⟨_, _, vs, _, p⟩ := (show Z8 X.prog X.w H s.heap a (.dK kvs) from I.hok a _ ea)
  obtain ⟨o, es, ep, h1, h2, _⟩ := p
  exact PySem.W.kia_one PySem.W.kitx_dict I.kIn ⟨o, h1, h2.1⟩ e (fun z => nomatch z) h
 | @dT a kvs ea =>
  cases (show u = Value.ref a from rx)
  obtain ⟨_, _, xs, _, o, es, ep, h1, h2, _⟩ := (show Z8 X.prog X.w H s.heap a (.dT kvs) from I.hok a _ ea)
  exact PySem.W.kia_one PySem.W.kitx_dict I.kIn ⟨o, h1, h2.1⟩ e (fun z => nomatch z) h
 | @ins a C dx fs ea cl ha hn htk hm =>
  cases (show u = Value.ref a from rx)
  obtain ⟨mA, O, _⟩ := Zdt I.hok ea
  obtain ⟨od, J, _⟩ := O.look
  exact PySem.W.kia_one (PySem.W.kitx_own (cl.get _) cl.hd ha hn htk hm) I.kIn J e (fun z => nomatch z) h
end
end L2
namespace L2
open PySem PySem.Spec PyProof.Rows
structure Room (k : Nat) (A : Around) : Prop where
 hd : A.handled = none
 dp : A.depth + 3 * k + 5 < recursionLimit
 un : A.units + 16 * k + 200 < cLine
theorem Room.mono (r : Room k A) (h : j <= k) : Room j A := ⟨r.hd, by have := r.dp; omega, by have := r.un; omega⟩
theorem Room.deeper (r : Room (k + 1) A) (env : Env) : Room k (A.deeper env) :=
 ⟨r.hd, by have := r.dp; show A.depth + 1 + 3 * k + 5 < _; omega, by have := r.un; show A.units + 3 + 16 * k + 200 < _; omega⟩
theorem ZgT {A : Around} {C : Addr} {us : List Value} {kw : List (Str × Value)} : (A.under (.builtin "type.__call__" ⟨.ref C :: us, kw⟩)).depth = A.depth + 1 := by
 first | rfl | simp [Around.under, Code.weight, Code.isCreation, Code.isGuard, Code.isCaller, Code.frames, Code.isFrame, guardIds]
theorem ZgU {A : Around} {C : Addr} {us : List Value} {kw : List (Str × Value)} : (A.under (.builtin "type.__call__" ⟨.ref C :: us, kw⟩)).units = A.units + 1 := by
 first | rfl | simp [Around.under, Code.cUnits, Code.frames, Code.isFrame]
theorem Room.make (r : Room (k + 1) A) (C : Addr) (us : List Value) (kw : List (Str × Value)) : Room k (A.under (.builtin "type.__call__" ⟨.ref C :: us, kw⟩)) :=
 ⟨r.hd, by have := r.dp; rw [ZgT]; omega, by have := r.un; rw [ZgU]; omega⟩
theorem Room.depth (r : Room k A) : A.depth < recursionLimit := by have := r.dp; omega
theorem Room.units (r : Room k A) : A.units + 64 < cLine := by have := r.un; omega
def tNil : TA := fun _ H Q => Q [] H
def Zor (ta : TE) (tr : TA) : TA := fun σ H Q => ta σ H fun x H1 => tr σ H1 fun xs H2 => Q (x :: xs) H2
section
theorem Zb5 : PA X [] tNil := fun _ _ _ _ H Q I h => Calls.spliced_nil ⟨[], H, I, .nil, h⟩
theorem Zai (ha : PE X e te) (hr : PA X es t) (hs : starEach (e :: es) X.env = (false, eval e X.env) :: starEach es X.env := by rfl) : PA X (e :: es) (Zor te t) := by
 intro pos pins s σ H Q I h
 rw [hs]
 show wpAny _ _ (spliced ((false, eval e X.env) :: backTo pos (starEach es X.env))) _ _ s
 refine Calls.spliced_cons (thn (ha pins s σ H _ I h) fun u s1 z0 => ?_)
 obtain ⟨x, H1, I1, r1, q1⟩ := z0
 exact thn (hr pos pins s1 σ H1 _ I1 q1) fun us s2 ⟨xs, H2, I2, r2, q2⟩ => ⟨x :: xs, H2, I2, .cons r1 r2, q2⟩
def tTup (t : TA) : TE := fun σ H Q => t σ H fun xs H1 => xs.length <= sizeLine /\ ∀ p, H1 p = none -> Q (.ref p) (upd H1 p (.tup xs))
def tLst (t : TA) : TE := fun σ H Q => t σ H fun xs H1 => xs.length <= sizeLine /\ ∀ p, H1 p = none -> Q (.ref p) (upd H1 p (.lst xs))
theorem Zme {x1} (h : PA X es t) : PE X (.Tuple es x1 pos) (tTup t) := by
 intro pins s σ H Q I hq
 refine wpAny_Tuple_spliced (thn (h pos pins s σ H _ I hq) fun us s1 ⟨xs, H1, I1, r, z, q⟩ => ⟨by rw [<- r.length]; exact z, ?_⟩)
 have hf : H1 s1.heap.objs.size = none := I1.hok.fresh (Nat.le_refl _)
 refine ⟨.ref s1.heap.objs.size, upd H1 s1.heap.objs.size (.tup xs), I1.laid (t' := s1.toks) (fun b u e => Heap.get?_push_of_some _ e) (Nat.le_refl _) ?_, rfl, q _ hf⟩
 exact ⟨z, us, r, ⟨_, Heap.get?_push_size _ rfl, rfl, _, rfl⟩⟩
theorem ZhK (h : PA X es t) : PE X (.List es pos) (tLst t) := by
 intro pins s σ H Q I hq
 refine wpAny_List_spliced (thn (h pos pins s σ H _ I hq) fun us s1 ⟨xs, H1, I1, r, z, q⟩ => ⟨by rw [<- r.length]; exact z, ?_⟩)
 have hf : H1 s1.heap.objs.size = none := I1.hok.fresh (Nat.le_refl _)
 refine ⟨.ref s1.heap.objs.size, upd H1 s1.heap.objs.size (.lst xs), I1.laid (t' := s1.toks) (fun b u e => Heap.get?_push_of_some _ e) (Nat.le_refl _) ?_, rfl, q _ hf⟩
 exact ⟨z, us, 0, r, Heap.get?_push_size _ rfl⟩
end
abbrev Sp := List V -> Hp -> VK -> XK -> Prop
abbrev CXT := List Env -> Hp -> Shared -> XK -> Value -> Shared -> Prop
structure Env0 (P : Program) (w : World) (K : Fg) (mg : Str -> Option Value) (base : Heap) (A : Around) (outer : List Env) (s : Shared) (H : Hp) : Prop where
 frames : A.frames = some outer
 mod : Mod K mg base
 bs : ∀ b o, base.get? b = some o -> s.heap.get? b = some o /\ H b = none
 bsz : base.objs.size <= s.heap.objs.size
 funs : s.heap.FunFrames base outer
 frf : ∀ b ∈ frs outer, H b = none
 hok : HOk P w H s.heap
 bare : AllBare s.gens
def CE (outer : List Env) (P : Program) (w : World) (H : Hp) (s : Shared) (Q : VK) (u : Value) (s' : Shared) : Prop :=
 ∃ v H', s'.os = s.os /\ AllBare s'.gens /\ Un (frs outer) [] H H' s.heap s'.heap /\ HOk P w H' s'.heap /\ RelV v u /\ Q v H'
def CR (CX : CXT) (outer : List Env) (P : Program) (w : World) (H : Hp) (s : Shared) (Q : VK) (E : XK) (r : Result) (s' : Shared) : Prop :=
 match r with
 | .ok (.ret u) => CE outer P w H s Q u s'
 | .ok _ => False
 | .error e => CX outer H s E e s'
structure FnOk (P : Program) (w : World) (K : Fg) (mg : Str -> Option Value) (base : Heap) (CX : CXT) (k : Nat) (f : Addr) (fd : FuncData) (ps : List Str) (sp : Sp) : Prop where
 len : ∀ vs H Q E, sp vs H Q E -> vs.length = ps.length
 run : ∀ (A : Around) (outer : List Env) (s : Shared) (H : Hp) (args : Args) (us : List Value) (vs : List V) (Q : VK) (E : XK), Room k A -> Env0 P w K mg base A outer s H -> BindsTo s fd args (ps.zip us) -> Vals vs us -> sp vs H Q E ->
  codeAny (model P w) A (.call (.ref f) args) (CR CX outer P w H s Q E) s
theorem Env0.make {P : Program} {w : World} {K : Fg} {mg : Str -> Option Value} {base : Heap} {A : Around} {outer : List Env} {s : Shared} {H : Hp} (e : Env0 P w K mg base A outer s H) (C : Addr) (us : List Value) (kw : List (Str × Value)) :
 Env0 P w K mg base (A.under (.builtin "type.__call__" ⟨.ref C :: us, kw⟩)) outer s H := ⟨by first | exact e.frames | (simpa [Around.under, Code.envs, Code.isFrame, pushEnvs] using e.frames), e.mod, e.bs, e.bsz, e.funs, e.frf, e.hok, e.bare⟩
section
theorem Inv.env0 (I : Inv X pins σ H s) : Env0 X.prog X.w X.K X.mg X.base X.A X.stack s H :=
 ⟨I.ok.frames, I.ok.mod, I.bs, Nat.le_trans I.ok.bsz I.sz, I.stack, I.stkFree, I.hok, I.bare⟩
theorem Inv.after (I : Inv X pins σ H s) (h : CE X.stack X.prog X.w H s Q u s') : EP X pins σ Q u s' := by
 obtain ⟨v, H', os, bare, un, hok, r, q⟩ := h
 obtain ⟨hh, g, d, t, os'⟩ := s'
 obtain rfl : os' = s.os := os
 exact ⟨v, H', I.call (h' := hh) (g' := g) (d' := d) (t' := t) (ch := []) un hok bare (fun b z => absurd z (by simp)), r, q⟩
end
def ZjD (sp : Sp) (dvs : List V) (E : XK) (t : TA) : TE := fun σ H Q => t σ H fun vs H1 => sp (vs ++ dvs) H1 Q E
def ZjE (C : Addr) (m : Str) (sp : Sp) (dvs : List V) (E : XK) (ta : TE) (t : TA) : TE := fun σ H Q => ta σ H fun x H1 => ∃ a dx fs, x = .ref a /\ H1 a = some (.ins C dx fs) /\ fs.lookup m = none /\
 t σ H1 fun vs H2 => sp (x :: (vs ++ dvs)) H2 Q E
def ZjF (C : Addr) (sp : Sp) (dvs : List V) (E : XK) (t : TA) : TE := fun σ H Q => t σ H fun vs H1 => ∀ x dx, H1 x = none -> H1 dx = none -> dx ≠ x ->
 sp (.ref x :: (vs ++ dvs)) (upd (upd H1 dx (.own x)) x (.ins C dx [])) (fun v H2 => v = .non /\ Q (.ref x) H2) E
def Binds (K : Fg) (fd : FuncData) (ps : List Str) (ds : List Value) : Prop :=
 ∀ (s : Shared) (us : List Value), K.In s.heap -> (us ++ ds).length = ps.length -> BindsTo s fd ⟨us, []⟩ (ps.zip (us ++ ds))
theorem Binds.all {K : Fg} {fd : FuncData} {ps : List Str} (h : ∀ us : List Value, us.length = ps.length -> bindArgs fd ⟨us, []⟩ = pure (ps.zip us)) : Binds K fd ps [] := fun s us _ hl => by
 rw [List.append_nil] at hl ⊢
 exact .of_eq (h us hl)
def Passes (CX : CXT) (X : Cx) (E : XK) : Prop := ∀ (pins : List (Addr × Obj)) (σ : St) (H : Hp) (s : Shared) (e : Value) (s' : Shared), Inv X pins σ H s -> CX X.stack H s E e s' -> X.xe e s'
section
theorem ZhL (F : FnOk X.prog X.w X.K X.mg X.base CX k f fd ps sp) (hr : Room k X.A) (hb : Binds X.K fd ps ds) (hd : Vals dvs ds) (hx : Passes CX X E)
 (I : Inv X pins σ H s) (r : Vals vs us) (h : sp (vs ++ dvs) H Q E) : wpAny (model X.prog X.w) X.A (call (.ref f) us) (EP X pins σ Q) X.xe s := by
 have r2 : Vals (vs ++ dvs) (us ++ ds) := r.append hd
 have hl : (us ++ ds).length = ps.length := by rw [<- r2.length]; exact F.len _ _ _ _ h
 refine wpAny_call (codeAny_mono (F.run X.A X.stack s H ⟨us, []⟩ (us ++ ds) (vs ++ dvs) Q E hr I.env0 (hb s us I.kIn hl) r2 h) fun r s' hq => ?_)
 cases r with
 | error e => exact hx pins σ H s e s' I hq
 | ok fl =>
  cases fl with
  | ret u => exact I.after hq
  | next => exact False.elim hq
  | brk => exact False.elim hq
  | cont => exact False.elim hq
theorem Zko (F : FnOk X.prog X.w X.K X.mg X.base CX k f fd ps sp) (hr : Room k X.A) (hg : Gl X x) (hm : X.mg x = some (.ref f)) (hk : PySem.W.keepIn X.K (.ref f) = true) (hb : Binds X.K fd ps ds) (hd : Vals dvs ds) (hx : Passes CX X E)
 (ha : PA X (e :: es) t) (hdb : (x == ("__debug__" : Str)) = false := by decide) (he : starEach (e :: es) X.env = (false, eval e X.env) :: starEach es X.env := by rfl) (hpl : (backTo pos (starEach es X.env)).any (·.1) = false := by rfl) :
 PE X (.Call (.Name x p) (e :: es) [] pos) (ZjD sp dvs E t) := by
 intro pins s σ H Q I h
 refine wpAny_Call_Name_kw (Zbp I hg hm ?_ hdb)
 refine PySem.W.callWith_K (h₀ := X.base) I.ok.mod.kin hk (thn (ha pos pins s σ H _ I h) fun us s1 ⟨vs, H1, I1, r, q⟩ => ⟨I1.kIn, ?_⟩) he hpl
 exact ZhL F hr hb hd hx I1 r q
theorem Zi6 (he : PE X o ta) (c : Cls X.K C) (hm : Meth X.K C m f) (F : FnOk X.prog X.w X.K X.mg X.base CX k f fd ps sp) (hr : Room k X.A) (hb : Binds X.K fd ps ds) (hd : Vals dvs ds) (hx : Passes CX X E)
 (ht : eval (.Call (.Attribute o m apos) [] [] pos) X.env = (do
  let ov <- eval o X.env
  standAt apos.atName
  let (f, first) <- holding [ov] (getMethod ov m pl)
  callWith pos f first (backTo pos (starEach [] X.env)) (backToKw pos (keywordEach [] X.env))) := by rfl) :
 PE X (.Call (.Attribute o m apos) [] [] pos) (ZjE C m sp dvs E ta tNil) := by
 intro pins s σ H Q I h
 refine PySem.W.methodCall_KW (pl := pl) (thn (he pins s σ H _ I h) fun u s1 z0 => ?_) ht
 obtain ⟨x, H1, I1, rx, a, dx, fs, ex, ea, l, q⟩ := z0
 subst ex
 obtain rfl : u = Value.ref a := rx
 refine ZgS I1 ea c hm l ?_
 exact PySem.W.callWith_K0 (first := [.ref a]) I1.kIn hm.kp (ZhL (us := [.ref a]) (vs := [.ref a]) F hr hb hd hx I1 (.cons rfl .nil) q)
structure Mk (K : Fg) (C f : Addr) : Prop where
 makes : PySem.W.makesIn K C = true
 init : PySem.W.findIn K (.ref C) "__init__" = some (some (.ref f))
 fn : PySem.W.isFn K (.ref f) = true
 kp : PySem.W.keepIn K (.ref C) = true
theorem Zi7 (M : Mk X.K C f) (F : FnOk X.prog X.w X.K X.mg X.base CX k f fd ps sp) (hr : Room (k + 1) X.A) (hb : Binds X.K fd ps ds) (hd : Vals dvs ds)
 (hx : Passes CX X E) (I : Inv X pins σ H s) (r : Vals vs us)
 (h : ∀ x dx, H x = none -> H dx = none -> dx ≠ x -> sp (.ref x :: (vs ++ dvs)) (upd (upd H dx (.own x)) x (.ins C dx [])) (fun v H2 => v = .non /\ Q (.ref x) H2) E) :
 wpAny (model X.prog X.w) X.A (call (.ref C) us) (EP X pins σ Q) X.xe s := by
 have hq := h (s.heap.objs.size + 1) s.heap.objs.size (I.hok.fresh (Nat.le_succ _)) (I.hok.fresh (Nat.le_refl _)) (Nat.ne_of_lt (Nat.lt_succ_self _))
 have I2 := Inv.made (C := C) I
 have r2 : Vals (V.ref (s.heap.objs.size + 1) :: (vs ++ dvs)) (Value.ref (s.heap.objs.size + 1) :: (us ++ ds)) := .cons rfl (r.append hd)
 have hl : (Value.ref (s.heap.objs.size + 1) :: us ++ ds).length = ps.length := by
  have e := r2.length
  rw [F.len _ _ _ _ hq] at e
  exact e.symm
 refine wpAny_call (Zft (f := f) I.kIn M.makes M.init (beq_iff_eq.mp M.fn) (codeAny_mono (F.run _ X.stack _ _ ⟨Value.ref (s.heap.objs.size + 1) :: us, []⟩ (Value.ref (s.heap.objs.size + 1) :: (us ++ ds)) _ _ E (hr.make C us [])
  (I2.env0.make C us []) (hb _ (Value.ref (s.heap.objs.size + 1) :: us) I2.kIn hl) r2 hq) fun r s' hq' => ?_))
 cases r with
 | error e => exact hx pins σ _ _ e s' I2 hq'
 | ok fl =>
  cases fl with
  | ret u =>
   obtain ⟨v, H', I3, rv, ev, q3⟩ := I2.after hq'
   subst ev
   exact ⟨rv, ⟨V.ref (s.heap.objs.size + 1), H', I3, rfl, q3⟩⟩
  | next => exact False.elim hq'
  | brk => exact False.elim hq'
  | cont => exact False.elim hq'
theorem Zkp (M : Mk X.K C f) (F : FnOk X.prog X.w X.K X.mg X.base CX k f fd ps sp) (hr : Room (k + 1) X.A) (hg : Gl X x) (hm : X.mg x = some (.ref C)) (hb : Binds X.K fd ps ds) (hd : Vals dvs ds) (hx : Passes CX X E)
 (ha : PA X (e :: es) t) (hdb : (x == ("__debug__" : Str)) = false := by decide) (he : starEach (e :: es) X.env = (false, eval e X.env) :: starEach es X.env := by rfl) (hpl : (backTo pos (starEach es X.env)).any (·.1) = false := by rfl) :
 PE X (.Call (.Name x p) (e :: es) [] pos) (ZjF C sp dvs E t) := by
 intro pins s σ H Q I h
 refine wpAny_Call_Name_kw (Zbp I hg hm ?_ hdb)
 refine PySem.W.callWith_K (h₀ := X.base) I.ok.mod.kin M.kp (thn (ha pos pins s σ H _ I h) fun us s1 ⟨vs, H1, I1, r, q⟩ => ⟨I1.kIn, ?_⟩) he hpl
 exact Zi7 M F hr hb hd hx I1 r q
end
structure FnScope (N P : List Str) (sc : Scope) : Prop where
 kind : sc.kind = .function
 co : sc.isCoroutine = false
 gen : sc.isGenerator = false
 nd : N.Nodup
 pre : N.take P.length = P
 par : ∀ x ∈ P, sc.names.lookup x = some .local \/ sc.names.lookup x = some .cell
 nofree : ∀ y ∈ sc.names, y.2 ≠ .free
theorem ZeH {kindOf : Str -> Option NameKind} {x : Str} : ∀ {binds : List (Str × Value)} {m : Str -> Option Value}, (∀ v, (x, v) ∉ binds) -> bindL kindOf binds m x = m x
 | [], _, _ => rfl
 | (n, v) :: r, m, h => by
  unfold bindL
  rw [ZeH fun w hw => h w (List.mem_cons_of_mem _ hw)]
  split
  . have : x ≠ n := by rintro rfl; exact h v List.mem_cons_self
    simp [this]
  . rfl
theorem ZeI {kindOf : Str -> Option NameKind} {x : Str} : ∀ {binds : List (Str × Value)} {m : Str -> Option Value}, (∀ v, (x, v) ∉ binds) -> bindC kindOf binds m x = m x
 | [], _, _ => rfl
 | (n, v) :: r, m, h => by
  unfold bindC
  rw [ZeI fun w hw => h w (List.mem_cons_of_mem _ hw)]
  split
  . rfl
  . have : x ≠ n := by rintro rfl; exact h v List.mem_cons_self
    simp [this]
theorem ZeJ {kindOf : Str -> Option NameKind} {x : Str} {v : Value} : ∀ {P : List Str} {vs : List Value} {i : Nat} {m : Str -> Option Value}, P.Nodup -> P[i]? = some x -> vs[i]? = some v -> kindOf x = some .local ->
 bindL kindOf (P.zip vs) m x = some v
 | [], _, _, _, _, h, _, _ => by simp at h
 | _ :: _, [], _, _, _, _, h, _ => by simp at h
 | p :: P, w :: vs, 0, m, nd, h1, h2, hk => by
  simp at h1 h2; subst h1; subst h2
  show bindL kindOf ((p, w) :: P.zip vs) m p = _
  unfold bindL
  rw [ZeH fun v hv => (List.nodup_cons.mp nd).1 (List.of_mem_zip hv).1, if_pos hk]
  simp
 | p :: P, w :: vs, i + 1, m, nd, h1, h2, hk => by
  show bindL kindOf ((p, w) :: P.zip vs) m x = _
  unfold bindL
  exact ZeJ (i := i) (List.nodup_cons.mp nd).2 (by simpa using h1) (by simpa using h2) hk
theorem ZeK {kindOf : Str -> Option NameKind} {x : Str} {v : Value} : ∀ {P : List Str} {vs : List Value} {i : Nat} {m : Str -> Option Value}, P.Nodup -> P[i]? = some x -> vs[i]? = some v -> kindOf x ≠ some .local ->
 bindC kindOf (P.zip vs) m x = some v
 | [], _, _, _, _, h, _, _ => by simp at h
 | _ :: _, [], _, _, _, _, h, _ => by simp at h
 | p :: P, w :: vs, 0, m, nd, h1, h2, hk => by
  simp at h1 h2; subst h1; subst h2
  show bindC kindOf ((p, w) :: P.zip vs) m p = _
  unfold bindC
  rw [ZeI fun v hv => (List.nodup_cons.mp nd).1 (List.of_mem_zip hv).1, if_neg hk]
  simp
 | p :: P, w :: vs, i + 1, m, nd, h1, h2, hk => by
  show bindC kindOf ((p, w) :: P.zip vs) m x = _
  unfold bindC
  exact ZeK (i := i) (List.nodup_cons.mp nd).2 (by simpa using h1) (by simpa using h2) hk
noncomputable def start (N : List Str) (vs : List V) : St := vs.map some ++ List.replicate (N.length - vs.length) none
noncomputable def cxOf (CX : CXT) (P : Program) (w : World) (K : Fg) (mg : Str -> Option Value) (base : Heap) (N : List Str) (qual : Str) (scope : Scope) (f : Addr) (cd : Value) (A : Around) (outer : List Env) (s : Shared) (H : Hp) (E : XK) : Cx where
 prog := P
 w := w
 K := K
 mg := mg
 base := base
 A := A.deeper (envOfC qual scope s.heap.objs.size f cd)
 N := N
 s₀ := s
 H₀ := H
 env := envOfC qual scope s.heap.objs.size f cd
 outer := outer
 stack := envOfC qual scope s.heap.objs.size f cd :: outer
 ex := []
 calm := true
 fn := fun _ => true
 pn := []
 xe := fun e s' => wpAny (model P w) (A.deeper (envOfC qual scope s.heap.objs.size f cd)) (leaving (envOfC qual scope s.heap.objs.size f cd) e) (fun _ s'' => CX outer H s E e s'') (fun e' s'' => CX outer H s E e' s'') s'
theorem Zfu {sc : Scope} {n : Nat} {x : Str} (h : sc.names.lookup x = some .cell) : ∃ c, (cellsFrom n sc.names []).lookup x = some c := by
 have q := PySem.W.cellsFrom_some sc.names n [] (.inl h)
 exact Option.isSome_iff_exists.mp q
theorem ZeL {CX : CXT} {P : Program} {w : World} {K : Fg} {mg : Str -> Option Value} {base : Heap} {N ps : List Str} {qual : Str} {scope : Scope} {f : Addr} {cd : Value} {A : Around} {outer : List Env} {s s1 : Shared} {H : Hp} {E : XK} {us : List Value} {vs : List V}
 (S : FnScope N ps scope) (hd : A.handled = none) (e0 : Env0 P w K mg base A outer s H) (hl : vs.length = ps.length) (r : Vals vs us)
 (x : InCallC s s.heap.objs.size (bindL (envOfC qual scope s.heap.objs.size f cd).kindOf (ps.zip us) fun _ => none) (cellsFrom (s.heap.objs.size + 1) scope.names []) (bindC (envOfC qual scope s.heap.objs.size f cd).kindOf (ps.zip us) fun _ => none) s1) :
 Inv (cxOf CX P w K mg base N qual scope f cd A outer s H E) [] (start N vs) H s1 := by
 have hpl : ps.length <= N.length := by have := congrArg List.length S.pre; rw [List.length_take] at this; omega
 obtain ⟨h1, tk, rfl, hk⟩ := x.done
 have noA : ∀ b : Addr, b ∉ (cxOf CX P w K mg base N qual scope f cd A outer s H E).ex := fun b z => absurd (show b ∈ ([] : List Addr) from z) (by simp)
 refine ⟨⟨e0.mod, S.kind, rfl, rfl, Nat.le_refl _, fun y z c h1 h2 => ?_, fun y hy => ?_, fun y c _ h => ?_, fun _ => hd, Around.frames_deeper e0.frames, .inr ⟨rfl, rfl⟩, fun b z => absurd z (noA b), e0.bs, e0.bsz, fun b _ _ => noA b, fun b z => absurd z (noA b), e0.funs, e0.frf⟩,
  rfl, e0.bare, Un.kept hk, ⟨_, x.toInCall.ns, fun i y v h1 h2 h3 => ?_⟩, fun y c h => ⟨_, x.cell y c h⟩, e0.hok.fresh (Nat.le_refl _), fun y c h => ?_, fun p hp => absurd (show p ∈ ([] : List (Addr × Obj)) from hp) (by simp), e0.hok.kept hk, ?_⟩
 . exact name_of_addr x.apart (PySem.mem_of_lookup h1) (PySem.mem_of_lookup h2)
 . have hy : scope.names.lookup y = some .cell \/ scope.names.lookup y = some .free := hy
   rcases hy with hy | hy
   . exact Zfu hy
   . exact absurd rfl (S.nofree _ (PySem.mem_of_lookup hy))
 . exact Nat.le_of_lt (x.above y c (PySem.mem_of_lookup h))
 . have hi : i < vs.length := by
    unfold start at h2
    by_cases hi : i < vs.length
    . exact hi
    . rw [List.getElem?_append_right (by simpa using hi)] at h2
      rw [List.getElem?_replicate] at h2
      split at h2 <;> cases h2
   have ha : vs[i]? = some v := by
    unfold start at h2
    rw [List.getElem?_append_left (by simpa using hi), List.getElem?_map] at h2
    cases e : vs[i]? with
    | none => rw [e] at h2; cases h2
    | some a => rw [e] at h2; cases h2; rfl
   obtain ⟨u, hu, rv⟩ := r.get ha
   have hp : ps[i]? = some y := by
    rw [<- S.pre, List.getElem?_take_of_lt (by omega)]; exact h1
   have ndP : ps.Nodup := by rw [<- S.pre]; exact S.nd.sublist (List.take_sublist _ _)
   refine ⟨u, rv, ?_⟩
   rcases S.par y (List.mem_of_getElem? hp) with k | k
   . exact .inl ⟨k, ZeJ ndP hp hu k⟩
   . obtain ⟨c, e⟩ := Zfu (n := s.heap.objs.size + 1) k
     refine .inr ⟨.inl k, c, e, ?_⟩
     have q := x.cell y c e
     rw [ZeK ndP hp hu (by show scope.names.lookup y ≠ _; rw [k]; decide)] at q
     exact q
 . exact e0.hok.fresh (Nat.le_of_lt (x.above y c (PySem.mem_of_lookup h)))
 . unfold start
   show _ = N.length
   rw [List.length_append, List.length_map, List.length_replicate]
   omega
theorem Zos {CX : CXT} {P : Program} {w : World} {K : Fg} {mg : Str -> Option Value} {base : Heap} {k : Nat} {f : Addr} {name qual : Str} {params : Arguments} {body : List Stmt} {scope : Scope} {dV kV doc pm cdv ct oc : Value} {an od : Option Addr}
 {osl : Array (Option Value)} {N ps : List Str} {sp : Sp} (lk : K.lookup f = some ⟨oc, od, .func (PySem.W.fnOf name qual params body scope dV kV doc pm an cdv ct), osl⟩) (hcd : PySem.W.codeIn K cdv qual = true) (S : FnScope N ps scope)
 (len : ∀ vs H Q E, sp vs H Q E -> vs.length = ps.length)
 (hbody : ∀ (A : Around) (outer : List Env) (s : Shared) (H : Hp) (vs : List V) (Q : VK) (E : XK), Room k (A.deeper (envOfC qual scope s.heap.objs.size f cdv)) -> sp vs H Q E ->
  ∃ t, PSs (cxOf CX P w K mg base N qual scope f cdv A outer s H E) body t /\ t { nx := fun _ H' => Q .non H', rt := Q } (start N vs) H) :
 FnOk P w K mg base CX (k + 1) f (PySem.W.fnOf name qual params body scope dV kV doc pm an cdv ct) ps sp := by
 refine ⟨len, fun A outer s H args us vs Q E hr e0 hb r hsp => ?_⟩
 have hl := len _ _ _ _ hsp
 have KX : K.In s.heap := e0.mod.kin.keeps fun b o e => (e0.bs b o e).1
 have lim : s.heap.NoLimit := e0.mod.nolimit.keeps fun b o e => (e0.bs b o e).1
 have hkind : ∀ y ∈ ps.zip us, scope.names.lookup y.1 = some .local \/ (scope.names.lookup y.1 = some .cell /\ ((cellsFrom (s.heap.objs.size + 1) scope.names []).lookup y.1).isSome = true) := fun ⟨n, v⟩ hy => by
  rcases S.par n (List.of_mem_zip hy).1 with q | q
  . exact .inl q
  . exact .inr ⟨q, PySem.W.cellsFrom_some _ _ _ (.inl q)⟩
 refine codeAny_call_function hr.depth (KX _ _ lk) rfl S.co S.gen rfl (PySem.W.codeRec_of KX hcd) (hb _ _ _ _ ?_)
 refine wpAny_newFunctionEnv_cells S.kind hkind fun env he s1 x => ?_
 subst he
 refine ⟨lim.keeps x.toInCall.keep, codeAny_func ?_⟩
 obtain ⟨t, ht, hq⟩ := hbody A outer s H vs Q E (hr.deeper _) hsp
 have I : Inv (cxOf CX P w K mg base N qual scope f cdv A outer s H E) [] (start N vs) H s1 := ZeL S hr.hd e0 hl r x
 refine wpAny_mono (ht [] s1 (start N vs) H _ I hq) (fun fl s' hs => ?_) fun e s' hs => hs
 have fin : ∀ {σ' : St} {H' : Hp} {v : V} {u : Value}, Inv (cxOf CX P w K mg base N qual scope f cdv A outer s H E) [] σ' H' s' -> RelV v u -> Q v H' -> CE outer P w H s Q u s' :=
  fun {σ' H' v u} J rv q => ⟨v, H', J.os, J.bare, J.base, J.hok, rv, q⟩
 cases fl with
 | ret u =>
  obtain ⟨v, σ', H', J, rv, q⟩ := hs
  exact fin J rv q
 | next =>
  obtain ⟨σ', H', J, q⟩ := hs
  exact fin (v := V.non) (u := Value.none) J rfl q
 | brk =>
  obtain ⟨_, _, _, q⟩ := hs
  exact False.elim q
 | cont =>
  obtain ⟨_, _, _, q⟩ := hs
  exact False.elim q
end L2
namespace L2
open PySem PySem.Spec PyProof.Rows
section
variable {X : Cx} {x : Str} {p pos : Pos} {e : Expr} {es : List Expr} {t : TA} {id T : String} {r : List V -> Hp -> VK -> Prop}
def tCB (r : List V -> Hp -> VK -> Prop) (t : TA) : TE := fun σ H Q => t σ H fun vs H1 => r vs H1 Q
theorem Zc1 (hc : Zag X (.builtin id) r) (hg : Gl X x) (hm : X.mg x = none) (hv : bootBuiltins x = some (.builtin id)) (ha : PA X (e :: es) t) (hn : x ≠ "__name__" := by decide) (hdb : (x == ("__debug__" : Str)) = false := by decide)
 (he : starEach (e :: es) X.env = (false, eval e X.env) :: starEach es X.env := by rfl) (hpl : (backTo pos (starEach es X.env)).any (·.1) = false := by rfl) : PE X (.Call (.Name x p) (e :: es) [] pos) (tCB r t) := by
 intro pins s σ H Q I h
 refine wpAny_Call_Name_kw (ZcM I hg hm hv ?_ hn hdb)
 exact PyProof.Rows.callWith_builtin1 (thn (ha pos pins s σ H _ I h) fun us s1 ⟨vs, H1, I1, r1, q1⟩ => hc pins s1 σ H1 vs us Q I1 r1 q1) he hpl
theorem ZhM (hc : Zag X (.type T) r) (hg : Gl X x) (hm : X.mg x = none) (hv : bootBuiltins x = some (.type T)) (ha : PA X (e :: es) t) (hn : x ≠ "__name__" := by decide) (hdb : (x == ("__debug__" : Str)) = false := by decide)
 (he : starEach (e :: es) X.env = (false, eval e X.env) :: starEach es X.env := by rfl) (hpl : (backTo pos (starEach es X.env)).any (·.1) = false := by rfl) : PE X (.Call (.Name x p) (e :: es) [] pos) (tCB r t) := by
 intro pins s σ H Q I h
 refine wpAny_Call_Name_kw (ZcM I hg hm hv ?_ hn hdb)
 exact PyProof.Rows.callWith_type1 (thn (ha pos pins s σ H _ I h) fun us s1 ⟨vs, H1, I1, r1, q1⟩ => hc pins s1 σ H1 vs us Q I1 r1 q1) he hpl
end
end L2
namespace HT
open PySem PyProof.Rows
section
variable {prog : Program} {w : World} {A : Around} {E : Value -> Shared -> Prop} {s : Shared}
noncomputable def sIx (n d : Nat) : Option Int -> Nat
 | none => d
 | some v => if v < 0 then (v + (n : Int)).toNat else min v.toNat n
theorem Zg1 (n d k : Nat) : sIx n d (some (k : Int)) = min k n := by
 show (if (k : Int) < 0 then ((k : Int) + (n : Int)).toNat else min (k : Int).toNat n) = min k n
 rw [if_neg (by omega), Int.toNat_natCast]
end
end HT
namespace L2
open PySem PySem.Spec PyProof.Rows
abbrev TO := St -> Hp -> (Option Int -> Hp -> Prop) -> Prop
def PO (X : Cx) (e : Option Expr) (t : TO) : Prop :=
 ∀ (pins : List (Addr × Obj)) (s : Shared) (σ : St) (H : Hp) (Q : Option Int -> Hp -> Prop), Inv X pins σ H s -> t σ H Q ->
  wpAny (model X.prog X.w) X.A (evalPart e X.env) (fun u s' => ∃ o H', Inv X pins σ H' s' /\ IsPart u o /\ Q o H') X.xe s
noncomputable def Zkq : TO := fun _ H Q => Q none H
noncomputable def Zot (t : TE) : TO := fun σ H Q => t σ H fun x H1 => ∃ i, x = .int i /\ Q (some i) H1
section
variable {X : Cx} {e : Expr} {te : TE} {lo hi : Option Expr} {tl th : TO} {pos p2 : Pos}
theorem Zkr : PO X none Zkq := by
 intro pins s σ H Q I h
 rw [evalPart_none]
 exact wpAny_pure ⟨none, H, I, .none, h⟩
theorem Zks (h : PE X e te) : PO X (some e) (Zot te) := by
 intro pins s σ H Q I hw
 rw [evalPart_some]
 refine thn (h pins s σ H _ I hw) fun u s1 z0 => ?_
 obtain ⟨x, H1, I1, r1, q1⟩ := z0
 obtain ⟨i, rfl, q⟩ := q1
 obtain ⟨t, rfl⟩ := r1
 exact ⟨some i, H1, I1, .int i t, q⟩
def SlR (X : Cx) (r : V -> Option Int -> Option Int -> Hp -> VK -> Prop) : Prop :=
 ∀ (pins : List (Addr × Obj)) (s : Shared) (σ : St) (H : Hp) (x : V) (v vl vu : Value) (lo hi : Option Int) (sl : Addr) (Q : VK), Inv X pins σ H s -> RelV x v -> s.heap.IsSliceOf sl vl vu .none -> IsPart vl lo -> IsPart vu hi -> r x lo hi H Q ->
  ∃ T id, typeLookup (.type T) "__getitem__" = pure (some (.builtin id)) /\ s.TypeIs v T /\ wpAny (model X.prog X.w) X.A (getItem v (.ref sl)) (EP X pins σ Q) X.xe s
def tSl (r : V -> Option Int -> Option Int -> Hp -> VK -> Prop) (te : TE) (tl th : TO) : TE := fun σ H Q => te σ H fun x H1 => tl σ H1 fun l H2 => th σ H2 fun u H3 => r x l u H3 Q
theorem Zi8 (hr : SlR X r) (he : PE X e te) (hl : PO X lo tl) (hu : PO X hi th) : PE X (.Subscript e (.Slice lo hi none p2) pos) (tSl r te tl th) := by
 intro pins s σ H Q I h
 refine Subscript_ (thn (he pins s σ H _ I h) fun v s1 z0 => ?_)
 obtain ⟨x, H1, I1, r1, q1⟩ := z0
 refine wpAny_Slice (thn (hl pins s1 σ H1 _ I1 q1) fun vl s2 ⟨l, H2, I2, pl, q2⟩ => thn (hu pins s2 σ H2 _ I2 q2) fun vu s3 ⟨u, H3, I3, pu, q3⟩ => ?_)
 rw [evalPart_none]
 refine wpAny_pure ?_
 have I4 : Inv X pins σ H3 { s3 with heap := s3.heap.push { cls := .type "slice", data := .fields #[vl, vu, .none] } } := I3.kept (t' := s3.toks) fun b ob q => Heap.get?_push_of_some _ q
 obtain ⟨T, id, hT, ht, hg⟩ := hr pins { s3 with heap := s3.heap.push { cls := .type "slice", data := .fields #[vl, vu, .none] } } σ H3 x v vl vu l u s3.heap.objs.size Q I4 r1 (Heap.IsSliceOf.new ..) pl pu q3
 show wpAny (model X.prog X.w) X.A (subscriptTail e (.Slice lo hi none p2) v (.ref s3.heap.objs.size)) (EP X pins σ Q) X.xe { s3 with heap := s3.heap.push { cls := .type "slice", data := .fields #[vl, vu, .none] } }
 exact tail_any (ops := [.ref s3.heap.objs.size, v]) ht hT hg (by with_unfolding_all rfl)
noncomputable def cutV (xs : List V) (lo hi : Option Int) : List V := (xs.drop (HT.sIx xs.length 0 lo)).take (HT.sIx xs.length xs.length hi - HT.sIx xs.length 0 lo)
theorem Zgn (xs : List V) (lo hi : Option Int) : (cutV xs lo hi).length <= xs.length := by
 unfold cutV
 rw [List.length_take, List.length_drop]
 omega
end
end L2
namespace L2
open PySem PySem.Spec PyProof.Rows
noncomputable def ixN (n : Nat) (i : Int) : Option Nat := if 0 <= i then (if i < n then some i.toNat else none) else if -(n : Int) <= i then some (i + n).toNat else none
noncomputable def atI {α : Type} (xs : List α) (i : Int) : Option α := (ixN xs.length i).bind fun j => xs[j]?
theorem Zg2 (h : ixN n i = some j) : seqIndex? i n = some j /\ j < n /\ -(n : Int) <= i /\ i < n := by
 unfold ixN at h
 by_cases h0 : 0 <= i
 . rw [if_pos h0] at h
   by_cases h1 : i < n
   . rw [if_pos h1] at h
     have e : i.toNat = j := Option.some.inj h
     exact ⟨by rw [seqIndex_of h0 h1, e], by omega, by omega, h1⟩
   . rw [if_neg h1] at h; cases h
 . rw [if_neg h0] at h
   by_cases h1 : -(n : Int) <= i
   . rw [if_pos h1] at h
     have e : (i + n).toNat = j := Option.some.inj h
     exact ⟨by rw [seqIndex_neg (by omega) h1, e], by omega, h1, by omega⟩
   . rw [if_neg h1] at h; cases h
theorem Zey (h : atI xs i = some v) : ∃ j, seqIndex? i xs.length = some j /\ xs[j]? = some v /\ j < xs.length /\ -(xs.length : Int) <= i /\ i < xs.length := by
 unfold atI at h
 cases e : ixN xs.length i with
 | none => rw [e] at h; cases h
 | some j =>
  rw [e] at h
  obtain ⟨h1, h2, h3, h4⟩ := Zg2 e
  exact ⟨j, h1, h, h2, h3, h4⟩
def Zg3 (b : Expr) : Prop := ∀ o i, subscripted b false o i = operate [o, i] (getItem o i)
def IxR (X : Cx) (r : R2) : Prop :=
 ∀ (value slice : Expr) (pins : List (Addr × Obj)) (s : Shared) (σ : St) (H : Hp) (x y : V) (v u : Value) (Q : VK), Inv X pins σ H s -> RelV x v -> RelV y u -> r x y H Q ->
  subscripted slice false v u = operate [v, u] (getItem v u) -> wpAny (model X.prog X.w) X.A (subscriptTail value slice v u) (EP X pins σ Q) X.xe s
def MtR (X : Cx) (id : String) (r : V -> List V -> Hp -> VK -> Prop) : Prop :=
 ∀ (pins : List (Addr × Obj)) (s : Shared) (σ : St) (H : Hp) (x : V) (xs : List V) (v : Value) (us : List Value) (Q : VK), Inv X pins σ H s -> RelV x v -> Vals xs us -> r x xs H Q ->
  wpAny (model X.prog X.w) X.A (call (.builtin id) (v :: us)) (EP X pins σ Q) X.xe s
section
variable {X : Cx} {a b : Expr} {ta tb : TE} {pos : Pos}
theorem Zou (hr : IxR X r) (ha : PE X a ta) (hb : PE X b tb) (hs : Zg3 b) : PE X (.Subscript a b pos) (tOp r ta tb) := by
 intro pins s σ H Q I h
 exact Subscript_ (binT ha hb I h fun v u s2 x y H2 I2 rx ry q => hr a b pins s2 σ H2 x y v u Q I2 rx ry q (hs _ _))
def rIxL (K : Fg) : R2 := fun x y H Q => ∃ p xs i v, x = .ref p /\ y = .int i /\ SqL K H p xs /\ atI xs i = some v /\ Q v H
def rIxT (K : Fg) : R2 := fun x y H Q => ∃ p xs i v, x = .ref p /\ y = .int i /\ SqT K H p xs /\ atI xs i = some v /\ Q v H
def rIxS : R2 := fun x y H Q => ∃ z i c, x = .str z /\ y = .int i /\ z.length <= sizeLine /\ atI z.cps.toList i = some c /\ Q (.str ⟨#[c]⟩) H
theorem Zg4 : IxR X (rIxL X.K) := by
 intro value slice pins s σ H x y v u Q I rx ry h hs
 obtain ⟨p, xs, i, z, rfl, rfl, hq, he, q⟩ := h
 cases rx
 obtain ⟨t, rfl⟩ := ry
 obtain ⟨its, r, pl, hz⟩ := I.list hq
 obtain ⟨j, h1, h2, h3, h4, h5⟩ := Zey he
 obtain ⟨w, ew, rw'⟩ := r.get h2
 have hl := r.length
 have hn := ZbS
 have fin : EP X pins σ Q w s := ⟨z, H, I, rw', q⟩
 by_cases h0 : 0 <= i
 . have hj : i.toNat = j := by
    rw [seqIndex_of h0 h5] at h1
    exact Option.some.inj h1
   exact item_listR pl.isList h0 (by omega) (by rw [hj]; simpa using ew) fin hs
 . have hj : (i + (its.toArray.size : Int)).toNat = j := by
    rw [seqIndex_neg (by omega) h4] at h1
    rw [List.size_toArray, <- hl]
    exact Option.some.inj h1
   exact subscriptTail_builtinR (x := w) pl.isList.typeIs slot_list_getitem.lookup
    (wpAny_getItem_list_neg (Q := fun r s' => r = w /\ EP X pins σ Q r s') pl.isList (by omega) (by rw [List.size_toArray] <;> omega) (by omega) (by rw [hj]; simpa using ew) ⟨rfl, fin⟩) hs
theorem ZhN : IxR X (rIxT X.K) := by
 intro value slice pins s σ H x y v u Q I rx ry h hs
 obtain ⟨p, xs, i, z, rfl, rfl, hq, he, q⟩ := h
 cases rx
 obtain ⟨t, rfl⟩ := ry
 obtain ⟨its, r, pl, hz⟩ := I.tuple hq
 obtain ⟨j, h1, h2, h3, h4, h5⟩ := Zey he
 obtain ⟨w, ew, rw'⟩ := r.get h2
 have hl := r.length
 have hn := ZbS
 have fin : EP X pins σ Q w s := ⟨z, H, I, rw', q⟩
 exact subscriptTail_builtinR (x := w) pl.typeIs slot_tuple_getitem.lookup
  (getItem_tuple (j := j) (Q := fun r s' => r = w /\ EP X pins σ Q r s') pl (by omega) (by omega) (by rw [List.size_toArray, <- hl]; exact h1) (by simpa using ew) ⟨rfl, fin⟩) hs
theorem Zmf : IxR X rIxS := by
 intro value slice pins s σ H x y v u Q I rx ry h hs
 obtain ⟨z, i, c, rfl, rfl, hz, he, q⟩ := h
 obtain ⟨t, rfl⟩ := rx
 obtain ⟨t', rfl⟩ := ry
 obtain ⟨j, h1, h2, h3, h4, h5⟩ := Zey he
 have hl : z.cps.toList.length = z.length := by simp [Str.length]
 rw [hl] at h1 h4 h5
 have hn := ZbS
 exact tail_any (typeIs_str s z t) slot_str_getitem.lookup (getItem_str (c := c) (by
  have e1 : decide (i < -(2 ^ 63 : Int)) = false := decide_eq_false (by omega)
  have e2 : decide (i ≥ 2 ^ 63) = false := decide_eq_false (by omega)
  rw [e1, e2, Bool.or_false]) (by rw [h1]; simpa using h2) ⟨.str ⟨#[c]⟩, H, I.tok _, ⟨_, rfl⟩, q⟩) hs
theorem ZgV (its : List Value) (n j : Nat) (u : Value) : Obj.mapSeq (·.setIfInBounds j u) { cls := .type "list", data := .seq its.toArray n } = { cls := .type "list", data := .seq (its.set j u).toArray n } := by
 simp [Obj.mapSeq]
theorem Inv.lst (I : Inv X pins σ H s) (h : H p = some (.lst xs)) :
 ∃ (its : List Value) (n : Nat), Vals xs its /\ s.heap.get? p = some { cls := .type "list", data := .seq its.toArray n } /\ xs.length <= sizeLine := by
 obtain ⟨z, its, n, r, e⟩ := I.hok p _ h
 exact ⟨its, n, r, e, z⟩
theorem Inv.lstUpd {pins : List (Addr × Obj)} {σ : St} {H : Hp} {s : Shared} {p : Addr} {xs ys : List V} {its its' : List Value} {n n' : Nat} {f : Obj -> Obj} (I : Inv X pins σ H s) (h : H p = some (.lst xs))
 (ho : s.heap.get? p = some { cls := .type "list", data := .seq its.toArray n }) (hf : f { cls := .type "list", data := .seq its.toArray n } = { cls := .type "list", data := .seq its'.toArray n' }) (r : Vals ys its') (hz : ys.length <= sizeLine) (t : Nat) :
 Inv X pins σ (upd H p (.lst ys)) { s with heap := s.heap.update p f, toks := t } := by
 have e : (s.heap.update p f).get? p = some { cls := .type "list", data := .seq its'.toArray n' } := by
  rw [Heap.get?_update_self f ho (by rw [hf] <;> rfl), hf]
 refine I.write (x := p) (e := p) (by rw [h]; trivial) (.inl rfl) (fun b u hb q => (Heap.get?_update_other _ _ (Ne.symm hb)).trans q) ⟨_, e⟩ ?_
 exact ⟨hz, its', n', r, e⟩
def ZjG : V -> V -> V -> Hp -> (Hp -> Prop) -> Prop := fun o i v H Q => ∃ p xs k j, o = .ref p /\ i = .int k /\ H p = some (.lst xs) /\ ixN xs.length k = some j /\ Q (upd H p (.lst (xs.set j v)))
theorem Zi9 : PSet X ZjG := by
 intro pins s σ H o i v ov iv u Q I ro ri rv h
 obtain ⟨p, xs, k, j, rfl, rfl, hp, hj, q⟩ := h
 cases ro
 obtain ⟨t, rfl⟩ := ri
 obtain ⟨its, n, r, ho, hz⟩ := I.lst hp
 obtain ⟨h1, h2, h3, h4⟩ := Zg2 hj
 have hl := r.length
 have hn := ZbS
 have I' : Inv X pins σ (upd H p (.lst (xs.set j v))) { s with heap := s.heap.update p (Obj.mapSeq (·.setIfInBounds j u)) } :=
  I.lstUpd hp ho (ZgV its n j u) (r.set rv j) (by rw [List.length_set]; exact hz) s.toks
 by_cases h0 : 0 <= k
 . have hk : k.toNat = j := by
    rw [seqIndex_of h0 h4] at h1
    exact Option.some.inj h1
   exact PySem.W.ki_setAt ho h0 (by omega) (by rw [List.size_toArray, <- hl]; exact h4) (by rw [hk]; exact ⟨_, I', q⟩)
 . have hk : (k + (its.toArray.size : Int)).toNat = j := by
    rw [seqIndex_neg (by omega) h3] at h1
    rw [List.size_toArray, <- hl]
    exact Option.some.inj h1
   exact PySem.W.ki_setBack ho (by omega) (by rw [List.size_toArray, <- hl]; exact h3) (by omega) (by rw [hk]; exact ⟨_, I', q⟩)
theorem Zfv (lo hi : Option Int) (n : Nat) : (sliceBounds lo hi none n).1 = ((HT.sIx n 0 lo : Nat) : Int) /\ (sliceBounds lo hi none n).2.1 = ((HT.sIx n n hi : Nat) : Int) /\ (sliceBounds lo hi none n).2.2 = 1 := by
 refine ⟨?_, ?_, rfl⟩
 . cases lo with
   | none => simp [sliceBounds, HT.sIx]
   | some i =>
    simp only [sliceBounds, HT.sIx, Option.getD_none, show (1 : Int) > 0 by decide, if_true]
    by_cases h : i < 0
    . simp only [h, if_true] <;> omega
    . simp only [h, if_false] <;> omega
 . cases hi with
   | none => simp [sliceBounds, HT.sIx]
   | some i =>
    simp only [sliceBounds, HT.sIx, Option.getD_none, show (1 : Int) > 0 by decide, if_true]
    by_cases h : i < 0
    . simp only [h, if_true] <;> omega
    . simp only [h, if_false] <;> omega
theorem Zfc (its : List Value) (lo hi : Option Int) : slicePick its.toArray lo hi none = ((its.drop (HT.sIx its.length 0 lo)).take (HT.sIx its.length its.length hi - HT.sIx its.length 0 lo)).toArray := by
 obtain ⟨h1, h2, h3⟩ := Zfv lo hi its.toArray.size
 unfold slicePick
 rw [h1, h2, h3]
 simp only [sliceRange_one, pick_run, List.size_toArray] <;> rfl
def rSlL (K : Fg) : V -> Option Int -> Option Int -> Hp -> VK -> Prop := fun x lo hi H Q => ∃ a xs, x = .ref a /\ SqL K H a xs /\ ∀ p, H p = none -> Q (.ref p) (upd H p (.lst (cutV xs lo hi)))
theorem Zg5 : SlR X (rSlL X.K) := by
 intro pins s σ H x v vl vu lo hi sl Q I rx hs pl pu h
 obtain ⟨a, xs, rfl, hx, q⟩ := h
 cases rx
 obtain ⟨its, r, ht, hz⟩ := I.list hx
 have hlen := r.length
 refine ⟨"list", _, slot_list_getitem.lookup, ht.isList.typeIs, ?_⟩
 refine wpAny_getItem_list_slice ht.isList hs pl pu .none (by simp) ?_ (by rw [List.size_toArray] <;> omega)
 rw [Zfc, <- hlen]
 refine ⟨.ref s.heap.objs.size, _, I.laid (t' := s.toks) (o := .lst (cutV xs lo hi)) (fun b ob q => Heap.get?_push_of_some _ q) (Nat.le_refl _) ?_, rfl, q _ (I.hok.fresh (Nat.le_refl _))⟩
 exact ⟨Nat.le_trans (Zgn xs lo hi) hz, _, 0, (r.drop (HT.sIx xs.length 0 lo)).take (HT.sIx xs.length xs.length hi - HT.sIx xs.length 0 lo), Heap.get?_push_size _ rfl⟩
noncomputable def Zov : V -> Bool
 | .non => true
 | .bl _ => true
 | .int _ => true
 | .str _ => true
 | _ => false
noncomputable def eqV : V -> V -> Bool
 | .non, .non => true
 | .bl a, .bl b => a == b
 | .bl a, .int b => (if a then 1 else 0) == b
 | .int a, .bl b => a == (if b then 1 else 0)
 | .int a, .int b => a == b
 | .str a, .str b => a == b
 | _, _ => false
theorem ZaZ : Zag X (.builtin "len") (fun xs H Q => ∃ p ys, xs = [.ref p] /\ (SqL X.K H p ys \/ SqT X.K H p ys) /\ Q (.int ys.length) H) := by
 intro pins s σ H xs us Q I r h
 obtain ⟨p, ys, rfl, hq, q⟩ := h
 obtain ⟨u, rfl, rx⟩ := Zfg r
 cases rx
 have hn := ZbS
 rcases hq with hq | hq
 . obtain ⟨its, r', pl, hz⟩ := I.list hq
   have hlen := r'.length
   exact Calls.call_len_list pl.isList (by simp only [List.size_toArray] <;> omega) ⟨.int ys.length, H, I.tok _, ⟨s.toks + 1, by rw [List.size_toArray, hlen]⟩, q⟩
 . obtain ⟨its, r', pl, hz⟩ := I.tuple hq
   have hlen := r'.length
   exact len_tuple pl (by simp only [List.size_toArray] <;> omega) ⟨.int ys.length, H, I.tok _, ⟨s.toks + 1, by rw [List.size_toArray, hlen]⟩, q⟩
theorem Zfw : Zag X (.builtin "len") (fun xs H Q => ∃ z, xs = [.str z] /\ z.length <= sizeLine /\ Q (.int z.length) H) := by
 intro pins s σ H xs us Q I r h
 obtain ⟨z, rfl, hz, q⟩ := h
 obtain ⟨u, rfl, t, rfl⟩ := Zfg r
 have hn := ZbS
 exact len_str (by omega) ⟨.int z.length, H, I.tok _, ⟨_, rfl⟩, q⟩
def tyV (K : Fg) (T : String) (x : V) (H : Hp) : Prop := match x with
 | .str _ => T = "str"
 | .int _ => T = "int"
 | .ref p => (T = "list" /\ ∃ xs, SqL K H p xs) \/ (T = "tuple" /\ ∃ o, K.lookup p = some o /\ o.cls = .type "tuple" /\ o.dict = none) \/
  (T = "dict" /\ ((∃ kvs, H p = some (.dK kvs)) \/ ∃ kvs, H p = some (.dT kvs))) \/ (T = "set" /\ ∃ S n, H p = some (.set S n))
 | _ => False
theorem Zmg (I : Inv X pins σ H s) (r : RelV x v) (ty : tyV X.K T x H) :
 s.TypeIs v T /\ ∀ a, v = .ref a -> ∃ ob, s.heap.get? a = some ob /\ ob.dict = none := by
 cases x with
 | str z =>
  obtain ⟨t, rfl⟩ := r
  cases (show T = "str" from ty)
  exact ⟨typeIs_str s z t, fun _ e => nomatch e⟩
 | int i =>
  obtain ⟨t, rfl⟩ := r
  cases (show T = "int" from ty)
  exact ⟨typeIs_int s i t, fun _ e => nomatch e⟩
 | ref p =>
  cases r
  rcases ty with ⟨rfl, xs, hq⟩ | ⟨rfl, o, hk, hc, hd⟩ | ⟨rfl, hk⟩ | ⟨rfl, S, n, hk⟩
  . obtain ⟨its, _, pl, _⟩ := I.list hq
    refine ⟨pl.isList.typeIs, fun a e => ?_⟩
    cases e
    obtain ⟨o, n, e, c, hd, _⟩ := pl
    exact ⟨o, e, hd⟩
  . refine ⟨⟨o, I.kIn p o hk, hc⟩, fun a e => ?_⟩
    cases e
    exact ⟨o, I.kIn _ o hk, hd⟩
  . have z : ∃ o, s.heap.get? p = some o /\ o.ExactDict := by
     rcases hk with ⟨kvs, hk⟩ | ⟨kvs, hk⟩
     . obtain ⟨_, _, _, _, o, _, _, e, ex, _⟩ := I.hok p _ hk
       exact ⟨o, e, ex⟩
     . obtain ⟨_, _, _, _, o, _, _, e, ex, _⟩ := I.hok p _ hk
       exact ⟨o, e, ex⟩
    obtain ⟨o, e, ex⟩ := z
    refine ⟨⟨o, e, ex.1⟩, fun a e2 => ?_⟩
    cases e2
    exact ⟨o, e, ex.2.1⟩
  . obtain ⟨o, _, _, _, e, ex, _⟩ := I.hok p _ hk
    refine ⟨⟨o, e, ex.1⟩, fun a e2 => ?_⟩
    cases e2
    exact ⟨o, e, ex.2.1⟩
 | _ => exact False.elim ty
def tBM (K : Fg) (T : String) (r : V -> List V -> Hp -> VK -> Prop) (to : TE) (t : TA) : TE := fun σ H Q => to σ H fun x H1 => tyV K T x H1 /\ t σ H1 fun xs H2 => r x xs H2 Q
variable {o e : Expr} {es : List Expr} {to : TE} {t : TA} {name : Str} {apos cpos : Pos} {T id : String} {r : V -> List V -> Hp -> VK -> Prop}
theorem ZgW (pa : PlainAttrs T) (slot : Slot T name id) (hty : typeOf (.builtin id) = pure (.type "method_descriptor")) (hm : MtR X id r) (ho : PE X o to) (ha : PA X (e :: es) t)
 (hbase : attributeBase o name X.env (eval o X.env) = eval o X.env := by rfl)
 (hfew : ((backTo cpos (starEach (e :: es) X.env)).all (fun x => !x.1) && (backToKw cpos (keywordEach [] X.env)).all (fun x => x.1.isSome)
  && decide ((e :: es).length + ([] : List Keyword).length + (if ([] : List Keyword).isEmpty then 0 else 1) < 30)) = true := by rfl)
 (hline : (apos.endLine == cpos.line) = true := by rfl) (hs : starEach (e :: es) X.env = (false, eval e X.env) :: starEach es X.env := by rfl) (hplain : (backTo cpos (starEach es X.env)).any (·.1) = false := by rfl) :
 PE X (.Call (.Attribute o name apos) (e :: es) [] cpos) (tBM X.K T r to t) := by
 intro pins s σ H Q I h
 refine wpAny_Call_method_late hbase hfew hline rfl (thn (ho pins s σ H _ I h) fun v s1 z0 => ?_)
 obtain ⟨x, H1, I1, r1, ty, q1⟩ := z0
 obtain ⟨h1, h2⟩ := Zmg I1 r1 ty
 refine ⟨T, id, pa, slot, hty, h1, h2, ?_⟩
 have hA := ha cpos pins s1 σ H1 _ I1 q1
 rw [hs] at hA ⊢
 refine Calls.callWith_builtin (by show (false || (backTo cpos (starEach es X.env)).any (·.1)) = false; rw [hplain] <;> rfl) (Calls.evalArgs_plain ?_)
 exact thn hA fun us s2 ⟨vs, H2, I2, r2, q2⟩ => hm pins s2 σ H2 x vs v us Q I2 r1 r2 q2
end
end L2
namespace L2
open PySem PySem.Spec PyProof.Rows
def MtM (X : Cx) (id : String) (r : V -> List V -> Hp -> VK -> Prop) : Prop :=
 ∀ (pins : List (Addr × Obj)) (s : Shared) (σ : St) (H : Hp) (x : V) (xs : List V) (v : Value) (us : List Value) (Q : VK), Inv X pins σ H s -> RelV x v -> Vals xs us -> r x xs H Q ->
  wpAny (model X.prog X.w) X.A (call (.builtin id) (v :: us)) (EP X pins σ Q) X.xe s
theorem Vals.one : ∀ {x : V} {us : List Value}, Vals [x] us -> ∃ u, us = [u] /\ RelV x u
 | _, _, .cons r .nil => ⟨_, rfl, r⟩
theorem Vals.two : ∀ {x y : V} {us : List Value}, Vals [x, y] us -> ∃ u v, us = [u, v] /\ RelV x u /\ RelV y v
 | _, _, _, .cons r (.cons q .nil) => ⟨_, _, rfl, r, q⟩
theorem Vals.reverse (h : Vals xs us) : Vals xs.reverse us.reverse := by
 induction h with
 | nil => exact .nil
 | cons r t ih => rw [List.reverse_cons, List.reverse_cons]; exact Vals.append ih (.cons r .nil)
theorem Vals.rep (h : Vals xs us) : ∀ k : Nat, Vals (List.replicate k xs).flatten (List.replicate k us).flatten
 | 0 => .nil
 | k + 1 => by
  rw [List.replicate_succ, List.replicate_succ, List.flatten_cons, List.flatten_cons]
  exact Vals.append h (Vals.rep h k)
theorem ZeM (its : List Value) : ∀ (k : Nat) (acc : List Value),
 List.foldl (fun x1 x2 => x1 ++ x2) acc.toArray (List.replicate k its.toArray) = (acc ++ (List.replicate k its).flatten).toArray
 | 0, acc => by simp
 | k + 1, acc => by
  have e : acc.toArray ++ its.toArray = (acc ++ its).toArray := by simp
  have e2 : (acc ++ its) ++ (List.replicate k its).flatten = acc ++ (List.replicate (k + 1) its).flatten := by
   rw [List.replicate_succ, List.flatten_cons, List.append_assoc]
  rw [<- e2, <- ZeM its k (acc ++ its), <- e, List.replicate_succ, List.foldl_cons]
section
variable {X : Cx} {pins : List (Addr × Obj)} {σ : St} {H : Hp} {s : Shared} {l b : Addr} {xs ys zs : List V}
theorem Inv.lset {its its' : List Value} {n : Nat} {f : Array Value -> Array Value} {t' : Nat} (I : Inv X pins σ H s) (hH : H l = some (.lst xs))
 (e : s.heap.get? l = some { cls := .type "list", data := .seq its.toArray n }) (hf : f its.toArray = its'.toArray) (hv : Vals ys its') (hz : ys.length <= sizeLine) :
 Inv X pins σ (upd H l (.lst ys)) { s with heap := s.heap.update l (Obj.mapSeq f), toks := t' } := by
 have q := PySem.IsL.update e f
 rw [hf] at q
 refine I.write (x := l) (e := l) (by rw [hH]; exact trivial) (.inl rfl) (fun b' u hb hu => (Heap.get?_update_other s.heap (Obj.mapSeq f) (Ne.symm hb)).trans hu) ⟨_, q⟩ ?_
 exact ⟨hz, its', _, hv, q⟩
theorem Inv.lnew (I : Inv X pins σ H s) (hv : Vals ys its) (hz : ys.length <= sizeLine) :
 Inv X pins σ (upd H s.heap.objs.size (.lst ys)) { s with heap := s.heap.push { cls := .type "list", data := .seq its.toArray }, toks := t' } :=
 I.laid (fun _ _ q => Heap.get?_push_of_some _ q) (Nat.le_refl _) ⟨hz, its, 0, hv, Heap.get?_push_size _ rfl⟩
theorem Inv.fresh (I : Inv X pins σ H s) : H s.heap.objs.size = none := I.hok.fresh (Nat.le_refl _)
theorem Inv.lstM (I : Inv X pins σ H s) (hH : H l = some (.lst xs)) : xs.length <= sizeLine /\ ∃ (its : List Value) (n : Nat), Vals xs its /\ xs.length = its.length /\ s.heap.get? l = some { cls := .type "list", data := .seq its.toArray n } := by
 obtain ⟨z, its, n, r, e⟩ := I.hok l _ hH
 exact ⟨z, its, n, r, r.length, e⟩
theorem ZiA (h : n <= sizeLine) : Builtin.List.listTooLong n = false := by
 unfold Builtin.List.listTooLong
 exact decide_eq_false (by omega)
end
section
variable {X : Cx}
def Zkt : V -> List V -> Hp -> VK -> Prop := fun x vs H Q => ∃ l xs y, x = .ref l /\ vs = [y] /\ H l = some (.lst xs) /\ xs.length < sizeLine /\ Q .non (upd H l (.lst (xs ++ [y])))
theorem ZeN : MtM X "list.append" Zkt := by
 intro pins s σ H x vs v us Q I rx rv h
 obtain ⟨l, xs, y, rfl, rfl, hH, hz, q⟩ := h
 cases rx
 obtain ⟨u, rfl, ru⟩ := rv.one
 obtain ⟨z, its, n, r, hl, e⟩ := I.lstM hH
 refine call_meets F.slot_list_append ⟨_, e, rfl⟩ F.entry_list_append (F.args_list_append_2 _ _) (PySem.list_append l its.toArray n u (by rw [List.size_toArray]; omega)) ⟨e, ?_⟩
 refine ⟨.non, _, I.lset (its' := its ++ [u]) hH e (by simp) (r.append (.cons ru .nil)) ?_, rfl, q⟩
 rw [List.length_append, List.length_singleton]
 omega
def rCat : R2 := fun x y H Q => ∃ l b xs zs, x = .ref l /\ y = .ref b /\ H l = some (.lst xs) /\ H b = some (.lst zs) /\ xs.length + zs.length <= sizeLine /\ ∀ p, H p = none -> Q (.ref p) (upd H p (.lst (xs ++ zs)))
theorem Zmh : OpR X (binaryOp .Add) rCat := by
 intro pins s σ H x y v u Q I rx ry h
 obtain ⟨l, b, xs, zs, rfl, rfl, hH, hB, hz, q⟩ := h
 cases rx
 cases ry
 obtain ⟨z, its, n, r, hl, e⟩ := I.lstM hH
 obtain ⟨z2, its2, n2, r2, hl2, e2⟩ := I.lstM hB
 refine PySem.P.add_list e e2 ?_ (by rw [List.size_toArray, List.size_toArray]; omega)
 have ea : its.toArray ++ its2.toArray = (its ++ its2).toArray := by simp
 rw [ea]
 exact ⟨.ref _, _, I.lnew (t' := s.toks) (r.append r2) (by rw [List.length_append]; omega), rfl, q _ I.fresh⟩
def rRep : R2 := fun x y H Q => ∃ l k xs, x = .ref l /\ y = .int k /\ H l = some (.lst xs) /\ -(2 ^ 63) <= k /\ k < 2 ^ 63 /\ xs.length * k.toNat <= sizeLine /\
 ∀ p, H p = none -> Q (.ref p) (upd H p (.lst (List.replicate k.toNat xs).flatten))
theorem Zku (xs : List α) (k : Nat) : (List.replicate k xs).flatten.length = k * xs.length := by
 induction k with
 | zero => simp
 | succ k ih => rw [List.replicate_succ, List.flatten_cons, List.length_append, ih, Nat.succ_mul, Nat.add_comm]
theorem Zmi : OpR X (binaryOp .Mult) rRep := by
 intro pins s σ H x y v u Q I rx ry h
 obtain ⟨l, k, xs, rfl, rfl, hH, h1, h2, hz, q⟩ := h
 cases rx
 obtain ⟨t, rfl⟩ := ry
 obtain ⟨z, its, n, r, hl, e⟩ := I.lstM hH
 have hlen : its.toArray.size * k.toNat <= sizeLine := by rw [List.size_toArray, <- hl]; exact hz
 have hcap : ¬ its.toArray.size * k.toNat > (2 ^ 63 - 1) / 8 := by
  have : (sizeLine : Nat) <= (2 ^ 63 - 1) / 8 := by decide
  omega
 have hfit : ¬ (!Builtin.List.listFitsIndex k) = true := by
  rw [fitsIndex_both h1 h2]
  exact Bool.false_ne_true
 have hlong : ¬ Builtin.List.listTooLong (its.toArray.size * k.toNat) = true := by
  rw [ZiA hlen]
  exact Bool.false_ne_true
 have hnew : List.foldl (fun x1 x2 => x1 ++ x2) #[] (List.replicate (if its.toArray.isEmpty = true then 0 else k.toNat) its.toArray) = (List.replicate k.toNat its).flatten.toArray := by
  have f0 : ∀ m : Nat, List.foldl (fun x1 x2 => x1 ++ x2) #[] (List.replicate m its.toArray) = (List.replicate m its).flatten.toArray := fun m => by
   have := ZeM its m []
   rw [List.nil_append] at this
   exact this
  rw [f0]
  cases its with
  | nil => simp
  | cons a r' => rw [if_neg (by simp)]
 refine wpAny_binaryOp_repeat_ref (T := "list") (U := "int") (by decide) ⟨_, e, rfl⟩ (fun s' => typeIs_int s' k t) noFill_list_mul F.fills_int_mul F.slot_int_rmul repeat_list F.slot_int_index.lookup
  (call_meets F.slot_int_rmul (typeIs_int s k t) F.entry_int_rmul (F.args_int_rmul_2 _ _) (int___rmul___int_list k t l its.toArray n)
   ⟨e, rfl, ⟨_, e, rfl⟩, call_meets F.slot_list_mul ⟨_, e, rfl⟩ F.entry_list_mul (F.args_list_mul_2 _ _) (AutoListH.list___mul___list_int_3 l its.toArray n k t hfit hcap hlong) ⟨e, ?_⟩⟩)
 rw [hnew]
 exact ⟨.ref _, _, I.lnew (t' := s.toks) (r.rep k.toNat) (by rw [Zku, Nat.mul_comm]; exact hz), rfl, q _ I.fresh⟩
end
end L2
namespace L2
open PySem PySem.Spec PyProof.Rows
section
variable {κ : Type} [DecidableEq κ]
noncomputable def valV (kvs : List (κ × V)) (k : κ) : Option V := (kvs.find? fun kv => decide (kv.1 = k)).map (·.2)
noncomputable def putK (kvs : List (κ × V)) (k : κ) (v : V) : List (κ × V) :=
 if (kvs.any fun kv => decide (kv.1 = k)) = true then kvs.map (fun kv => if kv.1 = k then (kv.1, v) else kv) else kvs ++ [(k, v)]
theorem Zfx : valV ([] : List (κ × V)) k = none := rfl
theorem Zc2 {p : κ × V} {r : List (κ × V)} {k : κ} (e : p.1 = k) : valV (p :: r) k = some p.2 := by simp [valV, List.find?_cons, e]
theorem Zc3 {p : κ × V} {r : List (κ × V)} {k : κ} (e : ¬ p.1 = k) : valV (p :: r) k = valV r k := by simp [valV, List.find?_cons, e]
theorem Zfy (k : κ) : ∀ kvs : List (κ × V), (kvs.any fun kv => decide (kv.1 = k)) = (valV kvs k).isSome
 | [] => rfl
 | p :: r => by
  rw [List.any_cons]
  by_cases e : p.1 = k
  . simp only [Zc2 e, decide_eq_true e, Bool.true_or, Option.isSome_some]
  . rw [Zc3 e, decide_eq_false e, Bool.false_or]; exact Zfy k r
theorem Zcj (kvs : List (κ × V)) (k : κ) (v : V) : (putK kvs k v).length <= kvs.length + 1 := by
 unfold putK
 split
 . rw [List.length_map]; omega
 . rw [List.length_append, List.length_cons, List.length_nil]; omega
theorem RelO.isSome_eq (r : RelO o u) : o.isSome = u.isSome := by
 cases o with
 | none => cases u with
  | none => rfl
  | some _ => exact (show False from r).elim
 | some _ => cases u with
  | none => exact (show False from r).elim
  | some _ => rfl
theorem KV.val (r : KV kvs vs) (k : κ) : RelO (valV kvs k) (valueAt vs k) := by
 unfold KV at r
 induction r with
 | nil => exact True.intro
 | @cons p q ps qs h t ih =>
  obtain ⟨h1, h2⟩ := h
  by_cases e : p.1 = k
  . have e' : q.1 = k := h1.symm.trans e
    have b : valueAt (q :: qs) k = some q.2 := by simp [valueAt, List.find?_cons, e']
    rw [Zc2 e, b]; exact h2
  . have e' : ¬ q.1 = k := fun z => e (h1.trans z)
    have b : valueAt (q :: qs) k = valueAt qs k := by simp [valueAt, List.find?_cons, e']
    rw [Zc3 e, b]; exact ih
theorem KV.any (r : KV kvs vs) (k : κ) : (kvs.any fun kv => decide (kv.1 = k)) = vs.any fun kv => decide (kv.1 = k) := by
 unfold KV at r
 induction r with
 | nil => rfl
 | cons h t ih => rw [List.any_cons, List.any_cons, ih, h.1]
theorem KV.repl (r : KV kvs vs) (k : κ) (ry : RelV y u) :
 KV (kvs.map fun kv => if kv.1 = k then (kv.1, y) else kv) (vs.map fun kv => if kv.1 = k then (kv.1, u) else kv) := by
 unfold KV at r ⊢
 induction r with
 | nil => exact .nil
 | @cons p q ps qs h t ih =>
  rw [List.map_cons, List.map_cons]
  refine .cons ?_ ih
  obtain ⟨h1, h2⟩ := h
  by_cases e : p.1 = k
  . rw [if_pos e, if_pos (h1.symm.trans e)]; exact ⟨h1, ry⟩
  . rw [if_neg e, if_neg (fun z => e (h1.trans z))]; exact ⟨h1, h2⟩
theorem KV.put (r : KV kvs vs) (k : κ) (ry : RelV y u) : KV (putK kvs k y) (stored vs k u) := by
 unfold putK stored
 rw [r.any k]
 by_cases e : (vs.any fun kv => decide (kv.1 = k)) = true
 . rw [if_pos e, if_pos e]; exact r.repl k ry
 . rw [if_neg e, if_neg e]; exact Paired.snoc r ⟨rfl, ry⟩
theorem KV.length (r : KV kvs vs) : kvs.length = vs.length := Paired.length r
end
theorem Zdu (r : RelV (kV k) u) : (ZL P w).is k u = true := by
 cases k with
 | inl i => obtain ⟨t, e⟩ := (show ∃ t, u = Value.int i t from r); subst e; exact Zgl P w i t
 | inr x => obtain ⟨t, e⟩ := (show ∃ t, u = Value.str x t from r); subst e; exact Zgm P w x t
theorem ZeO : ∀ {ks : List Key} {us : List Value}, Vals (ks.map kV) us -> ItemsAre (ZL P w) ks us
 | [], _, r => by rw [List.map_nil] at r; cases r; exact .nil
 | k :: ks, _, r => by
  rw [List.map_cons] at r
  cases r with
  | cons h t => exact .cons (Zdu h) (ZeO t)
abbrev KT (H : Hp) : List (List Key × V) -> List (List Key × Addr × Value) -> Prop := Paired fun p q => p.1 = q.1 /\ H q.2.1 = some (.tup (p.1.map kV)) /\ RelV p.2 q.2.2
theorem KT.val (r : KT H kvs xs) (k : List Key) : RelO (valV kvs k) ((atKey xs k).map (·.2)) := by
 induction r with
 | nil => exact True.intro
 | @cons p q ps qs h t ih =>
  obtain ⟨h1, _, h2⟩ := h
  by_cases e : p.1 = k
  . have e' : q.1 = k := h1.symm.trans e
    have b : atKey (q :: qs) k = some q.2 := by simp [atKey, List.find?_cons, e']
    rw [Zc2 e, b]; exact h2
  . have e' : ¬ q.1 = k := fun z => e (h1.trans z)
    have b : atKey (q :: qs) k = atKey qs k := by simp [atKey, List.find?_cons, e']
    rw [Zc3 e, b]; exact ih
theorem KT.repl (r : KT H kvs xs) (k : List Key) (ry : RelV y u) :
 KT H (kvs.map fun kv => if kv.1 = k then (kv.1, y) else kv) (xs.map (putAt k u)) := by
 induction r with
 | nil => exact .nil
 | @cons p q ps qs h t ih =>
  rw [List.map_cons, List.map_cons]
  refine .cons ?_ ih
  obtain ⟨h1, h2, h3⟩ := h
  unfold putAt
  by_cases e : p.1 = k
  . rw [if_pos e, if_pos (h1.symm.trans e)]; exact ⟨h1, h2, ry⟩
  . rw [if_neg e, if_neg (fun z => e (h1.trans z))]; exact ⟨h1, h2, h3⟩
theorem KT.put (r : KT H kvs xs) (k : List Key) (hb : H b = some (.tup (k.map kV))) (ry : RelV y u) :
 KT H (putK kvs k y) (storedH xs k b u) := by
 have e : (kvs.any fun kv => decide (kv.1 = k)) = (atKey xs k).isSome := by
  rw [Zfy, (r.val k).isSome_eq, Option.isSome_map]
 unfold putK storedH
 rw [e]
 by_cases q : (atKey xs k).isSome = true
 . rw [if_pos q, if_pos q]; exact r.repl k ry
 . rw [if_neg q, if_neg q]; exact Paired.snoc r ⟨rfl, hb, ry⟩
theorem KT.keeps (r : KT H kvs xs) (ht : ∀ b ys, H b = some (.tup ys) -> H' b = some (.tup ys)) : KT H' kvs xs :=
 Paired.mapP r fun _ _ z => ⟨z.1, ht _ _ z.2.1, z.2.2⟩
section
theorem ZjH (ok : HOk P w H h) (e : Rd H a u) : Z8 P w H h a u := e.ok ok
theorem Zdv (ok : HOk P w H h) (e : Rd H a (.dK kvs)) : kvs.length <= sizeLine /\ (a == sysModules) = false /\ ∃ vs, KV kvs vs /\ h.DictOf (ZL P w) a vs :=
 show Z8 P w H h a (.dK kvs) from ZjH ok e
theorem ZjI (ok : HOk P w H h) (e : H a = some (.dK kvs)) : kvs.length <= sizeLine /\ (a == sysModules) = false /\ ∃ vs, KV kvs vs /\ h.DictOf (ZL P w) a vs := Zdv ok (.inl e)
theorem ZcN (ok : HOk P w H h) (e : H a = some (.tup (ks.map kV))) : (tupleKind (ZL P w)).is h ks a := by
 obtain ⟨_, its, r, o, h1, h2, n, h3⟩ := (show Z8 P w H h a (.tup (ks.map kV)) from ok a _ e)
 exact ⟨o, its.toArray, n, h1, h2, h3, by simpa using ZeO r⟩
theorem ZdT (ok : HOk P w H h) (e : Rd H a (.dT kvs)) : kvs.length <= sizeLine /\ (a == sysModules) = false /\
 ∃ xs, KT H kvs xs /\ h.DictOfH (tupleKind (ZL P w)) a xs := by
 obtain ⟨z, y, xs, r, o, es, ep, h1, h2, h3, h4, h5⟩ := (show Z8 P w H h a (.dT kvs) from ZjH ok e)
 refine ⟨z, y, xs, r, o, es, ep, h1, h2, h3, h4, fun x hx => ?_, h5⟩
 have all : ∀ {l : List (List Key × V)} {m : List (List Key × Addr × Value)}, KT H l m -> ∀ x ∈ m, (tupleKind (ZL P w)).is h x.1 x.2.1 := by
  intro l m q
  induction q with
  | nil => intro x hx; exact nomatch hx
  | @cons p q ps qs hq t ih =>
   intro x hx
   rcases List.mem_cons.mp hx with e | hx
   . subst e
     exact ZcN ok (by rw [<- hq.1]; exact hq.2.1)
   . exact ih x hx
 exact all r x hx
theorem Zow (ok : HOk P w H h) (e : H a = some (.dT kvs)) : kvs.length <= sizeLine /\ (a == sysModules) = false /\
 ∃ xs, KT H kvs xs /\ h.DictOfH (tupleKind (ZL P w)) a xs := ZdT ok (.inl e)
end
def DGet (H : Hp) (a : Addr) (y : V) (r : Option V) : Prop :=
 (∃ kvs k, Rd H a (.dK kvs) /\ y = kV k /\ r = valV kvs k) \/ ∃ kvs k b, Rd H a (.dT kvs) /\ y = .ref b /\ H b = some (.tup (k.map kV)) /\ r = valV kvs k
def DPut (H : Hp) (a : Addr) (y v : V) (H' : Hp) : Prop :=
 (∃ kvs k, H a = some (.dK kvs) /\ y = kV k /\ kvs.length < sizeLine /\ H' = upd H a (.dK (putK kvs k v))) \/
 ∃ kvs k b, H a = some (.dT kvs) /\ y = .ref b /\ H b = some (.tup (k.map kV)) /\ kvs.length < sizeLine /\ H' = upd H a (.dT (putK kvs k v))
theorem DGet.k {H : Hp} {a : Addr} {kvs : List (Key × V)} {k : Key} (e : H a = some (.dK kvs)) : DGet H a (kV k) (valV kvs k) := .inl ⟨kvs, k, .inl e, rfl, rfl⟩
theorem DPut.k {H : Hp} {a : Addr} {kvs : List (Key × V)} {k : Key} {v : V} (e : H a = some (.dK kvs)) (hl : kvs.length < sizeLine) : DPut H a (kV k) v (upd H a (.dK (putK kvs k v))) := .inl ⟨kvs, k, e, rfl, hl, rfl⟩
section
theorem Inv.big (I : Inv X pins σ H s) : sysModules < s.heap.objs.size := by
 have h : mainGlobals < s.heap.objs.size := (I.mod.glob.keeps I.bk).lt
 exact Nat.lt_trans (by decide) h
theorem ZhO (hu : A.units + 1 < cLine) (I : Inv X pins σ H s) (g : DGet H a y (some v)) (ry : RelV y u) (h : ∀ w' s', Inv X pins σ H s' -> RelV v w' -> Q w' s') :
 wpAny (model X.prog X.w) A (getItem (.ref a) u) Q E s := by
 rcases g with ⟨kvs, k, e, ey, l⟩ | ⟨kvs, k, b, e, ey, eb, l⟩
 . subst ey
   obtain ⟨z, hd, vs, rel, dd⟩ := Zdv I.hok e
   obtain ⟨w', hw, rw'⟩ := RelO.some_of (v := v) (o := valueAt vs k) (by rw [l]; exact rel.val k)
   exact wpAny_getItem_of (Zdu ry) dd.mapOf hw (h w' _ (I.tok _) rw')
 . subst ey
   cases (show u = Value.ref b from ry)
   obtain ⟨z, hd, xs, rel, dd⟩ := ZdT I.hok e
   obtain ⟨w', hw, rw'⟩ := RelO.some_of (v := v) (o := (atKey xs k).map (·.2)) (by rw [l]; exact rel.val k)
   obtain ⟨p, hp, hp2⟩ := Option.map_eq_some_iff.mp hw
   refine wpAny_getItem_heap (tupleKind_room_in1 hu) (ZcN I.hok eb) dd hp ?_
   rw [hp2]
   exact h w' _ (I.tok _) rw'
theorem d_in (hu : A.units + 1 < cLine) (I : Inv X pins σ H s) (g : DGet H a y o) (ry : RelV y u) (h : ∀ s', Inv X pins σ H s' -> Q (.bool o.isSome) s') :
 wpAny (model X.prog X.w) A (compareOp .In u (.ref a)) Q E s := by
 rcases g with ⟨kvs, k, e, ey, l⟩ | ⟨kvs, k, b, e, ey, eb, l⟩
 . subst ey
   obtain ⟨z, hd, vs, rel, dd⟩ := Zdv I.hok e
   refine wpAny_in_of (Zdu ry) hd dd.mapOf ?_
   rw [<- (rel.val k).isSome_eq, <- l]
   exact h _ (I.tok _)
 . subst ey
   cases (show u = Value.ref b from ry)
   obtain ⟨z, hd, xs, rel, dd⟩ := ZdT I.hok e
   refine wpAny_in_heap (tupleKind_room_in1 hu) (ZcN I.hok eb) hd dd ?_
   have q := (rel.val k).isSome_eq
   rw [Option.isSome_map] at q
   rw [<- q, <- l]
   exact h _ (I.tok _)
theorem Zkv (hu : A.units + 1 < cLine) (I : Inv X pins σ H s) (g : DGet H a y o) (ry : RelV y u) (h : ∀ s', Inv X pins σ H s' -> Q (.bool (!o.isSome)) s') :
 wpAny (model X.prog X.w) A (compareOp .NotIn u (.ref a)) Q E s := by
 rcases g with ⟨kvs, k, e, ey, l⟩ | ⟨kvs, k, b, e, ey, eb, l⟩
 . subst ey
   obtain ⟨z, hd, vs, rel, dd⟩ := Zdv I.hok e
   refine wpAny_notIn_of (Zdu ry) hd dd.mapOf ?_
   rw [<- (rel.val k).isSome_eq, <- l]
   exact h _ (I.tok _)
 . subst ey
   cases (show u = Value.ref b from ry)
   obtain ⟨z, hd, xs, rel, dd⟩ := ZdT I.hok e
   refine wpAny_notIn_heap (tupleKind_room_in1 hu) (ZcN I.hok eb) hd dd ?_
   have q := (rel.val k).isSome_eq
   rw [Option.isSome_map] at q
   rw [<- q, <- l]
   exact h _ (I.tok _)
theorem Zez (I : Inv X pins σ H s) (mu : Mut (H a)) (hs : Heap.SameBut a s.heap h') (he : ∃ q, h'.get? a = some q) (new : Z8 X.prog X.w (upd H a ob) h' a ob) :
 Inv X pins σ (upd H a ob) { s with heap := h', toks := t' } :=
 I.write (x := a) (e := a) mu (.inl rfl) (fun b q hb z => (hs.2 b hb).trans z) he new
theorem ZhP (z : kvs.length <= sizeLine) (hd : (a == sysModules) = false) (rel : KV kvs vs) (dd : h'.DictOf (ZL P w) a vs) :
 Z8 P w H' h' a (.dK kvs) := ⟨z, hd, vs, rel, dd⟩
theorem ZhQ (hu : A.units + 1 < cLine) (I : Inv X pins σ H s) (g : DPut H a y v H') (ry : RelV y u) (rv : RelV v r) (h : ∀ s', Inv X pins σ H' s' -> Q () s') :
 wpAny (model X.prog X.w) A (setItem (.ref a) u r) Q E s := by
 rcases g with ⟨kvs, k, e, ey, l, eH⟩ | ⟨kvs, k, b, e, ey, eb, l, eH⟩
 . subst ey eH
   obtain ⟨z, hd, vs, rel, dd⟩ := ZjI I.hok e
   have hz : vs.length <= sizeLine := by rw [<- rel.length]; exact z
   have hl : (putK kvs k v).length <= sizeLine := by have := Zcj kvs k v; omega
   refine wpAny_setItem_pairs (hsz := hz) (Zdu ry) dd fun h' dd' hs => h _ ?_
   have he : ∃ q, h'.get? a = some q := let ⟨q, _, _, hq, _⟩ := dd'; ⟨q, hq⟩
   exact Zez I (by rw [e]; exact True.intro) hs he (ZhP hl hd (rel.put k rv) dd')
 . subst ey eH
   cases (show u = Value.ref b from ry)
   obtain ⟨z, hd, xs, rel, dd⟩ := Zow I.hok e
   have hz : xs.length <= sizeLine := by rw [<- Paired.length rel]; exact z
   have hl : (putK kvs k v).length <= sizeLine := by have := Zcj kvs k v; omega
   refine wpAny_setItem_heap (hsz := hz) (tupleKind_room_in1 hu) (ZcN I.hok eb) dd fun h' dd' hs => h _ ?_
   obtain ⟨q, es, ep, hq, h2, h3, h4, _, h5⟩ := dd'
   refine Zez I (by rw [e]; exact True.intro) hs ⟨q, hq⟩ ⟨hl, hd, _, (rel.put k eb rv).keeps fun c ys ec => ?_, q, es, ep, hq, h2, h3, h4, h5⟩
   rw [Zj (ZnW ec e (fun z => nomatch z))]
   exact ec
end
section
theorem Zox (I : Inv X pins σ H s) (e : Rd H a (.dK kvs)) (h : ∀ t s', Inv X pins σ H s' -> Q (.int kvs.length t) s') : wpAny (model X.prog X.w) A (call (.builtin "len") [.ref a]) Q E s := by
 obtain ⟨z, hd, vs, rel, dd⟩ := Zdv I.hok e
 refine call_len_dict hd dd (by rw [<- rel.length]; rw [sizeLine_eq] at z; omega) ?_
 rw [<- rel.length]
 exact h _ _ (I.tok _)
end
def NoSl (i : Expr) : Prop := ∀ ov iv, subscripted i false ov iv = operate [ov, iv] (getItem ov iv)
theorem Zkw {prog : Program} {w : World} {A : Around} {E : Value -> Shared -> Prop} {s : Shared} {env : Env} {value slice : Expr} {pos : Pos} {T id : String} {Q : Value -> Shared -> Prop}
 (hl : typeLookup (.type T) "__getitem__" = pure (some (.builtin id))) (hs : NoSl slice)
 (h : wpAny (model prog w) A (eval value env) (fun o s₁ => wpAny (model prog w) A (eval slice env) (fun i s₂ => s₂.TypeIs o T /\ wpAny (model prog w) A (getItem o i) Q E s₂) E s₁) E s) :
 wpAny (model prog w) A (eval (.Subscript value slice pos) env) Q E s := by
 refine Subscript_ (wpAny_mono h (fun o s₁ h₁ => wpAny_mono h₁ (fun i s₂ h₂ => ?_) fun _ _ x => x) fun _ _ x => x)
 obtain ⟨hT, h₂⟩ := h₂
 unfold subscriptTail
 refine wpAny_bind ?_
 rw [getitemInPython_of_ne hT.not_modules]
 refine wpAny_bind (wpAny_specialOf hT hl ?_)
 have fin : wpAny (model prog w) A (subscripted slice false o i) (fun r s₃ => wpAny (model prog w) A (letTemporaryGo value o r >>= fun _ => pure r) Q E s₃) E s₂ := by
  rw [hs o i]
  exact wpAny_operating (wpAny_mono h₂ (fun r s₃ h₃ => wpAny_bind (wpAny_letTemporaryGo (wpAny_pure h₃))) fun _ _ x => x)
 first
  | exact wpAny_pure (wpAny_bind fin)
  | exact wpAny_bind (wpAny_pure (wpAny_bind fin))
  | exact wpAny_bind fin
theorem Zgo (I : Inv X pins σ H s) (g : DGet H a y o) : s.TypeIs (.ref a) "dict" := by
 rcases g with ⟨kvs, k, e, _, _⟩ | ⟨kvs, k, b, e, _, _, _⟩
 . obtain ⟨_, _, vs, _, dd⟩ := Zdv I.hok e
   exact dd.typeIs
 . obtain ⟨_, _, xs, _, dd⟩ := ZdT I.hok e
   exact dd.typeIs
def Zoy (td ty : TE) : TE := fun σ H Q => td σ H fun x H1 => ty σ H1 fun y H2 => ∃ a v, x = .ref a /\ DGet H2 a y (some v) /\ Q v H2
section
theorem Zkx (hu : X.A.units + 1 < cLine) (ho : PE X o td) (hi : PE X i ty) (hs : NoSl i) : PE X (.Subscript o i pos) (Zoy td ty) := by
 intro pins s σ H Q I h
 refine Zkw PySem.F.slot_dict_getitem.lookup hs (thn (ho pins s σ H _ I h) fun u s1 ⟨x, H1, I1, rx, q1⟩ => thn (hi pins s1 σ H1 _ I1 q1) fun iv s2 ⟨y, H2, I2, ry, a, v, ex, g, q2⟩ => ?_)
 subst ex
 obtain rfl : u = Value.ref a := rx
 exact ⟨Zgo I2 g, ZhO hu I2 g ry fun w' s3 I3 rw' => ⟨v, H2, I3, rw', q2⟩⟩
end
theorem Zfz (h : Heap) (hb : sysModules < h.objs.size) : Z8 P w H (h.push { cls := .type "dict", data := .dict #[] }) h.objs.size (.dK []) :=
 ⟨Nat.zero_le _, beq_eq_false_iff_ne.mpr (Ne.symm (Nat.ne_of_lt hb)), [], .nil, Heap.DictOf.new h⟩
def Zmj : TE := fun _ H Q => ∀ p, H p = none -> Q (.ref p) (upd H p (.dK []))
section
theorem ZiB : PE X (.Dict [] [] pos) Zmj := fun pins s σ H Q I h =>
 wpAny_Dict_empty ⟨.ref s.heap.objs.size, _, I.laid (a := s.heap.objs.size) (o := .dK []) (t' := s.toks) (fun _ _ q => Heap.get?_push_of_some _ q) (Nat.le_refl _) (Zfz s.heap I.big), rfl, h _ (I.hok.fresh (Nat.le_refl _))⟩
end
def Zf0 : List (TE × TE) -> St -> Hp -> (List (V × V) -> Hp -> Prop) -> Prop
 | [], _, H, Q => Q [] H
 | (tk, tv) :: r, σ, H, Q => tk σ H fun x H1 => tv σ H1 fun y H2 => Zf0 r σ H2 fun ps H3 => Q ((x, y) :: ps) H3
abbrev VV : List (V × V) -> List (Value × Value) -> Prop := Paired fun p q => RelV p.1 q.1 /\ RelV p.2 q.2
def PPs (X : Cx) (pos : Pos) (keys : List (Option Expr)) (values : List Expr) (trs : List (TE × TE)) : Prop :=
 ∀ (pins : List (Addr × Obj)) (s : Shared) (σ : St) (H : Hp) (Q : List (V × V) -> Hp -> Prop), Inv X pins σ H s -> Zf0 trs σ H Q ->
  wpAny (model X.prog X.w) X.A (evalPairs (pairTrees keys values X.env pos)) (fun vs s' => ∃ ps H', Inv X pins σ H' s' /\ VV ps vs /\ Q ps H') X.xe s
theorem Zky : PPs X pos [] [] [] := fun pins s σ H Q I h => pairTrees_nil_walk ⟨[], H, I, .nil, h⟩
theorem ZiC (hk : PE X k tk) (hv : PE X v tv) (hr : PPs X pos ks vs trs) :
 PPs X pos (some k :: ks) (v :: vs) ((tk, tv) :: trs) := fun pins s σ H Q I h =>
 pairTrees_cons_walk (thn (hk pins s σ H _ I h) fun u s1 ⟨x, H1, I1, rx, q1⟩ => thn (hv pins s1 σ H1 _ I1 q1) fun w2 s2 ⟨y, H2, I2, ry, q2⟩ =>
  thn (hr pins s2 σ H2 _ I2 q2) fun ws s3 ⟨ps, H3, I3, rel, q3⟩ => ⟨(x, y) :: ps, H3, I3, .cons ⟨rx, ry⟩ rel, q3⟩)
noncomputable def ZcO (kvs more : List (Key × V)) : List (Key × V) := more.foldl (fun acc kv => putK acc kv.1 kv.2) kvs
theorem KV.merge : ∀ {more : List (Key × V)} {rs : List (Key × Value)} {kvs : List (Key × V)} {vs : List (Key × Value)}, KV more rs -> KV kvs vs -> KV (ZcO kvs more) (merged vs rs) := by
 intro more rs kvs vs r
 unfold KV at r
 induction r generalizing kvs vs with
 | nil => intro q; exact q
 | @cons p q ps qs h t ih =>
  intro r0
  have e : KV (putK kvs p.1 p.2) (stored vs q.1 q.2) := by
   have := r0.put p.1 h.2
   rw [<- h.1]; exact this
  exact ih e
theorem ZcG : ∀ (more kvs : List (Key × V)), (ZcO kvs more).length <= kvs.length + more.length
 | [], kvs => by show kvs.length <= kvs.length + 0; omega
 | p :: r, kvs => by
  have h1 := ZcG r (putK kvs p.1 p.2)
  have h2 := Zcj kvs p.1 p.2
  show (ZcO (putK kvs p.1 p.2) r).length <= _
  rw [List.length_cons]; omega
theorem ZdU : ∀ {kvs : List (Key × V)} {ws : List (Value × Value)}, VV (kvs.map fun kv => (kV kv.1, kv.2)) ws -> ∃ rs, Carries (ZL P w) ws rs /\ KV kvs rs
 | [], _, r => by rw [List.map_nil] at r; cases r; exact ⟨[], True.intro, .nil⟩
 | p :: kvs, _, r => by
  rw [List.map_cons] at r
  cases r with
  | @cons a b as bs h t =>
   obtain ⟨rs, c, q⟩ := ZdU (P := P) (w := w) t
   obtain ⟨b1, b2⟩ := b
   exact ⟨(p.1, b2) :: rs, ⟨Zdu h.1, rfl, c⟩, .cons ⟨rfl, h.2⟩ q⟩
def Zoz (trs : List (TE × TE)) : TE := fun σ H Q => ∀ p, H p = none -> Zf0 trs σ (upd H p (.dK [])) fun ps H2 => H2 p = some (.dK []) /\ ∃ kvs : List (Key × V), ps = kvs.map (fun kv => (kV kv.1, kv.2)) /\ kvs.length <= 15 /\ Q (.ref p) (upd H2 p (.dK (ZcO [] kvs)))
theorem Zkz (h : PPs X pos keys values trs) (hall : keys.all (·.isSome) = true) (hl : keys.length = values.length) (h0 : keys ≠ [])
 (h15 : keys.length <= 15) : PE X (.Dict keys values pos) (Zoz trs) := by
 intro pins s σ H Q I q
 have hn := I.hok.fresh (Nat.le_refl s.heap.objs.size)
 have I1 := I.laid (a := s.heap.objs.size) (o := .dK []) (h' := s.heap.push { cls := .type "dict", data := .dict #[] }) (t' := s.toks) (fun _ _ q => Heap.get?_push_of_some _ q) (Nat.le_refl _) (Zfz s.heap I.big)
 refine wpAny_Dict_walk (knd := ZL X.prog X.w) hall hl h0 h15 (thn (h pins _ σ _ _ I1 (q _ hn)) fun ws s2 z0 => ?_)
 obtain ⟨ps, H2, I2, rel, e, kvs, ep, lk, q2⟩ := z0
 subst ep
 obtain ⟨rs, c, rk⟩ := ZdU (P := X.prog) (w := X.w) rel
 obtain ⟨z, hd, vs0, r0, dd⟩ := ZjI I2.hok e
 cases r0
 refine ⟨rs, c, dd, fun h' dd' hs => ⟨.ref s.heap.objs.size, _, ?_, rfl, q2⟩⟩
 have hz : (ZcO [] kvs).length <= sizeLine := by
  have h1 := ZcG kvs []
  rw [List.length_nil] at h1
  rw [sizeLine_eq]; omega
 have he : ∃ q, h'.get? s.heap.objs.size = some q := let ⟨q, _, _, hq, _⟩ := dd'; ⟨q, hq⟩
 exact Zez I2 (by rw [e]; exact True.intro) hs he (ZhP hz hd (rk.merge .nil) dd')
structure M1 (X : Cx) (o : Expr) (m : Str) (apos : Pos) (e : Expr) (cpos : Pos) : Prop where
 base : attributeBase o m X.env (eval o X.env) = eval o X.env
 few : ((backTo cpos (starEach [e] X.env)).all (fun x => !x.1) && (backToKw cpos (keywordEach [] X.env)).all (fun x => x.1.isSome)
  && decide (([e] : List Expr).length + ([] : List Keyword).length + (if ([] : List Keyword).isEmpty then 0 else 1) < 30)) = true
 line : (apos.endLine == cpos.line) = true
 trees : backTo cpos (starEach [e] X.env) = [(false, eval e X.env)]
structure M2 (X : Cx) (o : Expr) (m : Str) (apos : Pos) (e f : Expr) (cpos : Pos) : Prop where
 base : attributeBase o m X.env (eval o X.env) = eval o X.env
 few : ((backTo cpos (starEach [e, f] X.env)).all (fun x => !x.1) && (backToKw cpos (keywordEach [] X.env)).all (fun x => x.1.isSome)
  && decide (([e, f] : List Expr).length + ([] : List Keyword).length + (if ([] : List Keyword).isEmpty then 0 else 1) < 30)) = true
 line : (apos.endLine == cpos.line) = true
 trees : backTo cpos (starEach [e, f] X.env) = [(false, eval e X.env), (false, eval f X.env)]
end L2
namespace Att
open PySem PySem.W PySem.Calls PyProof.Rows
theorem ZdV : ∀ (ns : List Int) (vs : List Value), WellAll P h vs (ns.map WData.int) -> IntsAre vs ns := by
 intro ns
 induction ns with
 | nil =>
  intro vs w
  rw [List.map_nil] at w
  cases w
  exact .nil
 | cons n ns ih =>
  intro vs w
  rw [List.map_cons] at w
  cases w with
  | cons a b =>
   cases a
   exact .cons _ _ (ih _ b)
theorem ZhR {l : OpenLaw} {n : Nat} (hn : l.most = some n) {P : Params} {h : Heap} {args : List WData} {vals : List Value}
 (hpre : l.row.toRowW.claim.pre args = true) (hwl : WellAll P h vals args) :
 ∃ a vs ns, vals = [Value.ref a] /\ args = [WData.list (ns.map WData.int)] /\ h.get? a = some { cls := .type "list", data := .seq vs.toArray } /\ IntsAre vs ns /\ ns.length <= n := by
 have hsh : WShape.hasAll [] args [.list .int] = true := (pre_splitW hpre).1
 have hc : l.pre.holds [] { args := args } = true := (pre_splitW hpre).2
 obtain ⟨d, r, rfl, h1, h2⟩ := hasAllW_cons hsh
 obtain rfl := hasAllW_nil h2
 obtain ⟨xs, rfl, h3⟩ := hasW_list h1
 obtain ⟨ns, rfl⟩ := items_int h3
 have hlen : ns.length <= n := by
  unfold OpenLaw.pre at hc
  have h4 : (WTm.not (.lt (.lit (.int (n : Int))) (.len (.arg 0)))).holds [] { args := [.list (ns.map .int)] } = true := by
   have h4 := (holds_andW hc).1
   rw [hn] at h4
   exact h4
  have h5 := condW_of h4 (w_not (w_lt w_lit (w_len_list (w_arg rfl))))
  rw [List.length_map] at h5
  refine Nat.le_of_not_lt fun q => ?_
  have q' : (n : Int) < ((ns.length : Nat) : Int) := by omega
  first
   | (rw [decide_eq_true q'] at h5; exact absurd h5 (by decide))
   | (simp at h5; omega)
 cases hwl with
 | cons w1 w2 =>
  cases w2
  cases w1 with
  | list ho hall => exact ⟨_, _, ns, rfl, rfl, ho, ZdV ns _ hall, hlen⟩
theorem ZhS (l : OpenLaw) (args : List WData) : l.row.toRowW.claim.post args (.bool true) args = true :=
 postW_of (r := l.row.toRowW) (X := (true == true))
  (show WShape.has [] (.bool true) .bool = true by first | rfl | decide | simp [WShape.has, WShape.arms, WShape.armsAll])
  (show (WTm.eq .res (.lit (.bool true))).value [] { args := args, res := some (.bool true), after := args } = some (.bool (true == true)) from w_eq_bool (w_res rfl) w_lit) rfl
theorem Zgp {l : OpenLaw} {n : Nat} {q : Program} {loose : List Str} {XP : (Str -> Option Value) -> Heap -> Prop} {YP : World -> Heap -> Prop} {d : DefRec}
 (hn : l.most = some n) (hdf : d.params.defaults = [])
 (call : ∀ (w : World) (s₀ s₁ : Shared) (mg mb : Str -> Option Value) (fa : Addr) (o : Obj) (pm cd doc : Value) (a : Addr) (vs : List Value) (ns : List Int),
  Ground q loose [] XP w s₀ mg mb s₁.heap -> YP w s₁.heap ->
  s₁.heap.get? fa = some o -> o.data = .func (docDef d.name d.params d.body d.scope pm cd doc) -> s₁.heap.CodeRec cd d.name -> mg d.name = some (.ref fa) ->
  s₁.heap.get? a = some { cls := .type "list", data := .seq vs.toArray } -> IntsAre vs ns -> ns.length <= n -> s₁.gens = #[] ->
  codeAny (model l.prog w) callerA (.call (.ref fa) ⟨[.ref a], []⟩) (fun r s' => r = .ok (.ret (.bool true)) /\ OldK s₁.heap s'.heap /\ s'.os = s₁.os /\ AllBare s'.gens) s₁) :
 WalkO q loose XP YP l.row.toRowW d [] (fun f vs => PySem.call f vs) := by
 intro w s₀ s₁ mg mb G Y fa o pm cd doc dV kV ho hd hcd hD hmg hg args vals as hpre hlay hrd hwl hlo
 obtain rfl : dV = .none := Dflts.none hD hdf
 obtain rfl : kV = .none := Dflts.noKw hD
 obtain ⟨a, vs, ns, rfl, rfl, hobj, hints, hlen⟩ := ZhR hn hpre hwl
 refine enter_call (codeAny_mono (call w s₀ s₁ mg mb fa o pm cd doc a vs ns G Y ho (fd_plain hd) hcd hmg hobj hints hlen hg) fun r s' hq => ?_)
 obtain ⟨rfl, h2, h3, h4⟩ := hq
 exact ⟨.inl ⟨.bool true, .bool true, [], rfl, fun _ => rfl, .bool true, ZhS l _, fun _ => ⟨List.Pairwise.nil, fun _ hm => (nomatch hm)⟩⟩, h2, h3, h4⟩
end Att
namespace L2
open PySem PySem.Spec PyProof.Rows
theorem Zcb : ∀ {vs : List Value} {ns : List Int}, IntsAre vs ns -> Vals (ns.map V.int) vs
 | _, _, .nil => .nil
 | _, _, .cons n t h => .cons ⟨t, rfl⟩ (Zcb h)
def Only (H : Hp) : Prop := ∀ b, H b = none \/ ∃ o xs, H b = some (.frz o (.lst xs))
theorem ZiD {P : Program} {w : World} {K : Fg} {mg mb : Str -> Option Value} {CX : CXT} {k : Nat} {fa a : Addr} {fd : FuncData} {x : Str} {sp : Sp} {s₁ : Shared} {vs : List Value} {ns : List Int}
 (KX : K.In s₁.heap) (hns : s₁.heap.Ns mainGlobals mg) (hb : s₁.heap.Ns builtinsNs mb) (hbb : ∀ x : Str, x ≠ "__name__" -> mb x = bootBuiltins x) (hlim : s₁.heap.NoLimit) (hg : s₁.gens = #[])
 (ha : s₁.heap.get? a = some { cls := .type "list", data := .seq vs.toArray }) (hi : IntsAre vs ns) (hl : ns.length <= sizeLine) (hr : Room k callerA)
 (F : ∀ base : Heap, K.In base -> base.Ns mainGlobals mg -> FnOk P w K mg base CX k fa fd [x] sp) (hbind : ∀ (s : Shared) (u : Value), BindsTo s fd ⟨[u], []⟩ [(x, u)])
 (hsp : ∀ H : Hp, Only H -> SqL K H a (ns.map V.int) -> sp [.ref a] H (fun v _ => v = .bl true) fun _ _ _ => False)
 (hCX : ∀ H e s', CX [] H s₁ (fun _ _ _ => False) e s' -> False) :
 codeAny (model P w) callerA (.call (.ref fa) ⟨[.ref a], []⟩) (fun r s' => r = .ok (.ret (.bool true)) /\ OldK s₁.heap s'.heap /\ s'.os = s₁.os /\ AllBare s'.gens) s₁ := by
 have rv := Zcb hi
 have lenV := hi.length
 have core : ∀ H : Hp, Only H -> SqL K H a (ns.map V.int) -> HOk P w H s₁.heap -> (∀ b, H b ≠ none -> b = a) -> (H a ≠ none -> K.lookup a = none) ->
  codeAny (model P w) callerA (.call (.ref fa) ⟨[.ref a], []⟩) (fun r s' => r = .ok (.ret (.bool true)) /\ OldK s₁.heap s'.heap /\ s'.os = s₁.os /\ AllBare s'.gens) s₁ := by
  intro H hO hS hok hA hK
  have base_of : ∀ {b : Addr} {o : Obj}, s₁.heap.get? b = some o -> H b = none -> (hidT s₁.heap H).get? b = some o := fun e n => Zi1 e n
  have noA : ∀ {b : Addr} {o : Obj} {es : Array DictEntry} {ep : Nat}, s₁.heap.get? b = some o -> o.data = .dict es ep -> H b = none := fun {b o es ep} e d => by
   cases q : H b with
   | none => rfl
   | some u =>
    have e' : b = a := hA b (by rw [q]; simp)
    subst e'
    rw [ha] at e; cases e
    have d' : Data.seq vs.toArray _ = Data.dict es ep := d
    cases d'
  have nsK : ∀ {b : Addr} {m : Str -> Option Value}, s₁.heap.Ns b m -> (hidT s₁.heap H).Ns b m := fun {b m} ⟨o, es, ep, e, d, r⟩ => ⟨o, es, ep, base_of e (noA e d), d, r⟩
  have hKb : K.In (hidT s₁.heap H) := fun b o e => base_of (KX b o e) (by
   cases q : H b with
   | none => rfl
   | some u =>
    have e' : b = a := hA b (by rw [q]; simp)
    subst e'
    rw [hK (by rw [q]; simp)] at e; cases e)
  have hM : Mod K mg (hidT s₁.heap H) := ⟨hKb, nsK hns, ⟨mb, nsK hb, hbb⟩, let ⟨mc, h1, h2⟩ := hlim; ⟨mc, nsK h1, h2⟩⟩
  have e0 : Env0 P w K mg (hidT s₁.heap H) callerA [] s₁ H := ⟨rfl, hM, fun b o e => Zkc e, Nat.le_of_eq (Zh6 _ _), trivial, fun b hb => absurd (show b ∈ ([] : List Addr) from hb) (by simp), hok, .of_eq hg⟩
  refine codeAny_mono ((F _ hKb (nsK hns)).run callerA [] s₁ H ⟨[.ref a], []⟩ [.ref a] [.ref a] _ _ hr e0 (hbind s₁ (.ref a)) (.cons rfl .nil) (hsp H hO hS)) fun r s' h => ?_
  cases r with
  | error e => exact (hCX H e s' h).elim
  | ok fl =>
   cases fl with
   | next => exact False.elim h
   | brk => exact False.elim h
   | cont => exact False.elim h
   | ret u =>
    obtain ⟨v, H', os, bare, un, hok', r', q⟩ := h
    have q' : v = .bl true := q
    subst q'
    obtain rfl : u = Value.bool true := r'
    refine ⟨rfl, OldK.of_keep fun b o e => ?_, os, bare⟩
    cases q : H b with
    | none => exact un.keep b o e q (by intro z; exact absurd (show b ∈ ([] : List Addr) from z) (by simp)) (by simp)
    | some u =>
     rcases hO b with z | ⟨ob, xs, z⟩
     . rw [q] at z; cases z
     . have z2 := un.frzs b ob _ z
       obtain ⟨e1, _⟩ := hok b _ z
       obtain ⟨e2, _⟩ := hok' b _ z2
       rw [e] at e1; cases e1
       exact e2
 cases hk : K.lookup a with
 | some o =>
  have e := KX a o hk
  rw [ha] at e
  cases e
  refine core (fun _ => none) (fun _ => .inl rfl) (.inr ⟨_, vs.toArray, _, hk, rfl, rfl, rfl, by rw [List.size_toArray, lenV]; exact hl, by simpa using rv⟩) (fun b u z => by have z' : (none : Option HO) = some u := z; cases z') (fun b z => absurd rfl z) fun z => absurd rfl z
 | none =>
  refine core (fun b => if b = a then some (.frz { cls := .type "list", data := .seq vs.toArray } (.lst (ns.map V.int))) else none) (fun b => ?_) (.inl (.inr ⟨{ cls := .type "list", data := .seq vs.toArray }, if_pos rfl⟩)) (fun b u z => ?_) (fun b z => ?_) fun _ => hk
  . by_cases hb : b = a
    . exact .inr ⟨_, _, if_pos hb⟩
    . exact .inl (if_neg hb)
  . by_cases hb : b = a
    . have z' := (if_pos hb).symm.trans z
      cases z'
      subst hb
      exact ⟨ha, by rw [List.length_map]; exact hl, vs, _, rv, ha⟩
    . have z' := (if_neg hb).symm.trans z
      cases z'
  . by_cases hb : b = a
    . exact hb
    . exact absurd (if_neg hb) z
end L2
namespace L2
open PySem PySem.Spec PyProof.Rows
theorem Zk0 {l : PySem.W.OpenLaw} {n k : Nat} {q : Program} {loose : List Str} {XP : (Str -> Option Value) -> Heap -> Prop} {YP : World -> Heap -> Prop} {d : DefRec} {K : Params -> Fg} {CX : World -> CXT} {sp : World -> Sp} {x : Str}
 (hn : l.most = some n) (hn2 : n <= sizeLine) (hdf : d.params.defaults = []) (hr : Room k callerA)
 (hY : ∀ (w : World) (h : Heap), YP w h -> (K w.params).In h)
 (F : ∀ (w : World) (mg : Str -> Option Value) (fa : Addr) (h : Heap), (K w.params).In h -> h.Ns mainGlobals mg -> mg d.name = some (.ref fa) ->
  ∃ fd : FuncData, (∀ (s : Shared) (u : Value), BindsTo s fd ⟨[u], []⟩ [(x, u)]) /\
   ∀ base : Heap, (K w.params).In base -> base.Ns mainGlobals mg -> FnOk l.prog w (K w.params) mg base (CX w) k fa fd [x] (sp w))
 (hsp : ∀ (w : World) (H : Hp) (a : Addr) (ns : List Int), ns.length <= n -> Only H -> SqL (K w.params) H a (ns.map V.int) -> sp w [.ref a] H (fun v _ => v = .bl true) fun _ _ _ => False)
 (hCX : ∀ (w : World) (H : Hp) (s : Shared) (e : Value) (s' : Shared), CX w [] H s (fun _ _ _ => False) e s' -> False) :
 PySem.W.WalkO q loose XP YP l.row.toRowW d [] (fun f vs => PySem.call f vs) := by
 refine Att.Zgp hn hdf fun w s₀ s₁ mg mb fa o pm cd doc a vs ns G Y ho hd hcd hmg hobj hints hlen hg => ?_
 have KX := hY w _ Y
 obtain ⟨fd, hb, hF⟩ := F w mg fa _ KX G.T.g hmg
 exact ZiD KX G.T.g G.T.b G.T.builtins G.T.nolimit hg hobj hints (Nat.le_trans hlen hn2) hr hF hb (fun H hO hS => hsp w H a ns hlen hO hS) fun H e s' => hCX w H s₁ e s'
theorem ZiE {l : PySem.W.OpenLaw} {n k : Nat} {q : Program} {loose : List Str} {XP : (Str -> Option Value) -> Heap -> Prop} {YP : World -> Heap -> Prop} {d : DefRec} {K : Params -> Fg} {CX : CXT} {sp : Fg -> Sp} {x : Str}
 (hn : l.most = some n) (hn2 : n <= sizeLine) (hdf : d.params.defaults = []) (hr : Room k callerA)
 (hY : ∀ (w : World) (h : Heap), YP w h -> (K w.params).In h)
 (F : ∀ (w : World) (mg : Str -> Option Value) (fa : Addr) (h : Heap), (K w.params).In h -> h.Ns mainGlobals mg -> mg d.name = some (.ref fa) ->
  ∃ fd : FuncData, (∀ (s : Shared) (u : Value), BindsTo s fd ⟨[u], []⟩ [(x, u)]) /\
   ∀ base : Heap, (K w.params).In base -> base.Ns mainGlobals mg -> FnOk l.prog w (K w.params) mg base CX k fa fd [x] (sp (K w.params)))
 (hsp : ∀ (K : Fg) (H : Hp) (a : Addr) (ns : List Int), ns.length <= n -> Only H -> SqL K H a (ns.map V.int) -> sp K [.ref a] H (fun v _ => v = .bl true) fun _ _ _ => False)
 (hCX : ∀ (H : Hp) (s : Shared) (e : Value) (s' : Shared), CX [] H s (fun _ _ _ => False) e s' -> False) :
 PySem.W.WalkO q loose XP YP l.row.toRowW d [] (fun f vs => PySem.call f vs) :=
 Zk0 (K := K) (CX := fun _ => CX) (sp := fun w => sp (K w.params)) hn hn2 hdf hr hY F (fun w H a ns h1 h2 h3 => hsp (K w.params) H a ns h1 h2 h3) fun _ H s e s' => hCX H s e s'
end L2
namespace L2
open PySem PySem.Spec PyProof.Rows
noncomputable def Zbq (s : Stmt) (j : Nat) : Stmt := match s with
 | .ClassDef _ _ _ body _ _ _ _ _ _ _ => body.getD j (.Pass ⟨0, 0, 0, 0⟩)
 | _ => .Pass ⟨0, 0, 0, 0⟩
noncomputable def ZaG (s : Stmt) : Arguments := match s with
 | .FunctionDef _ a _ _ _ _ _ _ _ _ => a
 | _ => { posonlyargs := [], args := [], vararg := none, kwonlyargs := [], kw_defaults := [], kwarg := none, defaults := [] }
noncomputable def ZS (s : Stmt) : List Stmt := match s with
 | .FunctionDef _ _ b _ _ _ _ _ _ _ => b
 | _ => []
noncomputable def Zq (s : Stmt) : Scope := match s with
 | .FunctionDef _ _ _ _ _ _ sc _ _ _ => sc
 | _ => { kind := .function, names := [], isGenerator := false, isCoroutine := false }
noncomputable abbrev CX0 : CXT := fun _ _ _ _ _ _ => False
noncomputable abbrev E0 : XK := fun _ _ _ => False
theorem ZgX : Passes CX0 X E0 := fun _ _ _ _ _ _ _ h => h.elim
structure FunV (dV : Value) (K : Fg) (x qual : Str) (st : Stmt) (f : Addr) (fd : FuncData) : Prop where
 ex : ∃ (oc : Value) (od : Option Addr) (kV doc pm : Value) (an : Option Addr) (cdv ct : Value) (osl : Array (Option Value)),
  fd = PySem.W.fnOf x qual (ZaG st) (ZS st) (Zq st) dV kV doc pm an cdv ct /\ K.lookup f = some ⟨oc, od, .func fd, osl⟩ /\ PySem.W.codeIn K cdv qual = true
 kp : PySem.W.keepIn K (.ref f) = true
noncomputable abbrev Fun := FunV .none
section
variable {P : Program} {w : World} {K : Fg} {mg : Str -> Option Value} {base : Heap}
theorem FunV.ok {dV : Value} {x qual : Str} {st : Stmt} {f : Addr} {fd : FuncData} {N ps : List Str} {k : Nat} {sp : Sp} (F : FunV dV K x qual st f fd) (S : FnScope N ps (Zq st)) (len : ∀ vs H Q E, sp vs H Q E -> vs.length = ps.length)
 (hbody : ∀ (cdv : Value) (A : Around) (outer : List Env) (s : Shared) (H : Hp) (vs : List V) (Q : VK) (E : XK), Room k (A.deeper (envOfC qual (Zq st) s.heap.objs.size f cdv)) -> sp vs H Q E ->
  ∃ t, PSs (cxOf CX0 P w K mg base N qual (Zq st) f cdv A outer s H E).nox (ZS st) t /\ t { nx := fun _ H' => Q .non H', rt := Q } (start N vs) H) : FnOk P w K mg base CX0 (k + 1) f fd ps sp := by
 obtain ⟨oc, od, kV, doc, pm, an, cdv, ct, osl, rfl, lk, hcd⟩ := F.ex
 refine Zos lk hcd S len fun A outer s H vs Q E hr hsp => ?_
 obtain ⟨t, h, q⟩ := hbody cdv A outer s H vs Q E hr hsp
 exact ⟨t, h.nox, q⟩
theorem FunV.binds {x qual : Str} {st : Stmt} {f : Addr} {fd : FuncData} {ps : List Str} (F : Fun K x qual st f fd)
 (h : ∀ (kV doc pm : Value) (an : Option Addr) (cdv ct : Value) (us : List Value), us.length = ps.length -> bindArgs (PySem.W.fnOf x qual (ZaG st) (ZS st) (Zq st) .none kV doc pm an cdv ct) ⟨us, []⟩ = pure (ps.zip us)) : Binds K fd ps [] := by
 obtain ⟨oc, od, kV, doc, pm, an, cdv, ct, osl, rfl, lk, hcd⟩ := F.ex
 exact .all (h kV doc pm an cdv ct)
theorem Zf1 {x qual : Str} {st : Stmt} {f : Addr} {oc : Value} {od an : Option Addr} {osl : Array (Option Value)} {kV doc pm cdv ct : Value} (l : K.lookup f = some ⟨oc, od, .func (PySem.W.fnOf x qual (ZaG st) (ZS st) (Zq st) .none kV doc pm an cdv ct), osl⟩)
 (c : PySem.W.codeIn K cdv qual = true) (k : PySem.W.keepIn K (.ref f) = true) : Fun K x qual st f (PySem.W.fnOf x qual (ZaG st) (ZS st) (Zq st) .none kV doc pm an cdv ct) := ⟨⟨oc, od, kV, doc, pm, an, cdv, ct, osl, rfl, l, c⟩, k⟩
end
def Same (H H' : Hp) : Prop := ∀ b o, H b = some o -> H' b = some o
theorem Same.refl (H : Hp) : Same H H := fun _ _ h => h
theorem Same.trans (a : Same H H1) (b : Same H1 H2) : Same H H2 := fun c o h => b c o (a c o h)
theorem Same.seq {K : Fg} {H H' : Hp} {a : Addr} {xs : List V} (e : Same H H') (h : SqL K H a xs) : SqL K H' a xs := by
 rcases h with (h | ⟨o, h⟩) | h
 . exact .inl (.inl (e _ _ h))
 . exact .inl (.inr ⟨o, e _ _ h⟩)
 . exact .inr h
section
theorem ZhT : Zag X (.builtin "len") (fun xs H Q => ∃ a kvs, xs = [V.ref a] /\ H a = some (.dK kvs) /\ Q (.int kvs.length) H) := by
 intro pins s σ H xs us Q I r h
 obtain ⟨a, kvs, rfl, ha, q⟩ := h
 obtain ⟨u, rfl, ru⟩ := Zfg r
 cases ru
 exact Zox I (.inl ha) fun t s' I' => ⟨.int kvs.length, H, I', ⟨t, rfl⟩, q⟩
end
end L2
namespace L2
open PySem PySem.Spec PyProof.Rows
noncomputable def TB (T : Addr) : HO := .ext fun h => ∃ o ts, h.get? T = some o /\ o.data = .fields ts /\ 3 < ts.size
theorem ZjJ (e : h.get? T = some o) (d : o.data = .fields ts) (z : 3 < ts.size) : Z8 P w H h T (TB T) :=
 ⟨⟨o, ts, e, d, z⟩, ⟨o, e⟩, fun h1 h2 ⟨o, ts, e, d, z⟩ k => ⟨o, ts, k o e, d, z⟩⟩
structure FlyT (φ : Value -> Prop) (H : Hp) (h : Heap) (ea : Addr) : Prop where
 ex : ∃ (C : Addr) (dx : Option Addr) (fs : List (Str × V)) (oe : Obj) (vs : Array Value) (T : Addr) (oT : Obj) (ts : Array Value) (fl : Value), H ea = some (.exc C dx false fs) /\ h.get? ea = some oe /\ oe.data = .fields vs /\ vs.size = 6 /\ vs[1]? = some (.ref T) /\
  H T = some (TB T) /\ h.get? T = some oT /\ oT.data = .fields ts /\ ts[3]? = some fl /\ φ fl
structure FlyN (H : Hp) (h : Heap) (ea : Addr) : Prop where
 ex : ∃ (C : Addr) (dx : Option Addr) (fs : List (Str × V)) (oe : Obj) (vs : Array Value), H ea = some (.exc C dx false fs) /\ h.get? ea = some oe /\ oe.data = .fields vs /\ vs.size = 6 /\ vs[1]? = some .none
theorem FlyT.mono (f : FlyT φ H h ea) (k : ∀ v, φ v -> ψ v) : FlyT ψ H h ea := by
 obtain ⟨C, dx, fs, oe, vs, T, oT, ts, fl, a1, a2, a3, a4, a5, a6, a7, a8, a9, a10⟩ := f.ex
 exact ⟨C, dx, fs, oe, vs, T, oT, ts, fl, a1, a2, a3, a4, a5, a6, a7, a8, a9, k _ a10⟩
def Fly (X : Cx) (H : Hp) (h : Heap) (ea : Addr) : Prop := FlyN H h ea \/ FlyT (fun fl => fl = .none \/ fl = rawInt X.env.locals) H h ea
structure Fr0 (X : Cx) (A : Around) : Prop where
 stk : X.stack = X.env :: X.outer
 frm : X.env.frame = some X.env.locals
 fms : A.frames = some X.stack
section
variable {X : Cx} {A : Around} {M : Model} {E : Value -> Shared -> Prop} {pins : List (Addr × Obj)} {σ : St} {H : Hp} {s : Shared} {ea : Addr}
theorem ZbH {h : Heap} {a : Addr} {o : Obj} {vs : Array Value} (f : Array Value -> Array Value) (e : h.get? a = some o) (d : o.data = .fields vs) : (h.update a (Obj.mapFields f)).get? a = some { o with data := .fields (f vs) } := by
 have q : Obj.mapFields f o = { o with data := .fields (f vs) } := by
  obtain ⟨c, di, da, sl⟩ := o
  cases d
  rfl
 rw [<- q]
 exact Heap.get?_update_self (Obj.mapFields f) e (Obj.isFreed_of_fields (vs := f vs) (by rw [q]))
theorem Inv.excSet {C : Addr} {dx : Option Addr} {fr fr' : Bool} {fs : List (Str × V)} {oe : Obj} {vs : Array Value} {f : Array Value -> Array Value} (I : Inv X pins σ H s) (e1 : H ea = some (.exc C dx fr fs)) (e2 : s.heap.get? ea = some oe) (e3 : oe.data = .fields vs) (z : (f vs).size = 6)
 (hf : fr' = true -> (f vs)[1]? = some .none) : Inv X pins σ (upd H ea (.exc C dx fr' fs)) { s with heap := s.heap.update ea (Obj.mapFields f) } := by
 have g := ZbH f e2 e3
 refine I.write (t' := s.toks) (x := ea) (e := ea) (by rw [e1]; trivial) (.inl rfl) (fun b u hb q => by rw [Heap.get?_update_other _ _ (Ne.symm hb)]; exact q) ⟨_, g⟩ ?_
 obtain ⟨l, ⟨o, vs', q1, q2, q3, q4, q5, q6⟩, r⟩ := (show Z8 X.prog X.w H s.heap ea (.exc C dx fr fs) from I.hok ea _ e1)
 rw [e2] at q1
 cases q1
 refine ⟨l, ⟨_, f vs, g, q2, q3, rfl, z, hf⟩, ?_⟩
 cases dx with
 | none => exact r
 | some d =>
  obtain ⟨r1, r2, mA, ⟨od, es, ep, e4, c⟩, r3⟩ := r
  refine ⟨by rw [Zj r2]; exact r1, r2, mA, ⟨od, es, ep, by rw [Heap.get?_update_other _ _ (Ne.symm r2)]; exact e4, c⟩, r3⟩
theorem Zf2 (e : H a = some o) : upd H a o = H := by
 funext b
 unfold upd
 split
 . rename_i q; subst q; exact e.symm
 . rfl
theorem Inv.tbSet {T : Addr} {oT : Obj} {ts : Array Value} {f : Array Value -> Array Value} (I : Inv X pins σ H s) (e1 : H T = some (TB T)) (e2 : s.heap.get? T = some oT) (e3 : oT.data = .fields ts) (z : 3 < (f ts).size) :
 Inv X pins σ H { s with heap := s.heap.update T (Obj.mapFields f) } := by
 have g := ZbH f e2 e3
 have J : Inv X pins σ (upd H T (TB T)) { s with heap := s.heap.update T (Obj.mapFields f) } :=
  I.write (t' := s.toks) (x := T) (e := T) (by rw [e1]; exact trivial) (.inl rfl) (fun b u hb q => by rw [Heap.get?_update_other _ _ (Ne.symm hb)]; exact q) ⟨_, g⟩ (ZjJ g rfl z)
 rw [Zf2 e1] at J
 exact J
theorem ZjK (e1 : H ea = some (.exc C dx fr fs)) (e2 : H T = some (TB T)) : T ≠ ea := fun q => by
 subst q
 rw [e1] at e2
 cases e2
theorem set6 {vs : Array Value} {v : Value} {i : Nat} : (vs.setIfInBounds i v).size = vs.size := Array.size_setIfInBounds
theorem Zf3 {C : Addr} {dx : Option Addr} {fs : List (Str × V)} {oe : Obj} {vs : Array Value} {head : Value} {hadNext : Bool} (F : Fr0 X A) (I : Inv X pins σ H s) (e1 : H ea = some (.exc C dx false fs)) (e2 : s.heap.get? ea = some oe) (e3 : oe.data = .fields vs) (e4 : vs.size = 6) :
 wpAny M A (do
  let a <- frameOf X.env
  let pl <- entryPlaceOf X.env.locals hadNext
  let b <- EntryCells.newEntry head a Value.none (rawInt ↑X.env.locals) Value.none pl
  setField (Value.ref ea) 1 b) (fun _ s' => ∃ H', Inv X pins σ H' s' /\ Same H H' /\ FlyT (fun fl => fl = rawInt X.env.locals) H' s'.heap ea) E s := by
 have hfr : A.frames = some (X.env :: X.outer) := by rw [F.fms, F.stk]
 have hl : s.heap.FunFrames X.base (X.env :: X.outer) := by rw [<- F.stk]; exact I.stack
 refine wpAny_bind (wpAny_frameOf_fun hfr hl F.frm fun h₁ hs₁ => ?_)
 have hfs : List.filterMap (fun x => x.frame) (X.env :: X.outer) = frs X.stack := by rw [F.stk]; rfl
 rw [hfs] at hs₁
 obtain ⟨_, k1, k2⟩ := hs₁
 have nfr : ∀ b o, H b = some o -> b ∉ frs X.stack := fun b o e z => by rw [I.stkFree b z] at e; cases e
 have un : Un (frs X.stack) [] H H s.heap h₁ :=
  ⟨fun b o e n hb _ => by rw [k1 b hb]; exact e, fun b o e n hb _ => k2 b o e, fun b o e n _ => n, fun b o e _ => let ⟨sl, q⟩ := k2 b o e; ⟨_, q⟩, fun _ _ e => e, fun _ _ _ e => e, fun b ps e => ⟨#[], by rw [e]; simp⟩⟩
 have hok1 : HOk X.prog X.w H h₁ := fun a o e => (I.hok a o e).stay (fun b u hb q => by
  rw [k1 b]
  . exact q
  . rcases hb with z | z
    . rw [z]; exact nfr a o e
    . exact nfr b _ z) (fun _ q => q) fun _ _ q => q
 have I1 : Inv X pins σ H { s with heap := h₁ } := I.call (g' := s.gens) (d' := s.drawn) (t' := s.toks) un hok1 I.bare fun b z => absurd z (by simp)
 have e2' : h₁.get? ea = some oe := by rw [k1 ea (nfr ea _ e1)]; exact e2
 (refine wpAny_bind (wpAny_entryPlaceOf fun pl hpl => ?_))
 refine wpAny_bind ?_
 (unfold EntryCells.newEntry newFields)
 refine wpAny_newObj_type ?_ (IsPlace.sizeOk5 hpl _ _ _ _ _)
 have z4 : 3 < (([head, Value.ref X.env.locals, Value.none, rawInt ↑X.env.locals, Value.none] ++ if pl.isEmpty = true then List.replicate 6 Value.none else pl).toArray).size := by simp
 have hg := Heap.get?_push_size h₁ (o := { cls := Value.type "traceback", data := .fields ([head, Value.ref X.env.locals, Value.none, rawInt ↑X.env.locals, Value.none] ++ if pl.isEmpty = true then List.replicate 6 Value.none else pl).toArray }) rfl
 have I2 := I1.laid (a := h₁.objs.size) (o := TB h₁.objs.size) (t' := s.toks) (h' := h₁.push { cls := Value.type "traceback", data := .fields ([head, Value.ref X.env.locals, Value.none, rawInt ↑X.env.locals, Value.none] ++ if pl.isEmpty = true then List.replicate 6 Value.none else pl).toArray })
  (fun b u q => Heap.get?_push_of_some _ q) (Nat.le_refl _) (ZjJ hg rfl z4)
 have hn : H h₁.objs.size = none := I1.hok.fresh (Nat.le_refl _)
 have ne : ea ≠ h₁.objs.size := ZV e1 hn
 have e1' : upd H h₁.objs.size (TB h₁.objs.size) ea = some (.exc C dx false fs) := by rw [Zj ne]; exact e1
 have e2'' := Heap.get?_push_of_some { cls := Value.type "traceback", data := .fields ([head, Value.ref X.env.locals, Value.none, rawInt ↑X.env.locals, Value.none] ++ if pl.isEmpty = true then List.replicate 6 Value.none else pl).toArray } e2'
 refine wpAny_setField e2'' e3 (by omega) ?_
 have I3 := Inv.excSet (fr' := false) (f := fun x => x.setIfInBounds 1 (Value.ref h₁.objs.size)) I2 e1' e2'' e3 (by rw [set6]; exact e4) (by simp)
 rw [Zf2 e1'] at I3
 refine ⟨_, I3, fun b o q => by rw [Zj (ZV q hn)]; exact q, ⟨C, dx, fs, _, _, h₁.objs.size, _, _, rawInt X.env.locals, e1', ZbH _ e2'' e3, rfl, by rw [set6]; exact e4, ?_, Zi, (Heap.get?_update_other _ _ ne).trans hg, rfl, ?_, rfl⟩⟩
 . rw [Array.getElem?_setIfInBounds]
   simp [e4]
 . simp
theorem Ze0 (F : Fr0 X A) (I : Inv X pins σ H s) (f : Fly X H s.heap ea) :
 wpAny M A (noteFrame (.ref ea) X.env) (fun _ s' => ∃ H', Inv X pins σ H' s' /\ Same H H' /\ FlyT (fun fl => fl = rawInt X.env.locals) H' s'.heap ea) E s := by
 unfold noteFrame
 rw [F.frm]
 dsimp only
 rcases f with ⟨C, dx, fs, oe, vs, e1, e2, e3, e4, e5⟩ | ⟨C, dx, fs, oe, vs, T, oT, ts, fl, e1, e2, e3, e4, e5, e6, e7, e8, e9, e10⟩
 . refine wpAny_bind (wpAny_field e2 e3 e5 ?_)
   rw [if_neg (by decide)]
   exact Zf3 F I e1 e2 e3 e4
 . refine wpAny_bind (wpAny_field e2 e3 e5 ?_)
   rw [if_pos (show (Value.ref T != Value.none) = true from rfl)]
   refine wpAny_bind (wpAny_field e7 e8 e9 ?_)
   have hz : 3 < ts.size := (Array.getElem?_eq_some_iff.mp e9).1
   rcases e10 with rfl | rfl
   . rw [if_neg (by simp [rawInt])]
     refine wpAny_bind (wpAny_setField e7 e8 hz ?_)
     have I1 := I.tbSet (f := fun x => x.setIfInBounds 3 Value.none) e6 e7 e8 (by rw [set6]; exact hz)
     refine Zf3 F I1 e1 ?_ e3 e4
     show (Heap.update _ _ _).get? _ = _
     rw [Heap.get?_update_other _ _ (ZjK e1 e6)]
     exact e2
   . rw [if_pos (by simp)]
     exact wpAny_pure ⟨H, I, Same.refl _, C, dx, fs, oe, vs, T, oT, ts, _, e1, e2, e3, e4, e5, e6, e7, e8, e9, rfl⟩
theorem Zb6 {φ : Value -> Prop} {o : Option Addr} (I : Inv X pins σ H s) (f : FlyT φ H s.heap ea) :
 wpAny M A (setFlight (.ref ea) o) (fun _ s' => Inv X pins σ H s' /\ FlyT (fun fl => fl = o.elim Value.none fun f => rawInt f) H s'.heap ea) E s := by
 obtain ⟨C, dx, fs, oe, vs, T, oT, ts, fl, e1, e2, e3, e4, e5, e6, e7, e8, e9, e10⟩ := f.ex
 unfold setFlight
 have hz : 3 < ts.size := (Array.getElem?_eq_some_iff.mp e9).1
 refine wpAny_bind (wpAny_field e2 e3 e5 ?_)
 rw [if_pos (show (Value.ref T != Value.none) = true from rfl)]
 refine wpAny_setField e7 e8 hz ?_
 have I1 := I.tbSet (f := fun x => x.setIfInBounds 3 (o.elim Value.none fun f => rawInt f)) e6 e7 e8 (by rw [set6]; exact hz)
 refine ⟨I1, C, dx, fs, oe, vs, T, _, _, _, e1, ?_, e3, e4, e5, e6, ZbH _ e7 e8, rfl, ?_, rfl⟩
 . show (Heap.update _ _ _).get? _ = _
   rw [Heap.get?_update_other _ _ (ZjK e1 e6)]
   exact e2
 . rw [Array.getElem?_setIfInBounds]
   simp [hz]
theorem ZiF (F : Fr0 X A) (I : Inv X pins σ H s) (f : Fly X H s.heap ea) :
 wpAny M A (leaving X.env (.ref ea)) (fun _ s' => ∃ H', Inv X pins σ H' s' /\ Same H H' /\ FlyT (fun fl => fl = Value.none) H' s'.heap ea) E s := by
 unfold leaving
 refine wpAny_bind (thn (Ze0 F I f) fun _ s1 z0 => ?_)
 obtain ⟨H1, I1, k1, f1⟩ := z0
 exact thn (Zb6 (o := none) I1 f1) fun _ s2 ⟨I2, f2⟩ => ⟨H1, I2, k1, f2⟩
structure EndX extends Ends where
 xc : Addr -> St -> Hp -> Prop
abbrev TX := EndX -> St -> Hp -> Prop
def XP (X : Cx) (pins : List (Addr × Obj)) (xc : Addr -> St -> Hp -> Prop) (e : Value) (s' : Shared) : Prop :=
 X.xe e s' \/ ∃ ea σ' H', e = .ref ea /\ Inv X pins σ' H' s' /\ Fly X H' s'.heap ea /\ ∀ H'', Same H' H'' -> xc ea σ' H''
def PX (X : Cx) (st : Stmt) (t : TX) : Prop :=
 ∀ (pins : List (Addr × Obj)) (s : Shared) (σ : St) (H : Hp) (D : EndX), Inv X pins σ H s -> t D σ H -> wpAny (model X.prog X.w) X.A (exec st X.env) (SP X pins D.toEnds) (XP X pins D.xc) s
def PXs (X : Cx) (st : List Stmt) (t : TX) : Prop :=
 ∀ (pins : List (Addr × Obj)) (s : Shared) (σ : St) (H : Hp) (D : EndX), Inv X pins σ H s -> t D σ H -> wpAny (model X.prog X.w) X.A (execs st X.env) (SP X pins D.toEnds) (XP X pins D.xc) s
theorem PX.imp {st : Stmt} {t u : TX} (h : PX X st t) (k : ∀ D σ H, u D σ H -> t D σ H) : PX X st u := fun pins s σ H D I w => h pins s σ H D I (k D σ H w)
theorem PXs.imp {st : List Stmt} {t u : TX} (h : PXs X st t) (k : ∀ D σ H, u D σ H -> t D σ H) : PXs X st u := fun pins s σ H D I w => h pins s σ H D I (k D σ H w)
theorem PS.x {st : Stmt} {t : TS} (h : PS X st t) : PX X st fun D => t D.toEnds := fun pins s σ H D I w => wpAny_mono (h pins s σ H D.toEnds I w) (fun _ _ q => q) fun _ _ q => .inl q
theorem Zmk (F : Fr0 X A) (hx : ∀ e s, ¬ X.xe e s) : PassesOwn (model P w) A X.env (XP X pins xc) := fun e s' h => by
 rcases h with h | ⟨ea, σ', H', rfl, I, f, q⟩
 . exact absurd h (hx _ _)
 . refine wpAny_mono (Ze0 F I f) (fun _ s1 ⟨H1, I1, k1, f1⟩ => ?_) fun _ _ z => z
   obtain ⟨C, dx, fs, oe, vs, T, oT, ts, fl, e1, e2, e3, e4, e5, e6, e7, e8, e9, e10⟩ := f1.ex
   show wpAny _ _ _ _ _ _
   refine wpAny_bind (wpAny_field e2 e3 e5 ?_)
   rw [if_neg (show ¬ (Value.ref T == Value.none) = true from Bool.false_ne_true)]
   refine thn (Zb6 (o := X.env.frame) I1 f1) fun _ s2 ⟨I2, f2⟩ => .inr ⟨ea, σ', H1, rfl, I2, .inr (f2.mono fun v hv => .inr ?_), fun H2 k2 => q H2 (k1.trans k2)⟩
   rw [hv, F.frm]
   rfl
end
end L2
namespace L2
open PySem PySem.Spec PyProof.Rows
section
variable {X : Cx} {A : Around} {pins : List (Addr × Obj)} {σ : St} {H : Hp} {s : Shared} {pos : Pos}
theorem thnx (h : wpAny M A t Q X.xe s) (hQ : ∀ a s, Q a s -> Q' a s) : wpAny M A t Q' (XP X pins xc) s := wpAny_mono h hQ fun _ _ x => .inl x
def Zo0 (t u : TX) : TX := fun D σ H => t { D with nx := u D } σ H
theorem Zk1 : PXs X [] fun D σ H => D.nx σ H := fun _ _ σ H _ I h => wpAny_execs_nil ⟨σ, H, I, h⟩
theorem ZiG {st : Stmt} {rest : List Stmt} {t u : TX} (h1 : PX X st t) (h2 : PXs X rest u) : PXs X (st :: rest) (Zo0 t u) := by
 intro pins s σ H D I h
 refine wpAny_execs_cons (thn (h1 pins s σ H { D with nx := u D } I h) fun f s1 q => ?_)
 cases f with
 | next =>
  obtain ⟨σ', H', I', q⟩ := q
  exact h2 pins s1 σ' H' D I' q
 | ret v => exact q
 | brk => exact q
 | cont => exact q
def tIfX (c : TT) (t u : TX) : TX := fun D σ H => c σ H fun b H1 => if b = true then t D σ H1 else u D σ H1
theorem Zo1 (hc : PT X c tc) (ha : PXs X a t) (hb : PXs X b u) : PX X (.If c a b pos) (tIfX tc t u) := by
 intro pins s σ H D I h
 refine wpAny_If (thnx (hc pins s σ H _ I h) fun d s1 z0 => ?_)
 obtain ⟨H1, I1, q1⟩ := z0
 cases d with
 | true => exact ha pins s1 σ H1 D I1 q1
 | false => exact hb pins s1 σ H1 D I1 q1
theorem XP.unpinned (h : XP X (pins ++ pl) xc e s) : XP X pins xc e s := by
 rcases h with h | ⟨ea, σ', H', e, I, f, q⟩
 . exact .inl h
 . exact .inr ⟨ea, σ', H', e, I.unpinned, f, q⟩
def Zo2 (wi : TI) (g : TG) (tb : TX) : TX := fun D σ H => wi σ H fun J H1 => ∃ W : Nat -> Nat -> St -> Hp -> Prop, (∃ m, W 0 m σ H1) /\ ∀ i m σ H, W i m σ H ->
 (J.stop i H /\ D.nx σ H) \/ (J.go i H /\ ∃ N : St -> Hp -> Prop, (∀ σ' H', N σ' H' -> ∃ m', m' < m /\ W (i + 1) m' σ' H') /\ ∀ x H', J.yld i H x H' -> g x σ H' fun σ2 H2 => tb { D with nx := N, ct := N, bk := D.nx } σ2 H2)
theorem Zml (F : Fr0 X X.A) (hx : ∀ e s, ¬ X.xe e s) (hc : X.calm = true) (hi : PI X tg iter wi) (hg : PG X tg g) (hb : PXs X body tb)
 (hs : ∀ x, foldedSetIterable iter X.env x = pure x := by intro _; rfl) : PX X (.For tg iter body [] pos) (Zo2 wi g tb) := by
 intro pins s σ H D I h
 have hp : PassesOwn (model X.prog X.w) X.A X.env (XP X pins D.xc) := Zmk F hx
 refine wpAny_For (thnx (hi pins s σ H _ I h) fun v s1 h1 => thnx h1 fun itv s2 h2 => ?_) hs
 obtain ⟨it, fp, tn, J, H2, e, I2, T, st2, f2, W, ⟨m0, w0⟩, turn⟩ := h2
 subst e
 have stat : ∀ {H' : Hp}, (∀ b ∈ fp, H' b = none) -> ∀ b ∈ fp, FpOk X pins H' b := fun hn b hb => ⟨hn b hb, (f2 b hb).2⟩
 refine codeAny_forLoop_any (fun n s' => ∃ i σ' H', Inv X pins σ' H' s' /\ tn i s'.heap /\ (∀ b ∈ fp, H' b = none) /\ W i n σ' H') ?_ m0 ⟨0, σ, H2, I2, st2, fun b hb => (f2 b hb).1, w0⟩
 rintro n s3 ⟨i, σ3, H3, I3, st3, fr3, w3⟩
 rcases turn i n σ3 H3 w3 with ⟨stop, qn⟩ | ⟨go, N, hN, step⟩
 . refine wpAny_passesOwn hp (thnx (T.done X rfl rfl rfl hc i pins s3 σ3 H3 X.xe I3 (stat fr3) st3 stop) fun r s4 z0 => ?_)
   obtain ⟨hr, I4⟩ := z0
   subst hr
   exact wpAny_execs_nil ⟨σ3, H3, I4, qn⟩
 . refine wpAny_passesOwn hp (thnx (T.item X rfl rfl rfl hc i pins s3 σ3 H3 X.xe I3 (stat fr3) st3 go) fun r s4 z0 => ?_)
   obtain ⟨u, hr, h4⟩ := z0
   subst hr
   refine wpAny_passesOwn hp (thnx h4 fun _ s5 z0 => ?_)
   obtain ⟨x, H5, I5, r5, y5, st5, fr5⟩ := z0
   have I5' := I5.pinned (stat fr5) (T.obj _ _ st5)
   refine wpAny_passesOwn hp (thnx (hg _ s5 σ3 H5 x u _ I5' r5 (step x H5 y5)) fun _ s6 z0 => ?_)
   obtain ⟨σ6, H6, I6, q6⟩ := z0
   refine wpAny_passesOwn hp (wpAny_mono (hb _ s6 σ6 H6 { D with nx := N, ct := N, bk := D.nx } I6 q6) (fun f s7 q7 => ?_) fun _ _ z => z.unpinned)
   have again : ∀ {σ7 : St} {H7 : Hp}, Inv X (pins ++ Zcp fp s5.heap) σ7 H7 s7 -> N σ7 H7 -> ∃ m, m < n /\ ∃ i σ' H', Inv X pins σ' H' s7 /\ tn i s7.heap /\ (∀ b ∈ fp, H' b = none) /\ W i m σ' H' := fun {σ7 H7} I7 n7 => by
    obtain ⟨m', hm, w7⟩ := hN σ7 H7 n7
    refine ⟨m', hm, i + 1, σ7, H7, I7.unpinned, T.keep _ _ _ st5 fun b hb o e => (I7.pin (b, o) (List.mem_append_right _ (List.mem_append_right _ (ZaF hb e)))).1, fun b hb => ?_, w7⟩
    obtain ⟨o, e, d⟩ := T.obj _ _ st5 b hb
    exact (I7.pin (b, o) (List.mem_append_right _ (List.mem_append_right _ (ZaF hb e)))).2.1
   cases f with
   | next => obtain ⟨σ7, H7, I7, n7⟩ := q7; exact again I7 n7
   | cont => obtain ⟨σ7, H7, I7, n7⟩ := q7; exact again I7 n7
   | brk => obtain ⟨σ7, H7, I7, q7⟩ := q7; exact ⟨σ7, H7, I7.unpinned, q7⟩
   | ret v => obtain ⟨x7, σ7, H7, I7, r7, q7⟩ := q7; exact ⟨x7, σ7, H7, I7.unpinned, r7, q7⟩
noncomputable def CXx (P : Program) (w : World) : CXT := fun outer H s E e s' => ∃ ea H', e = .ref ea /\ s'.os = s.os /\ AllBare s'.gens /\ Un (frs outer) [] H H' s.heap s'.heap /\ HOk P w H' s'.heap /\ FlyT (fun fl => fl = Value.none) H' s'.heap ea /\
 ∀ H'', Same H' H'' -> E (.ref ea) none H''
theorem Zmm {P : Program} {w : World} {K : Fg} {mg : Str -> Option Value} {base : Heap} {k : Nat} {f : Addr} {name qual : Str} {params : Arguments} {body : List Stmt} {scope : Scope} {dV kV doc pm cdv ct oc : Value} {an od : Option Addr}
 {osl : Array (Option Value)} {N ps : List Str} {sp : Sp} (lk : K.lookup f = some ⟨oc, od, .func (PySem.W.fnOf name qual params body scope dV kV doc pm an cdv ct), osl⟩) (hcd : PySem.W.codeIn K cdv qual = true) (S : FnScope N ps scope)
 (len : ∀ vs H Q E, sp vs H Q E -> vs.length = ps.length)
 (hbody : ∀ (A : Around) (outer : List Env) (s : Shared) (H : Hp) (vs : List V) (Q : VK) (E : XK), Room k (A.deeper (envOfC qual scope s.heap.objs.size f cdv)) -> sp vs H Q E ->
  ∃ t, (A.frames = some outer -> PXs (cxOf CX0 P w K mg base N qual scope f cdv A outer s H E).nox body t) /\ t { nx := fun _ H' => Q .non H', rt := Q, xc := fun ea _ H' => E (.ref ea) none H' } (start N vs) H) :
 FnOk P w K mg base (CXx P w) (k + 1) f (PySem.W.fnOf name qual params body scope dV kV doc pm an cdv ct) ps sp := by
 refine ⟨len, fun A outer s H args us vs Q E hr e0 hb r hsp => ?_⟩
 have hl := len _ _ _ _ hsp
 have KX : K.In s.heap := e0.mod.kin.keeps fun b o e => (e0.bs b o e).1
 have lim : s.heap.NoLimit := e0.mod.nolimit.keeps fun b o e => (e0.bs b o e).1
 have hkind : ∀ y ∈ ps.zip us, scope.names.lookup y.1 = some .local \/ (scope.names.lookup y.1 = some .cell /\ ((cellsFrom (s.heap.objs.size + 1) scope.names []).lookup y.1).isSome = true) := fun ⟨n, v⟩ hy => by
  rcases S.par n (List.of_mem_zip hy).1 with q | q
  . exact .inl q
  . exact .inr ⟨q, PySem.W.cellsFrom_some _ _ _ (.inl q)⟩
 refine codeAny_call_function hr.depth (KX _ _ lk) rfl S.co S.gen rfl (PySem.W.codeRec_of KX hcd) (hb _ _ _ _ ?_)
 refine wpAny_newFunctionEnv_cells S.kind hkind fun env he s1 x => ?_
 subst he
 refine ⟨lim.keeps x.toInCall.keep, codeAny_func ?_⟩
 obtain ⟨t, ht, hq⟩ := hbody A outer s H vs Q E (hr.deeper _) hsp
 have I : Inv (cxOf CX0 P w K mg base N qual scope f cdv A outer s H E) [] (start N vs) H s1 := ZeL S hr.hd e0 hl r x
 refine wpAny_mono (ht e0.frames [] s1 (start N vs) H _ (I.wish _) hq) (fun fl s' hs => ?_) fun e s' hs => ?_
 . have fin : ∀ {σ' : St} {H' : Hp} {v : V} {u : Value}, Inv (cxOf CX0 P w K mg base N qual scope f cdv A outer s H E).nox [] σ' H' s' -> RelV v u -> Q v H' -> CE outer P w H s Q u s' :=
    fun {σ' H' v u} J rv q => ⟨v, H', J.os, J.bare, J.base, J.hok, rv, q⟩
   cases fl with
   | ret u =>
    obtain ⟨v, σ', H', J, rv, q⟩ := hs
    exact fin J rv q
   | next =>
    obtain ⟨σ', H', J, q⟩ := hs
    exact fin (v := V.non) (u := Value.none) J rfl q
   | brk =>
    obtain ⟨_, _, _, q⟩ := hs
    exact False.elim q
   | cont =>
    obtain ⟨_, _, _, q⟩ := hs
    exact False.elim q
 . rcases hs with hs | ⟨ea, σ', H', rfl, J, fl, q⟩
   . exact False.elim hs
   . have F : Fr0 (cxOf CX0 P w K mg base N qual scope f cdv A outer s H E).nox (A.deeper (envOfC qual scope s.heap.objs.size f cdv)) := ⟨rfl, rfl, Around.frames_deeper e0.frames⟩
     refine wpAny_mono (ZiF (M := model P w) (E := fun _ _ => False) F J fl) (fun _ s2 ⟨H2, J2, k2, f2⟩ => ?_) fun _ _ z => z.elim
     exact ⟨ea, H2, rfl, J2.os, J2.bare, J2.base, J2.hok, f2, fun H'' k3 => q H'' (k2.trans k3)⟩
def EXP (X : Cx) (pins : List (Addr × Obj)) (σ : St) (Ex : Addr -> Hp -> Prop) (e : Value) (s' : Shared) : Prop :=
 X.xe e s' \/ ∃ ea H', e = .ref ea /\ Inv X pins σ H' s' /\ Fly X H' s'.heap ea /\ ∀ H'', Same H' H'' -> Ex ea H''
abbrev TEX := St -> Hp -> VK -> (Addr -> Hp -> Prop) -> Prop
def PEx (X : Cx) (e : Expr) (t : TEX) : Prop :=
 ∀ (pins : List (Addr × Obj)) (s : Shared) (σ : St) (H : Hp) (Q : VK) (Ex : Addr -> Hp -> Prop), Inv X pins σ H s -> t σ H Q Ex -> wpAny (model X.prog X.w) X.A (eval e X.env) (EP X pins σ Q) (EXP X pins σ Ex) s
theorem PEx.imp (h : PEx X e t) (k : ∀ σ H Q Ex, u σ H Q Ex -> t σ H Q Ex) : PEx X e u := fun pins s σ H Q Ex I w => h pins s σ H Q Ex I (k σ H Q Ex w)
theorem thne (h : wpAny M A t Q X.xe s) (hQ : ∀ a s, Q a s -> Q' a s) : wpAny M A t Q' (EXP X pins σ Ex) s := wpAny_mono h hQ fun _ _ x => .inl x
theorem EXP.xp (h : EXP X pins σ Ex e s) (k : ∀ ea H', Ex ea H' -> xc ea σ H') : XP X pins xc e s := by
 rcases h with h | ⟨ea, H', e, I, f, q⟩
 . exact .inl h
 . exact .inr ⟨ea, σ, H', e, I, f, fun H'' z => k ea H'' (q H'' z)⟩
theorem Zk2 (F : FnOk X.prog X.w X.K X.mg X.base (CXx X.prog X.w) k f fd ps sp) (hr : Room k X.A) (hb : Binds X.K fd ps ds) (hd : Vals dvs ds)
 (I : Inv X pins σ H s) (r : Vals vs us) (h : sp (vs ++ dvs) H Q (fun v _ H' => ∃ ea, v = .ref ea /\ Ex ea H')) : wpAny (model X.prog X.w) X.A (call (.ref f) us) (EP X pins σ Q) (EXP X pins σ Ex) s := by
 have r2 : Vals (vs ++ dvs) (us ++ ds) := r.append hd
 have hl : (us ++ ds).length = ps.length := by rw [<- r2.length]; exact F.len _ _ _ _ h
 refine wpAny_call (codeAny_mono (F.run X.A X.stack s H ⟨us, []⟩ (us ++ ds) (vs ++ dvs) Q _ hr I.env0 (hb s us I.kIn hl) r2 h) fun r s' hq => ?_)
 cases r with
 | error e =>
  obtain ⟨ea, H', rfl, os, bare, un, hok, fl, q⟩ := hq
  refine .inr ⟨ea, H', rfl, I.call' (ch := []) os un hok bare fun b z => absurd z (by simp), .inr (fl.mono fun v z => .inl z), fun H'' z => ?_⟩
  obtain ⟨ea', e, q⟩ := q H'' z
  cases e
  exact q
 | ok fl =>
  cases fl with
  | ret u => exact I.after hq
  | next => exact False.elim hq
  | brk => exact False.elim hq
  | cont => exact False.elim hq
noncomputable def Zmn (sp : Sp) (dvs : List V) (t : TA) : TEX := fun σ H Q Ex => t σ H fun vs H1 => sp (vs ++ dvs) H1 Q (fun v _ H' => ∃ ea, v = .ref ea /\ Ex ea H')
theorem ZiH (F : FnOk X.prog X.w X.K X.mg X.base (CXx X.prog X.w) k f fd ps sp) (hr : Room k X.A) (hg : Gl X x) (hm : X.mg x = some (.ref f)) (hk : PySem.W.keepIn X.K (.ref f) = true) (hb : Binds X.K fd ps ds) (hd : Vals dvs ds)
 (ha : PA X (e :: es) t) (hdb : (x == ("__debug__" : Str)) = false := by decide) (he : starEach (e :: es) X.env = (false, eval e X.env) :: starEach es X.env := by rfl) (hpl : (backTo pos (starEach es X.env)).any (·.1) = false := by rfl) :
 PEx X (.Call (.Name x p) (e :: es) [] pos) (Zmn sp dvs t) := by
 intro pins s σ H Q Ex I h
 refine wpAny_Call_Name_kw (Zbp I hg hm ?_ hdb)
 refine PySem.W.callWith_K (h₀ := X.base) I.ok.mod.kin hk (thne (ha pos pins s σ H _ I h) fun us s1 ⟨vs, H1, I1, r, q⟩ => ⟨I1.kIn, ?_⟩) he hpl
 exact Zk2 F hr hb hd I1 r q
theorem Zk3 (he : PEx X e te) (hs : swapsWith e none pos.line X.env = pure false := by rfl) : PX X (.Expr e pos) fun D σ H => te σ H (fun _ H1 => D.nx σ H1) (fun ea H1 => D.xc ea σ H1) := by
 intro pins s σ H D I h
 exact wpAny_Expr_any (wpAny_mono (he pins s σ H _ _ I h) (fun v s1 ⟨x, H1, I1, r1, q1⟩ => ⟨σ, H1, I1, q1⟩) fun _ _ z => z.xp fun _ _ q => q) I.quiet hs
theorem Zmo (hN : X.N.Nodup) (hi : X.N[i]? = some x) (hx : Loc X.env.scope x) (he : PEx X e te) (hs : swapsWith e (some (.Name x pos')) pos.line X.env = pure false := by rfl) (hf : X.fn x = true \/ X.env.scope.names.lookup x = some .local := by first | exact .inl rfl | exact .inr rfl | assumption) :
 PX X (.Assign [.Name x pos'] e pos) fun D σ H => te σ H (fun v H1 => D.nx (σ.set i (some v)) H1) (fun ea H1 => D.xc ea σ H1) := by
 intro pins s σ H D I h
 refine wpAny_Assign_Name (wpAny_mono (he pins s σ H _ _ I h) (fun v s1 ⟨y, H1, I1, r1, q1⟩ => ?_) fun _ _ z => z.xp fun _ _ q => q) hs
 exact Zbo I1 hN hi hx r1 (fun s2 I2 => ⟨_, H1, I2, q1⟩) hf
end
end L2
namespace L2
open PySem PySem.Spec PyProof.Rows
noncomputable def bmV : List Value := [.type "ValueError", .type "Exception", .type "BaseException", .type "object"]
noncomputable def Zb0 : List Value -> Bool
 | .ref _ :: l => Zb0 l
 | l => l == bmV
theorem ZcP (hv : bmV.contains v = true) : ∀ {l : List Value}, Zb0 l = true -> l.contains v = true
 | [], h => by unfold Zb0 at h; exact absurd h (by decide)
 | x :: l, h => by
  cases x with
  | ref a =>
   rw [List.contains_cons, ZcP (l := l) hv h, Bool.or_true]
  | _ => rw [beq_iff_eq.mp (show (_ :: l == bmV) = true from h)]; exact hv
theorem ZcQ (self : Value) : ∀ {l : List Value}, Zb0 l = true -> refuseLoop self (Str.ofString "__setattr__") l = pure ()
 | [], h => by unfold Zb0 at h; exact absurd h (by decide)
 | x :: l, h => by
  cases x with
  | ref a => rw [refuseLoop_ref]; exact ZcQ self (l := l) h
  | _ => rw [beq_iff_eq.mp (show (_ :: l == bmV) = true from h)]; exact F.store_ValueError.passes self
structure XC (K : Fg) (C : Addr) : Prop where
 obj : ∃ (nm q : Str) (N : Addr) (bs bm : List Value) (sn : List Str) (sub : List Value) (ab : Bool) (col : Option Bool) (dd : Option Addr) (k0 k1 k2 k3 k5 : Option Value),
  K.lookup C = some (excClassObj nm q C N bs bm true sn sub ab col dd k0 k1 k2 k3 k5 "ValueError.__new__") /\ PySem.W.tailIn K bmV bm = true /\ Zb0 bm = true
 sa : PySem.W.findIn K (.ref C) (Str.ofString "__setattr__") = some (some (.builtin "object.__setattr__"))
 ga : PySem.W.findIn K (.ref C) (Str.ofString "__getattribute__") = some (some (.builtin "BaseException.__getattribute__"))
 kp : PySem.W.keepIn K (.ref C) = true
section
variable {prog : Program} {w : World} {A : Around} {E : Value -> Shared -> Prop} {K : Fg} {C f x : Addr} {h : Heap} {g : Array GenState} {d : Drawn} {t : Nat} {os : OsState} {rest : List Value}
noncomputable abbrev ZaP (C t : Addr) : Obj := { cls := .ref C, data := .fields #[.ref t, .none, .none, .none, .bool false, .none] }
noncomputable abbrev Za9 (vs : List Value) : Obj := { cls := .type "tuple", data := .seq vs.toArray }
theorem ZhU (X : XC K C) (hK : K.In h) (hi : PySem.W.findIn K (.ref C) (Str.ofString "__init__") = some (some (.ref f))) (hf : PySem.W.typeIn K (.ref f) = some (.type "function")) (hr : rest.length <= sizeLine)
 (hq : wpAny (model prog w) (A.under (.builtin "type.__call__" ⟨.ref C :: rest, []⟩)) (call (.ref f) (.ref (h.objs.size + 1) :: rest)) (fun r s' => r = .none /\ Q (.ref (h.objs.size + 1)) s') E ⟨(h.push (Za9 rest)).push (ZaP C h.objs.size), g, d, t, os⟩) : wpAny (model prog w) A (call (.ref C) rest) Q E ⟨h, g, d, t, os⟩ := by
 obtain ⟨nm, q, N, bs, bm, sn, sub, ab, col, dd, k0, k1, k2, k3, k5, lk, tl, tv⟩ := X.obj
 have hC : h.get? C = some (excClassObj nm q C N bs bm true sn sub ab col dd k0 k1 k2 k3 k5 "ValueError.__new__") := hK _ _ lk
 have T : OwnTail h bmV bm := PySem.W.tail_of_in hK tl
 have f1 := tc_lookup
 have f2 := tc_bind (.ref C)
 have hT : Shared.TypeIs ⟨h, g, d, t, os⟩ (.ref C) "type" := ⟨_, hC, rfl⟩
 (refine wpAny_call (codeAny_of_tree ?_))
 refine wpAny_bind (wpAny_load' hC ?_)
 refine wpAny_bind (wpAny_specialOf hT f1 (wpAny_bind (wpAny_of_eq f2 (wpAny_bind (wpAny_pure (wpAny_ite_true rfl (wpAny_pure ⟨rfl, ?_⟩)))))))
 refine codeAny_call_builtin_at (Code.quiet_builtin _ (by decide +kernel)) entry_typeCall (wpAny_check_type_call_sub hC ?_)
 show wpAny _ _ (Builtin.«type.__call__» ⟨Value.ref C :: rest, []⟩) _ _ _
 (unfold Builtin.«type.__call__»)
 refine wpAny_ite_false rfl ?_
 refine wpAny_bind (wpAny_bind (wpAny_bind (wpAny_load' hC (wpAny_pure (wpAny_pure (wpAny_ite_false rfl (wpAny_bind (wpAny_madeBy_exc hC (wpAny_bind (wpAny_pure (wpAny_bind (wpAny_holding (wpAny_call ?_)))))))))))))
 have F := F.excBase_ValueError
 have hB : bmV.contains (Value.type "ValueError") = true := by decide +kernel
 refine codeAny_call_builtin_code (Code.quiet_builtin _ F.quiet) (wpAny_check_new_subU F hB T hC (codeAny_exc_new_subU F hB F T hC ?_ hr))
 have kk : ∀ b o, h.get? b = some o -> ((h.push (Za9 rest)).push (ZaP C h.objs.size)).get? b = some o := fun b o e => Heap.get?_push_of_some _ (Heap.get?_push_of_some _ e)
 have hC₁ := kk _ _ hC
 have hget : ((h.push (Za9 rest)).push (ZaP C h.objs.size)).get? (h.objs.size + 1) = some (ZaP C h.objs.size) := Heap.get?_push_at (by simp) rfl
 have J : PySem.W.InstAt ((h.push (Za9 rest)).push (ZaP C h.objs.size)) (h.objs.size + 1) (ZaP C h.objs.size) C none := ⟨hget, rfl, rfl, trivial⟩
 show wpAny _ _ _ _ _ _
 refine wpAny_bind (wpAny_bind (wpAny_bind (wpAny_loadPart_at hget (wpAny_pure (wpAny_isSubtype_exc hC₁ ?_)))))
 rw [show (Value.ref C :: bm).contains (Value.ref C) = true by simp]
 refine wpAny_ite_false rfl (wpAny_bind (wpAny_holding (PySem.W.special_fn (hK.keeps kk) J hi hf (wpAny_mono hq (fun r s' ⟨e, q⟩ => ?_) fun _ _ z => z))))
 subst e
 exact wpAny_ite_false rfl (wpAny_pure q)
theorem ZgY (X : XC K C) (hK : K.In h) (he : h.get? e = some oe) (hc : oe.cls = .ref C) (hd : oe.data = .fields vs) (hz : vs.size = 6) (hr : rest.length <= sizeLine)
 (hq : Q .none ⟨(h.push (Za9 rest)).update e (Obj.mapFields fun x => x.setIfInBounds 0 (.ref h.objs.size)), g, d, t, os⟩) :
 wpAny (model prog w) A (call (.builtin "ValueError.__init__") (.ref e :: rest)) Q E ⟨h, g, d, t, os⟩ := by
 obtain ⟨nm, q, N, bs, bm, sn, sub, ab, col, dd, k0, k1, k2, k3, k5, lk, tl, tv⟩ := X.obj
 have hC : h.get? C = some (excClassObj nm q C N bs bm true sn sub ab col dd k0 k1 k2 k3 k5 "ValueError.__new__") := hK _ _ lk
 have T : OwnTail h bmV bm := PySem.W.tail_of_in hK tl
 have F := F.excBase_ValueError
 have he' := Heap.get?_push_of_some (Za9 rest) he
 refine wpAny_call (codeAny_call_builtin F.init.plain F.initEntry (wpAny_check_init_subU F T hC he hc ?_))
 (unfold Builtin.«BaseException.__init__»)
 refine wpAny_ite_false rfl (wpAny_bind (wpAny_newTuple ?_ hr))
 refine wpAny_bind ?_
 unfold Builtin.BaseException.bexcPut
 obtain ⟨v0, h0⟩ : ∃ v0, vs[0]? = some v0 := ⟨_, Array.getElem?_eq_getElem (by omega)⟩
 refine wpAny_bind (wpAny_field he' hd h0 (wpAny_bind (wpAny_setField he' hd (by omega) ?_)))
 cases v0 <;> first
  | exact wpAny_letGo (wpAny_pure hq)
  | exact wpAny_pure (wpAny_pure hq)
theorem ZhV (hh : A.handled = none)
 (hx : wpAny M A y (fun v s₁ => ∃ (K : Fg) (C e : Addr) (oe : Obj) (vs : Array Value), XC K C /\ K.In s₁.heap /\ v = .ref e /\ s₁.heap.get? e = some oe /\ oe.cls = .ref C /\ oe.data = .fields vs /\ vs[1]? = some .none /\ E (.ref e) s₁) E s) :
 wpAny M A (raiseStmt env (some y) none) Q E s := by
 unfold raiseStmt
 refine wpAny_bind (thn hx fun v s₁ z0 => ?_)
 obtain ⟨K, C, e, oe, vs, X, hK, hv, he, hc, hd, h1, q⟩ := z0
 subst hv
 obtain ⟨nm, q', N, bs, bm, sn, sub, ab, col, dd, k0, k1, k2, k3, k5, lk, tl, tv⟩ := X.obj
 have hC := hK _ _ lk
 have hbe : (Value.ref C :: bm).contains (.type "BaseException") = true := by rw [List.contains_cons, ZcP (by decide +kernel) tv, Bool.or_true]
 (obtain ⟨hp, g, d, tk, os⟩ := s₁)
 obtain ⟨oc, odx, oda, osl⟩ := oe
 have hc : oc = .ref C := hc
 have hd : oda = .fields vs := hd
 subst hc hd
 refine wpAny_bind (wpAny_pure (wpAny_bind (wpAny_holding ?_)))
 unfold excFromValue
 refine wpAny_bind ?_
 unfold isExcClass
 refine wpAny_bind ?_
 refine wpAny_bind (wpAny_loadPart_at he (wpAny_pure (wpAny_ite_false rfl (wpAny_pure (wpAny_ite_false rfl (wpAny_bind ?_))))))
 refine wpAny_bind (wpAny_bind (wpAny_loadPart_at he (wpAny_pure (wpAny_isSubtype_exc hC ?_))))
 rw [hbe]
 refine wpAny_ite_true rfl (wpAny_pure (wpAny_bind (wpAny_bind (wpAny_loadPart_at he (wpAny_pure (wpAny_ite_false rfl (wpAny_bind ?_)))))))
 unfold raisedInstance
 refine wpAny_bind (wpAny_bind (wpAny_loadPart_at he (wpAny_pure (wpAny_bind (wpAny_bind (wpAny_loadPart_at hC (wpAny_pure ?_)))))))
 refine wpAny_ite_true rfl (wpAny_pure (wpAny_bind ?_))
 unfold setFlight
 refine wpAny_bind (wpAny_field he rfl h1 (wpAny_ite_false rfl (wpAny_pure ?_)))
 exact wpAny_raiseNew_none hh q
end
end L2
namespace L2
open PySem PySem.Spec PyProof.Rows
section
variable {prog : Program} {w : World} {A : Around} {E : Value -> Shared -> Prop} {K : Fg} {C f a : Addr} {h : Heap} {g : Array GenState} {d : Drawn} {t : Nat} {os : OsState} {rest : List Value} {oe : Obj} {od : Option Obj} {name : Str} {v : Value}
theorem Ze1 : bmV.contains (.type "BaseException") = true := by decide +kernel
theorem ZhW : bmV.contains (.type "object") = true := by decide +kernel
theorem ZiI : builtinKind "BaseException.__getattribute__" = some Manifest.AttrKind.slot := by decide +kernel
theorem ZhX : splitId "BaseException.__getattribute__" = some ("BaseException", "__getattribute__") := by decide +kernel
theorem ZeP (sub : PySem.W.Looks M s.heap (isInstance (.ref a) (.type "BaseException")) true) (hq : Q () s) : wpAny M A (checkBuiltinCall "BaseException.__getattribute__" ⟨[.ref a, nv], []⟩) Q E s :=
 (@PySem.W.check_slot M A E s "BaseException.__getattribute__" "BaseException" "__getattribute__" (.ref a) [nv] [] Q ZiI ZhX sub) (F.args_bexc_ga (.ref a) nv) hq
theorem XC.cls (X : XC K C) : ∃ cd bm, PySem.W.clsIn K C = some cd /\ cd.mro = .ref C :: bm /\ Zb0 bm = true /\ cd.hasDict = true := by
 obtain ⟨nm, q, N, bs, bm, sn, sub, ab, col, dd, k0, k1, k2, k3, k5, lk, tl, tv⟩ := X.obj
 exact ⟨_, bm, by unfold PySem.W.clsIn; rw [lk], rfl, tv, rfl⟩
theorem XC.sub (X : XC K C) (hn : bmV.contains (.type n) = true) : PySem.W.mroIn K C (.type n) = some true := by
 obtain ⟨cd, bm, h1, h2, h3, _⟩ := X.cls
 unfold PySem.W.mroIn
 rw [h1]
 show (if cd.mro.isEmpty = true then none else some (cd.mro.contains (.type n))) = _
 rw [h2, if_neg (by simp), List.contains_cons, ZcP hn h3, Bool.or_true]
theorem Zmp (X : XC K C) (hK : K.In h) (J : PySem.W.InstAt h a oe C od) (hf : PySem.W.findObj K C od name = some (.value v)) (hr : R (.ok (.ret v)) ⟨h, g, d, t, os⟩) :
 codeAny (model prog w) A (.call (.builtin "BaseException.__getattribute__") ⟨[.ref a, .str name tk], []⟩) R ⟨h, g, d, t, os⟩ := by
 have FA := F.attrBase_ValueError
 have sub : PySem.W.Looks (model prog w) h (isInstance (.ref a) (.type "BaseException")) true := PySem.W.Looks.andThen J.type (PySem.W.looks_mroIn hK (X.sub Ze1))
 refine codeAny_call_builtin FA.ga.plain F.entry_bexc_ga ?_
 refine ZeP sub ?_
 (unfold Builtin.«object.__getattribute__»)
 refine wpAny_bind (wpAny_of_eq (a := (Value.ref a, [Value.str name tk])) rfl ?_)
 refine wpAny_bind (wpAny_pure (wpAny_bind (PySem.W.Looks.at J.type (wpAny_bind (PySem.W.Looks.at (PySem.W.looks_find hK J hf) (wpAny_pure hr))))))
theorem Zmq (X : XC K C) (hK : K.In h) (J : PySem.W.InstAt h a oe C od) (ha : PySem.W.findIn K (.ref C) "__class__" = some (some (.builtin "object.__class__")))
 (hn : PySem.W.specialIn K (.builtin "object.__class__") "__get__" = some (some (.builtin "getset_descriptor.__get__"))) (htk : PySem.W.takesIn K (.builtin "object.__class__") = some true) (hr : R (.ok (.ret (.ref C))) ⟨h, g, d, t, os⟩) :
 codeAny (model prog w) A (.call (.builtin "BaseException.__getattribute__") ⟨[.ref a, .str (Str.ofString "__class__") tk], []⟩) R ⟨h, g, d, t, os⟩ := by
 have FA := F.attrBase_ValueError
 obtain ⟨cd, bm, h1, h2, h3, _⟩ := X.cls
 have hf : PySem.W.findObj K C od "__class__" = some (.bind (.builtin "getset_descriptor.__get__") (.builtin "object.__class__")) := by
  unfold PySem.W.findObj
  rw [h1, ha]
  simp only [Option.bind_some]
  rw [hn]
  simp only [Option.bind_some]
  rw [htk]
  rfl
 have sub : PySem.W.Looks (model prog w) h (isInstance (.ref a) (.type "BaseException")) true := PySem.W.Looks.andThen J.type (PySem.W.looks_mroIn hK (X.sub Ze1))
 refine codeAny_call_builtin FA.ga.plain F.entry_bexc_ga ?_
 refine ZeP sub ?_
 (unfold Builtin.«object.__getattribute__»)
 refine wpAny_bind (wpAny_of_eq (a := (Value.ref a, [Value.str (Str.ofString "__class__") tk])) rfl ?_)
 refine wpAny_bind (wpAny_pure (wpAny_bind (PySem.W.Looks.at J.type (wpAny_bind (PySem.W.Looks.at (PySem.W.looks_find hK J hf) ?_)))))
 exact wpAny_bind (wpAny_holding (wpAny_call (PySem.W.class_get hK J (X.sub ZhW) (wpAny_pure hr))))
theorem ZjL {tk : Tok} {fill expr : Bool} {Q : Value -> Shared -> Prop} (X : XC K C) (hK : K.In h) (J : PySem.W.InstAt h a oe C od) (hg : PySem.W.findIn K (.ref C) (Str.ofString "__getattr__") = some none) (hv : PySem.W.handedIn v = true)
 (hr : ∀ R : Result -> Shared -> Prop, R (.ok (.ret v)) ⟨h, g, d, t, os⟩ -> codeAny (model prog w) A (.call (.builtin "BaseException.__getattribute__") ⟨[.ref a, .str name tk], []⟩) R ⟨h, g, d, t, os⟩) (hq : Q v ⟨h, g, d, t, os⟩) :
 wpAny (model prog w) A (getAttrBy (.ref a) (.str name tk) fill expr) Q E ⟨h, g, d, t, os⟩ := by
 have FA := F.attrBase_ValueError
 (have hx0 : (expr && onTheHeap (Value.builtin "BaseException.__getattribute__")) = false := by cases expr <;> rfl)
 unfold getAttrBy
 refine wpAny_holding (wpAny_bind (PySem.W.Looks.at J.type (wpAny_bind (PySem.W.Looks.at (PySem.W.looks_findIn hK X.ga) (wpAny_ite_false (by show decide ((true && (Value.builtin "BaseException.__getattribute__" == Value.builtin "object.__getattribute__")) = true) = false; decide +kernel) ?_)))))
 unfold getAttrByItsOwn
 refine wpAny_bind (?_ : wpAny _ _ (hookBefore _) _ _ _)
 unfold hookBefore
 refine wpAny_ite_true rfl (PySem.W.Looks.at (PySem.W.looks_findIn hK hg) (wpAny_bind (wpAny_attempt (wpAny_holding ?_))))
 unfold callGetattribute
 rw [hx0]
 refine wpAny_ite_false rfl ?_
 unfold boundAndCalled
 refine wpAny_bind (wpAny_of_eq (FA.ga.bind _) (wpAny_call (hr _ ?_)))
 exact PySem.W.handed_on hv hq
theorem Zk4 {expr : Bool} {Q : Value -> Shared -> Prop} {s : Shared} (X : XC K C) (hK : K.In s.heap) (J : PySem.W.InstAt s.heap a oe C od) (hg : PySem.W.findIn K (.ref C) (Str.ofString "__getattr__") = some none) (hv : PySem.W.handedIn v = true)
 (hf : PySem.W.findObj K C od name = some (.value v)) (hq : Q v { s with toks := s.toks + 1 }) : wpAny (model prog w) A (getAttr (.ref a) name expr) Q E s := by
 obtain ⟨h, g, d, t, os⟩ := s
 unfold getAttr
 exact wpAny_bind (wpAny_mkText (ZjL X hK J hg hv (fun R hr => Zmp X hK J hf hr) hq))
theorem ZiJ {Q : Option Value -> Shared -> Prop} {s : Shared} (X : XC K C) (hK : K.In s.heap) (J : PySem.W.InstAt s.heap a oe C od) (hg : PySem.W.findIn K (.ref C) (Str.ofString "__getattr__") = some none) (ha : PySem.W.findIn K (.ref C) "__class__" = some (some (.builtin "object.__class__")))
 (hn : PySem.W.specialIn K (.builtin "object.__class__") "__get__" = some (some (.builtin "getset_descriptor.__get__"))) (htk : PySem.W.takesIn K (.builtin "object.__class__") = some true) (hq : Q (some (.ref C)) { s with toks := s.toks + 1 }) :
 wpAny (model prog w) A (getAttr? (.ref a) (Str.ofString "__class__")) Q E s := by
 obtain ⟨h, g, d, t, os⟩ := s
 unfold getAttr?
 (refine wpAny_bind (wpAny_mkText ?_))
 unfold getAttrBy?
 exact wpAny_bind (wpAny_attempt (ZjL (v := .ref C) X hK J hg rfl (fun R hr => Zmq X hK J ha hn htk hr) (wpAny_pure hq)))
structure XD (K : Fg) (C : Addr) : Prop extends XC K C where
 hk : PySem.W.findIn K (.ref C) (Str.ofString "__getattr__") = some none
 hc : PySem.W.findIn K (.ref C) "__class__" = some (some (.builtin "object.__class__"))
 hn : PySem.W.specialIn K (.builtin "object.__class__") "__get__" = some (some (.builtin "getset_descriptor.__get__"))
 ht : PySem.W.takesIn K (.builtin "object.__class__") = some true
theorem ZiK (X : XD K C) : PySem.W.KitX K (.ref a) (.ref C) fun h => PySem.W.InstAt h a oe C od where
 ty := fun M h hK J => J.type
 it := fun M h hK J => by
  obtain ⟨nm, q, N, bs, bm, sn, sub, ab, col, dd, k0, k1, k2, k3, k5, lk, tl, tv⟩ := X.obj
  exact fun A Q E s k hq => wpAny_bind (wpAny_loadPart (k _ _ (hK _ _ lk)) (wpAny_pure hq))
 ne := fun h tp dd its n sl hK e => by
  obtain ⟨nm, q, N, bs, bm, sn, sub, ab, col, dd, k0, k1, k2, k3, k5, lk, tl, tv⟩ := X.obj
  refine Bool.eq_false_iff.mpr fun z => ?_
  have := Value.ref.inj (beq_iff_eq.mp z)
  subst this
  have := congrArg (fun o => match o with | some (Obj.mk _ _ (.cls _) _) => true | _ => false) ((hK _ _ lk).symm.trans e)
  exact absurd this (by simp)
 ca := fun hK J hq => ZiJ X.toXC hK J X.hk X.hc X.hn X.ht hq
theorem osaX (X : XC K C) (hK : K.In s.heap) (J : PySem.W.InstAt s.heap a oe C od) (ht : PySem.W.takerIn K C name = some none)
 (hs : ∀ b : Bool, wpAny (model prog w) A.in1 (Builtin.ObjectAttr.storeInOwnDict (.ref a) (.ref C) (.str name tk) name v b) (fun fin s' => match fin with
  | .done f => R (.ok f) s'
  | .again c' => c'.quiet = true /\ codeAny (model prog w) A c' R s') (fun e s' => R (.error e) s') s) :
 codeAny (model prog w) A (.call (.builtin "object.__setattr__") ⟨[.ref a, .str name tk, v], []⟩) R s := by
 have SF := F.store_object
 obtain ⟨cd, bm, h1, h2, h3, _⟩ := X.cls
 have sub : PySem.W.Looks (model prog w) s.heap (isInstance (.ref a) (.type "object")) true := PySem.W.Looks.andThen J.type (PySem.W.looks_mroIn hK (X.sub ZhW))
 have hm : PySem.W.Looks (model prog w) s.heap (mroOf (.ref C)) cd.mro := PySem.W.Looks.andThen (PySem.W.looks_clsIn hK h1) PySem.W.Looks.now
 refine codeAny_call_builtin SF.slot.plain SF.entry ?_
 refine (@PySem.W.check_slot (model prog w) A.in1 _ s "object.__setattr__" "object" "__setattr__" (.ref a) [.str name tk, v] [] _ SF.kind SF.split sub) (SF.args (.ref a) (.str name tk) v) ?_
 rw [PySem.W.osa_eq, refuse_eq]
 refine wpAny_bind (wpAny_bind (PySem.W.Looks.here J.type (wpAny_bind (PySem.W.Looks.here hm ?_))))
 rw [h2, refuseLoop_ref, ZcQ _ h3]
 refine wpAny_pure (wpAny_bind (PySem.W.Looks.here J.type ?_))
 unfold PySem.W.takerIn at ht
 obtain ⟨attr, e1, e2⟩ := Option.bind_eq_some_iff.mp ht
 refine wpAny_bind (PySem.W.Looks.here (PySem.W.looks_findIn hK e1) ?_)
 have L3 : PySem.W.Looks (model prog w) s.heap (Builtin.ObjectAttr.storeTaker? attr) none := by
  cases attr with
  | none => exact PySem.W.Looks.now
  | some x =>
   obtain ⟨b, hb, hz⟩ := Option.map_eq_some_iff.mp e2
   cases b with
   | true => cases hz
   | false => exact PySem.W.Looks.andThen (PySem.W.looks_takesIn hK hb) PySem.W.Looks.now
 exact wpAny_bind (PySem.W.Looks.here L3 (hs attr.isSome))
end
end L2
namespace L2
open PySem PySem.Spec PyProof.Rows
def GX (K : Fg) (n : Str) (C : Addr) : Prop := PySem.W.nsIn K mainGlobals n = some (some (.ref C)) /\ (PySem.W.clsIn K C).map (·.name) = some n
def bmOf (K : Fg) : List Str -> List Value -> Prop
 | [], bm => bm = bmV
 | n :: ns, bm => ∃ L bm', bm = .ref L :: bm' /\ GX K n L /\ bmOf K ns bm'
noncomputable def Zdw : List Str := ["row", "number", "length", "numbers"]
structure XN (K : Fg) (ns : List Str) (C : Addr) : Prop extends XD K C where
 nms : ∃ cd, PySem.W.clsIn K C = some cd /\ bmOf K ns cd.mro
 nof : ∀ f ∈ Zdw, ZD K C f
theorem GX.ne {K : Fg} {n c : Str} {C D : Addr} (h : GX K n C) (h' : GX K c D) : (Value.ref D == Value.ref C) = decide (c = n) := by
 by_cases e : c = n
 . subst e
   have := h.1.symm.trans h'.1
   cases this
   simp
 . rw [decide_eq_false e]
   refine Bool.eq_false_iff.mpr fun z => e ?_
   have z := Value.ref.inj (beq_iff_eq.mp z)
   subst z
   have := h'.2.symm.trans h.2
   exact Option.some.inj this
theorem bmOf.has {K : Fg} {c : Str} {D : Addr} (h' : GX K c D) : ∀ {ns : List Str} {bm : List Value}, bmOf K ns bm -> bm.contains (.ref D) = decide (c ∈ ns)
 | [], bm, h => by
  rw [show bm = bmV from h]
  rfl
 | n :: ns, bm, h => by
  obtain ⟨L, bm', rfl, g, r⟩ := h
  rw [List.contains_cons, bmOf.has h' r, GX.ne g h']
  by_cases e : c = n
  . simp [e]
  . simp [e]
theorem XN.isa {K : Fg} {ns : List Str} {c : Str} {C D : Addr} (h : XN K ns C) (h' : GX K c D) (ht : PySem.W.typeIn K (.ref D) = some (.type "type")) : PySem.W.kitOne K (.ref C) (.ref D) = some (decide (c ∈ ns)) := by
 obtain ⟨cd, h1, h2⟩ := h.nms
 obtain ⟨cd', bm, q1, q2, q3, _⟩ := h.toXC.cls
 rw [h1] at q1
 cases q1
 have hm : PySem.W.mroIn K C (.ref D) = some (decide (c ∈ ns)) := by
  unfold PySem.W.mroIn
  rw [h1]
  show (if cd.mro.isEmpty = true then none else some (cd.mro.contains (.ref D))) = _
  rw [if_neg (by rw [q2]; simp), bmOf.has h' h2]
 unfold PySem.W.kitOne
 have hs : (PySem.W.clsIn K D).isSome = true := by
  cases e : PySem.W.clsIn K D with
  | none => have := h'.2; rw [e] at this; cases this
  | some x => rfl
 split
 . rename_i e
   have := Value.ref.inj (beq_iff_eq.mp e)
   subst this
   have : cd.mro.contains (.ref C) = true := by rw [q2]; simp
   rw [bmOf.has h' h2] at this
   rw [this]
 . unfold PySem.W.kitCls
   dsimp only
   rw [if_pos (by rw [hs, ht]; simp)]
   exact hm
theorem XN.isaB {K : Fg} {ns : List Str} {n : String} {C : Addr} (h : XN K ns C) (hb : bmV.contains (.type n) = true) (hm : PySem.W.kitMeta n = true) : PySem.W.kitOne K (.ref C) (.type n) = some true := by
 unfold PySem.W.kitOne
 rw [if_neg (by simp)]
 unfold PySem.W.kitCls
 dsimp only
 rw [if_pos hm]
 exact h.toXC.sub hb
section
theorem ZbM (I : Inv X pins σ H s) (e : H a = some (.exc C dx fr fs)) : ∃ (oe : Obj) (vs : Array Value) (od : Option Obj), s.heap.get? a = some oe /\ oe.cls = .ref C /\ oe.dict = dx /\ oe.data = .fields vs /\ vs.size = 6 /\ (fr = true -> vs[1]? = some .none) /\ PySem.W.InstAt s.heap a oe C od /\
 ∃ mA : Str -> Option Value, (∀ f, RelO (fs.lookup f) (mA f)) /\ PySem.Within mA (fs.map (·.1)) /\ (∀ name, (match od with | some o => PySem.W.lookIn name o | none => some none) = some (mA name)) /\
  ∀ d, dx = some d -> H d = some (.own a) /\ d ≠ a /\ s.heap.Ns1 d mA := by
 obtain ⟨l, ⟨oe, vs, e1, e2, e3, e4, e5, e6⟩, r⟩ := (show Z8 X.prog X.w H s.heap a (.exc C dx fr fs) from I.hok a _ e)
 have nc : PySem.W.notCls oe = true := by unfold PySem.W.notCls; rw [e4]
 cases dx with
 | none =>
  have r : fs = [] := r
  subst r
  exact ⟨oe, vs, none, e1, e2, e3, e4, e5, e6, ⟨e1, e2, nc, by rw [e3]; trivial⟩, fun _ => none, fun _ => trivial, fun y h => absurd rfl h, fun _ => rfl, fun d h => nomatch h⟩
 | some d =>
  obtain ⟨r1, r2, mA, r3, r4, r5⟩ := r
  obtain ⟨od, ho, hl⟩ := ZeF r3
  exact ⟨oe, vs, some od, e1, e2, e3, e4, e5, e6, ⟨e1, e2, nc, by rw [e3]; exact ho⟩, mA, r4, r5, hl, fun d' h => by cases h; exact ⟨r1, r2, r3⟩⟩
theorem Zgq (I : Inv X pins σ H s) (e : H a = some (.exc C dx fr fs)) (c : XD X.K C) (n : ZD X.K C f) (l : fs.lookup f = some v)
 (h : ∀ u s', Inv X pins σ H s' -> RelV v u -> Q u s') : wpAny (model X.prog X.w) A (getAttr (.ref a) f b) Q E s := by
 obtain ⟨oe, vs, od, e1, e2, e3, e4, e5, e6, J, mA, r1, r2, r3, r4⟩ := ZbM I e
 obtain ⟨u, hu, ru⟩ := RelO.some_of (v := v) (o := mA f) (by rw [<- l]; exact r1 f)
 refine Zk4 c.toXC I.kIn J c.hk (ZeG ru) ?_ (h u _ (I.tok _) ru)
 obtain ⟨cd, bm, h1, h2, h3, h4⟩ := c.toXC.cls
 unfold PySem.W.findObj
 rw [h1, show PySem.W.findIn X.K (.ref C) f = some none from n]
 simp only [Option.bind_some]
 have : PySem.W.ownOf cd od f = some (mA f) := by
  unfold PySem.W.ownOf
  rw [if_pos h4]
  have := r3 f
  cases od with
  | none => exact this
  | some o => exact this
 rw [this, hu]
 rfl
theorem ZgZ (I : Inv X pins σ H s) (e : H a = some (.exc C dx fr fs)) (x : XD X.K C) (k : PySem.W.kitOne X.K (.ref C) c = some b) (h : ∀ tk, Q (.bool b) { s with toks := tk }) :
 wpAny (model X.prog X.w) A (call (.builtin "isinstance") [.ref a, c]) Q E s := by
 obtain ⟨oe, vs, od, e1, e2, e3, e4, e5, e6, J, _⟩ := ZbM I e
 exact PySem.W.kia_one (ZiK x) I.kIn J k (fun z => nomatch z) h
theorem Zgr (I : Inv X pins σ H s) (e : H a = some (.exc C dx fr fs)) (c : XC X.K C) (n : ZD X.K C f) (hl : fs.length < 1000) (ry : RelV y u)
 (h : ∀ s' H' d', H' a = some (.exc C (some d') fr (putF f y fs)) -> (∀ b o, b ≠ a -> H b = some o -> H' b = some o) -> Inv X pins σ H' s' -> Q () s') : wpAny (model X.prog X.w) A (setAttr (.ref a) f u) Q E s := by
 obtain ⟨oe, vs, od, e1, e2, e3, e4, e5, e6, J, mA, r1, r2, r3, r4⟩ := ZbM I e
 have hz : (fs.map (·.1)).length <= sizeLine := by rw [List.length_map, sizeLine_eq]; omega
 obtain ⟨cd, bm, h1, h2, h3, h4⟩ := c.cls
 refine PySem.W.set_plain I.kIn J c.sa (osaX (s := { s with toks := s.toks + 1 }) c I.kIn J n.taker fun b => ?_)
 have rel : ∀ g, RelO ((putF f y fs).lookup g) (if g = f then some u else mA g) := fun g => by
  rw [Zch]
  by_cases q : g = f
  . rw [if_pos q, if_pos q]; exact ry
  . rw [if_neg q, if_neg q]; exact r1 g
 have wi : PySem.Within (fun g => if g = f then some u else mA g) ((putF f y fs).map (·.1)) := fun g hg => by
  by_cases q : g = f
  . rw [q]; exact (Zb4 f y fs).1
  . refine (Zb4 f y fs).2 g (r2 g fun z => hg ?_)
    show (if g = f then some u else mA g) = none
    rw [if_neg q]; exact z
 have le : (putF f y fs).length <= 1000 := by have := Zci f y fs; omega
 refine wpAny_bind (wpAny_pure (wpAny_bind (wpAny_bind (wpAny_loadPart e1 ?_))))
 rw [e2]
 refine wpAny_bind (PySem.W.Looks.here (s := { s with toks := s.toks + 1 }) (PySem.W.looks_clsIn I.kIn h1) ?_)
 rw [h4]
 cases dx with
 | some d =>
  obtain ⟨q1, q2, q3⟩ := r4 d rfl
  rw [e3]
  refine wpAny_pure (a := some d) (wpAny_bind (wpAny_pure (wpAny_bind ?_)))
  refine wpAny_nsSet1 (s := { s with toks := s.toks + 1 }) q3 fun h' hn2 hs2 => ?_
  obtain ⟨oD, esD, epD, hoD, hdD, hcD⟩ := hn2.count (PySem.Within.cons f u r2)
  refine wpAny_bind (wpAny_lookBehind hoD (by rw [hdD]; exact pastItsLine_dict (Nat.le_trans hcD (by rw [List.length_cons]; omega))) ?_)
  refine wpAny_pure (h _ _ d Zi (fun b o hb q => by rw [Zj hb]; exact q) (I.write (t' := s.toks + 2) (x := a) (e := d) (o := .exc C (some d) fr (putF f y fs)) (h' := h') (by rw [e]; exact True.intro) (.inr q1) (fun b q hb z => (hs2.2 b hb).trans z) ⟨oD, hoD⟩ ?_))
  exact ⟨le, ⟨oe, vs, (hs2.2 _ (Ne.symm q2)).trans e1, e2, e3, e4, e5, e6⟩, by rw [Zj q2]; exact q1, q2, _, hn2, rel, wi⟩
 | none =>
  have hfs : fs = [] := by
   have : Z8 X.prog X.w H s.heap a (.exc C none fr fs) := I.hok a _ e
   exact this.2.2
  subst hfs
  rw [e3]
  refine wpAny_ite_false rfl ?_
  rw [e4]
  refine wpAny_bind (wpAny_alloc (wpAny_bind (wpAny_update (s := { s with heap := s.heap.push PySem.W.emptyDict, toks := s.toks + 1 }) (Heap.get?_push_of_some _ e1) ?_)))
  have nd : s.heap.objs.size ≠ a := Nat.ne_of_gt (Heap.lt_size e1)
  have g1 : ((s.heap.push PySem.W.emptyDict).update a fun o => { o with dict := some s.heap.objs.size }).get? a = some { oe with dict := some s.heap.objs.size } := Heap.get?_update_self _ (Heap.get?_push_of_some _ e1) (Obj.isFreed_of_fields (vs := vs) e4)
  have g2 : ((s.heap.push PySem.W.emptyDict).update a fun o => { o with dict := some s.heap.objs.size }).get? s.heap.objs.size = some PySem.W.emptyDict := (Heap.get?_update_other _ _ (Ne.symm nd)).trans (Heap.get?_push_size _ rfl)
  have q3 : Heap.Ns1 ((s.heap.push PySem.W.emptyDict).update a fun o => { o with dict := some s.heap.objs.size }) s.heap.objs.size (fun _ => none) := ⟨_, #[], _, g2, rfl, fun e he => absurd he (by simp), by unfold UniqKeys; simp, fun _ => rfl⟩
  refine wpAny_pure (a := some s.heap.objs.size) (wpAny_bind (wpAny_pure (wpAny_bind ?_)))
  refine wpAny_nsSet1 (s := ⟨_, s.gens, s.drawn, s.toks + 1, s.os⟩) q3 fun h' hn2 hs2 => ?_
  obtain ⟨oD, esD, epD, hoD, hdD, hcD⟩ := hn2.count (PySem.Within.cons (m := fun _ => none) (ns := []) f u fun y h => absurd rfl h)
  refine wpAny_bind (wpAny_lookBehind hoD (by rw [hdD]; exact pastItsLine_dict (Nat.le_trans hcD (by rw [List.length_cons]; decide))) ?_)
  have hn : H s.heap.objs.size = none := I.hok.fresh (Nat.le_refl _)
  have g3 : h'.get? a = some { oe with dict := some s.heap.objs.size } := (hs2.2 _ (Ne.symm nd)).trans g1
  have kk : ∀ b o, b ≠ a -> s.heap.get? b = some o -> h'.get? b = some o := fun b o hb q => by
   have : b ≠ s.heap.objs.size := Nat.ne_of_lt (Heap.lt_size q)
   exact (hs2.2 b this).trans ((Heap.get?_update_other _ _ (Ne.symm hb)).trans (Heap.get?_push_of_some _ q))
  have I1 := I.laid (a := s.heap.objs.size) (o := .own a) (t' := s.toks + 1) (h' := s.heap.push PySem.W.emptyDict) (fun b u q => Heap.get?_push_of_some _ q) (Nat.le_refl _) ⟨_, Heap.get?_push_size _ rfl⟩
  have e1' : upd H s.heap.objs.size (.own a) a = some (.exc C none fr []) := by rw [Zj (Ne.symm nd)]; exact e
  have I2 := I1.write (t' := s.toks + 1) (x := a) (e := a) (o := .exc C (some s.heap.objs.size) fr []) (h' := (s.heap.push PySem.W.emptyDict).update a fun o => { o with dict := some s.heap.objs.size }) (by rw [e1']; exact True.intro) (.inl rfl)
   (fun b q hb z => (Heap.get?_update_other _ _ (Ne.symm hb)).trans z) ⟨_, g1⟩ ⟨by simp, ⟨_, vs, g1, e2, rfl, e4, e5, e6⟩, by rw [Zj nd]; exact Zi, nd, _, q3, fun _ => trivial, fun y h => absurd rfl h⟩
  have e2' : upd (upd H s.heap.objs.size (.own a)) a (.exc C (some s.heap.objs.size) fr []) s.heap.objs.size = some (.own a) := by rw [Zj nd]; exact Zi
  have I3 := I2.write (t' := s.toks + 2) (x := a) (e := s.heap.objs.size) (o := .exc C (some s.heap.objs.size) fr (putF f y [])) (h' := h') (by rw [Zi]; exact True.intro) (.inr e2')
   (fun b q hb z => (hs2.2 b hb).trans z) ⟨oD, hoD⟩ ⟨le, ⟨_, vs, g3, e2, rfl, e4, e5, e6⟩, by rw [Zj nd]; exact e2', nd, _, hn2, fun g => ?_, fun g hg => ?_⟩
  . exact wpAny_pure (h _ _ s.heap.objs.size Zi (fun b o hb q => by rw [Zj hb, Zj hb, Zj (ZV q hn)]; exact q) I3)
  . have := rel g
    have hz : mA g = none := by
     have := r1 g
     cases q : mA g with
     | none => rfl
     | some z => rw [q] at this; exact this.elim
    rw [hz] at this
    exact this
  . refine wi g fun z => hg ?_
    have z : (if g = f then some u else mA g) = none := z
    show (if g = f then some u else none) = none
    by_cases q : g = f
    . rw [if_pos q] at z; cases z
    . rw [if_neg q]
end
end L2
namespace L2
open PySem PySem.Spec PyProof.Rows
section
theorem Inv.madeX (I : Inv X pins σ H s) : Inv X pins σ (upd H (s.heap.objs.size + 1) (.exc C none true [])) { s with heap := (s.heap.push (Za9 us)).push (ZaP C s.heap.objs.size) } := by
 have I1 : Inv X pins σ H { s with heap := s.heap.push (Za9 us) } := I.kept (t' := s.toks) fun b u e => Heap.get?_push_of_some _ e
 have hget : ((s.heap.push (Za9 us)).push (ZaP C s.heap.objs.size)).get? (s.heap.objs.size + 1) = some (ZaP C s.heap.objs.size) := Heap.get?_push_at (by simp) rfl
 exact I1.laid (a := s.heap.objs.size + 1) (o := .exc C none true []) (t' := s.toks) (h' := (s.heap.push (Za9 us)).push (ZaP C s.heap.objs.size)) (fun b u e => Heap.get?_push_of_some _ e) (by simp) ⟨by simp, ⟨_, _, hget, rfl, rfl, rfl, rfl, fun _ => rfl⟩, rfl⟩
def Zo3 (C : Addr) (sp : Sp) (dvs : List V) (t : TA) : TE := fun σ H Q => t σ H fun vs H1 => vs.length <= sizeLine /\ ∀ x, H1 x = none -> sp (.ref x :: (vs ++ dvs)) (upd H1 x (.exc C none true [])) (fun v H2 => v = .non /\ Q (.ref x) H2) E0
theorem ZiL (M : XC X.K C) (hi : PySem.W.findIn X.K (.ref C) (Str.ofString "__init__") = some (some (.ref f))) (hf : PySem.W.typeIn X.K (.ref f) = some (.type "function")) (F : FnOk X.prog X.w X.K X.mg X.base CX0 k f fd ps sp) (hr : Room (k + 1) X.A)
 (hb : Binds X.K fd ps ds) (hd : Vals dvs ds) (I : Inv X pins σ H s) (r : Vals vs us) (hl : vs.length <= sizeLine) (h : ∀ x, H x = none -> sp (.ref x :: (vs ++ dvs)) (upd H x (.exc C none true [])) (fun v H2 => v = .non /\ Q (.ref x) H2) E0) :
 wpAny (model X.prog X.w) X.A (call (.ref C) us) (EP X pins σ Q) X.xe s := by
 have hq := h (s.heap.objs.size + 1) (I.hok.fresh (Nat.le_succ _))
 have I2 := Inv.madeX (C := C) (us := us) I
 have r2 : Vals (V.ref (s.heap.objs.size + 1) :: (vs ++ dvs)) (Value.ref (s.heap.objs.size + 1) :: (us ++ ds)) := .cons rfl (r.append hd)
 have hl2 : (Value.ref (s.heap.objs.size + 1) :: us ++ ds).length = ps.length := by
  have e := r2.length
  rw [F.len _ _ _ _ hq] at e
  exact e.symm
 refine ZhU (h := s.heap) (g := s.gens) (d := s.drawn) (t := s.toks) (os := s.os) M I.kIn hi hf (by rw [<- r.length]; exact hl) (wpAny_call (codeAny_mono (F.run _ X.stack _ _ ⟨Value.ref (s.heap.objs.size + 1) :: us, []⟩ (Value.ref (s.heap.objs.size + 1) :: (us ++ ds)) _ _ E0 (hr.make C us [])
  (I2.env0.make C us []) (hb _ (Value.ref (s.heap.objs.size + 1) :: us) I2.kIn hl2) r2 hq) fun r s' hq' => ?_))
 cases r with
 | error e => exact False.elim hq'
 | ok fl =>
  cases fl with
  | ret u =>
   obtain ⟨v, H', I3, rv, ev, q3⟩ := I2.after hq'
   subst ev
   exact ⟨rv, ⟨V.ref (s.heap.objs.size + 1), H', I3, rfl, q3⟩⟩
  | next => exact False.elim hq'
  | brk => exact False.elim hq'
  | cont => exact False.elim hq'
theorem Zk5 (M : XC X.K C) (hi : PySem.W.findIn X.K (.ref C) (Str.ofString "__init__") = some (some (.ref f))) (hf : PySem.W.typeIn X.K (.ref f) = some (.type "function")) (F : FnOk X.prog X.w X.K X.mg X.base CX0 k f fd ps sp) (hr : Room (k + 1) X.A) (hg : Gl X x) (hm : X.mg x = some (.ref C))
 (hb : Binds X.K fd ps ds) (hd : Vals dvs ds) (ha : PA X (e :: es) t) (hdb : (x == ("__debug__" : Str)) = false := by decide) (he : starEach (e :: es) X.env = (false, eval e X.env) :: starEach es X.env := by rfl) (hpl : (backTo pos (starEach es X.env)).any (·.1) = false := by rfl) :
 PE X (.Call (.Name x p) (e :: es) [] pos) (Zo3 C sp dvs t) := by
 intro pins s σ H Q I h
 refine wpAny_Call_Name_kw (Zbp I hg hm ?_ hdb)
 refine PySem.W.callWith_K (h₀ := X.base) I.ok.mod.kin M.kp (thn (ha pos pins s σ H _ I h) fun us s1 ⟨vs, H1, I1, r, l, q⟩ => ⟨I1.kIn, ?_⟩) he hpl
 exact ZiL M hi hf F hr hb hd I1 r l q
structure XI (K : Fg) (L : Addr) : Prop where
 sp : PySem.W.specialIn K (.ref L) (Str.ofString "__getattribute__") = some (some (.builtin "type.__getattribute__"))
 rd : PySem.W.readsIn K L (.type "type") = true
 fd : PySem.W.findCls K (.ref L) (.type "type") (Str.ofString "__init__") = some (.val (.builtin "ValueError.__init__"))
def Zmr (K : Fg) (t : TA) : TE := fun σ H Q => t σ H fun vs H1 => ∃ a v C dx fr fs, vs = [.ref a, v] /\ XC K C /\ H1 a = some (.exc C dx fr fs) /\ Q .non H1
theorem ZiM (M : XI X.K L) (hg : Gl X x) (hm : X.mg x = some (.ref L)) (ha : PA X (e :: es) t) (hdb : (x == ("__debug__" : Str)) = false := by decide)
 (hst : starEach (e :: es) X.env = (false, eval e X.env) :: starEach es X.env := by rfl) (hpl : (backTo pos (starEach es X.env)).any (·.1) = false := by rfl)
 (ht : eval (.Call (.Attribute (.Name x p) "__init__" apos) (e :: es) [] pos) X.env = (do
  let ov <- eval (.Name x p) X.env
  standAt apos.atName
  let (f, first) <- holding [ov] (getMethod ov "__init__" pl)
  callWith pos f first (backTo pos (starEach (e :: es) X.env)) (backToKw pos (keywordEach [] X.env))) := by rfl) :
 PE X (.Call (.Attribute (.Name x p) "__init__" apos) (e :: es) [] pos) (Zmr X.K t) := by
 intro pins s σ H Q I h
 refine PySem.W.methodCall_KW (pl := pl) (Zbp I hg hm ?_ hdb) ht
 refine PySem.W.method_cls I.kIn M.sp (PySem.W.cls_value I.kIn M.rd M.fd (by decide +kernel) ?_)
 refine PyProof.Rows.callWith_builtin1 (thn (ha pos pins _ σ H _ (I.tok _) h) fun us s1 z0 => ?_) hst hpl
 obtain ⟨vs, H1, I1, r1, a, v, C, dx, fr, fs, ev, M1, ea, q⟩ := z0
 subst ev
 obtain ⟨u, rfl⟩ : ∃ u, us = [.ref a, u] := by
  cases r1 with
  | cons r r1 =>
   cases r1 with
   | cons r' r1 =>
    cases r1
    exact ⟨_, by rw [show _ = Value.ref a from r]⟩
 obtain ⟨oe, ws, od, e1, e2, e3, e4, e5, e6, J, _⟩ := ZbM I1 ea
 refine ZgY (h := s1.heap) (g := s1.gens) (d := s1.drawn) (t := s1.toks) (os := s1.os) M1 I1.kIn e1 e2 e4 e5 (show 1 <= sizeLine by decide) ?_
 have I2 : Inv X pins σ H1 { s1 with heap := s1.heap.push (Za9 [u]) } := I1.kept (t' := s1.toks) fun b u e => Heap.get?_push_of_some _ e
 have I3 := I2.excSet (fr' := fr) (f := fun x => x.setIfInBounds 0 (.ref s1.heap.objs.size)) ea (Heap.get?_push_of_some _ e1) e4 (by rw [set6]; exact e5) (fun hf => by rw [Array.getElem?_setIfInBounds]; simpa using e6 hf)
 rw [Zf2 ea] at I3
 exact ⟨.non, H1, I3, rfl, q⟩
theorem ZiN (hc : X.calm = true) (he : PE X e te) : PX X (.Raise (some e) none pos) fun D σ H => te σ H fun v H1 => ∃ a C dx fs, v = .ref a /\ XC X.K C /\ H1 a = some (.exc C dx true fs) /\ ∀ H'', Same (upd H1 a (.exc C dx false fs)) H'' -> D.xc a σ H'' := by
 intro pins s σ H D I h
 rw [arm_exec_Raise]
 refine wpAny_bind (wpAny_standAt (ZhV (I.ok.hd hc) (wpAny_bind (thnx (he pins s σ H _ I h) fun u s1 ⟨v, H1, I1, r1, a, C, dx, fs, ev, M, ea, q⟩ => wpAny_bind (wpAny_standAt (wpAny_pure ?_))))))
 subst ev
 obtain rfl : u = Value.ref a := r1
 obtain ⟨oe, ws, od, e1, e2, e3, e4, e5, e6, J, mA, r2, r3, r4, r5⟩ := ZbM I1 ea
 have I2 : Inv X pins σ (upd H1 a (.exc C dx false fs)) s1 := by
  have := I1.write (t' := s1.toks) (x := a) (e := a) (o := .exc C dx false fs) (h' := s1.heap) (by rw [ea]; exact True.intro) (.inl rfl) (fun _ _ _ z => z) ⟨_, e1⟩ (by
   obtain ⟨l, ⟨o, vs', q1, q2, q3, q4, q5, q6⟩, r⟩ := (show Z8 X.prog X.w H1 s1.heap a (.exc C dx true fs) from I1.hok a _ ea)
   refine ⟨l, ⟨o, vs', q1, q2, q3, q4, q5, fun z => nomatch z⟩, ?_⟩
   cases dx with
   | none => exact r
   | some d => obtain ⟨t1, t2, t3⟩ := r; exact ⟨by rw [Zj t2]; exact t1, t2, t3⟩)
  exact this
 exact ⟨X.K, C, a, oe, ws, M, I1.kIn, rfl, e1, e2, e4, e6 rfl, .inr ⟨a, σ, _, rfl, I2, .inl ⟨C, dx, fs, oe, ws, Zi, e1, e4, e5, e6 rfl⟩, q⟩⟩
end
end L2
namespace L2
open PySem PySem.Spec PyProof.Rows
section
variable {X : Cx} {pins : List (Addr × Obj)} {σ : St} {H : Hp} {s : Shared} {A : Around} {M : Model} {E : Value -> Shared -> Prop} {i : Nat} {x : Str}
theorem Zcc {v : V} {pos : Pos} {Q : Unit -> Shared -> Prop} (I : Inv X pins σ H s) (hN : X.N.Nodup) (hi : X.N[i]? = some x) (hx : X.env.scope.names.lookup x = some .local)
 (h : ∀ s', Inv X pins (σ.set i none) H s' -> Q () s') : wpAny M A (do bindName X.env x Value.none; unbindBehindTheSuite X.env x pos) Q E s := by
 have hcls : (X.env.scope.kind == .class || (X.env.scope.kind == .module && X.env.locals != X.env.globals)) = false := by rw [I.ok.kind]; rfl
 refine wpAny_bind (wpAny_bindName (Zbo (v := V.non) I hN hi (.inl hx) rfl (fun s1 I1 => ?_) (.inr hx)))
 have hiσ : i < σ.length := by rw [I.len]; exact (List.getElem?_eq_some_iff.mp hi).1
 obtain ⟨m, hn, hl⟩ := id I1.loc
 obtain ⟨u, hu, lk⟩ := hl i x V.non hi (by rw [List.getElem?_set_self hiσ]) (.inl hx)
 have hm : m x = some u := by
  rcases lk with ⟨_, e⟩ | ⟨k, _⟩
  . exact e
  . rcases k with k | k
    . have : some NameKind.local = some NameKind.cell := hx.symm.trans k
      cases this
    . have : some NameKind.local = some NameKind.free := hx.symm.trans k
      cases this
 unfold unbindBehindTheSuite
 refine wpAny_onRaise (wpAny_unbindName_local hx hn hm hcls fun h' u' hn' hs => h _ ?_)
 have tracked : HOk X.prog X.w H h' := fun b ob e => by
  obtain ⟨oL, _, _, hoL, _⟩ := id hn
  refine (I1.hok b ob e).stay (fun c w' hc q => (hs.2 c ?_).trans q) (fun _ q => q) fun _ _ q => q
  rintro rfl
  rcases hc with rfl | hc
  . rw [I1.free] at e; cases e
  . rw [I1.free] at hc; cases hc
 refine ⟨I1.ok, I1.os, I1.bare, ⟨fun b o e n hb hx => ?_, fun b o e n hb hx => ?_, I1.base.free, fun b o e hx => ?_, I1.base.tups, I1.base.frzs, I1.base.tbls⟩, ⟨_, hn', fun j y v' e1 e2 e3 => ?_⟩, fun y c e => ?_, I1.free, I1.freeC, fun p hp => ?_, tracked, by simpa using I.len⟩
 . exact (hs.2 b (Nat.ne_of_lt (Nat.lt_of_lt_of_le (Heap.lt_size e) I1.ok.above))).trans (I1.base.keep b o e n hb hx)
 . obtain ⟨sl, e1⟩ := I1.base.slot b o e n hb hx
   exact ⟨sl, (hs.2 b (Nat.ne_of_lt (Nat.lt_of_lt_of_le (Heap.lt_size e) I1.ok.above))).trans e1⟩
 . obtain ⟨o', e1⟩ := I1.base.there b o e hx
   exact ⟨o', (hs.2 b (Nat.ne_of_lt (Nat.lt_of_lt_of_le (Heap.lt_size e) I1.ok.above))).trans e1⟩
 . by_cases hj : j = i
   . subst hj
     rw [List.getElem?_set_self hiσ] at e2
     cases e2
   . rw [List.getElem?_set_ne (Ne.symm hj)] at e2
     obtain ⟨u', r', q⟩ := hl j y v' e1 (by rw [List.getElem?_set_ne (Ne.symm hj)]; exact e2) e3
     refine ⟨u', r', ?_⟩
     rcases q with ⟨k, e⟩ | ⟨k, c, e, z⟩
     . refine .inl ⟨k, ?_⟩
       have : y ≠ x := fun e => hj (ZdM hN e1 (e ▸ hi))
       simp [this, e]
     . exact .inr ⟨k, c, e, z.sameBut hs (I1.cne y c e)⟩
 . obtain ⟨w', z⟩ := I1.cell y c e
   exact ⟨w', z.sameBut hs (I1.cne y c e)⟩
 . obtain ⟨e, n, ne, nf, d⟩ := I1.pin p hp
   exact ⟨(hs.2 p.1 ne).trans e, n, ne, nf, d⟩
theorem Zha {K : Fg} {ns : List Str} {c : Str} {C D ea : Addr} {oe : Obj} {od : Option Obj} {Q : Bool -> Shared -> Prop} (h : XN K ns C) (h' : XC K D) (g : GX K c D) (hK : K.In s.heap) (J : PySem.W.InstAt s.heap ea oe C od) (hq : Q (decide (c ∈ ns)) s) : wpAny M A (excMatches (.ref ea) (.ref D)) Q E s := by
 obtain ⟨nm, q, N, bs, bm, sn, sub, ab, col, dd, k0, k1, k2, k3, k5, lk, tl, tv⟩ := h'.obj
 have hD := hK _ _ lk
 obtain ⟨cd, h1, h2⟩ := h.nms
 obtain ⟨cd', bm', q1, q2, q3, _⟩ := h.toXC.cls
 rw [h1] at q1
 cases q1
 have hm : PySem.W.mroIn K C (.ref D) = some (decide (c ∈ ns)) := by
  unfold PySem.W.mroIn
  rw [h1]
  show (if cd.mro.isEmpty = true then none else some (cd.mro.contains (.ref D))) = _
  rw [if_neg (by rw [q2]; simp), bmOf.has g h2]
 (obtain ⟨hp, gg, d, tk, os⟩ := s)
 unfold excMatches
 refine wpAny_bind (wpAny_bind (wpAny_bind (wpAny_loadPart_at hD (wpAny_pure (wpAny_of_eq tc_notTuple ?_)))))
 refine wpAny_ite_false rfl (wpAny_bind (wpAny_pure (wpAny_bind ?_)))
 (simp only [List.forIn_cons, List.forIn_nil])
 (refine wpAny_bind (wpAny_bind ?_))
 unfold isExcClass
 refine wpAny_bind (wpAny_bind (wpAny_loadPart_at hD (wpAny_pure (wpAny_ite_true rfl (PySem.W.Looks.at (PySem.W.looks_mroIn hK (h'.sub Ze1)) ?_)))))
 refine wpAny_ite_false rfl (wpAny_pure (wpAny_pure (wpAny_bind (PySem.W.Looks.at J.type (wpAny_bind (wpAny_bind (wpAny_bind (PySem.W.Looks.at (PySem.W.looks_mroIn hK hm) ?_))))))))
 cases e : decide (c ∈ ns) with
 | true => rw [e] at hq; exact wpAny_ite_true rfl (wpAny_pure (wpAny_pure (wpAny_pure hq)))
 | false => rw [e] at hq; exact wpAny_ite_false rfl (wpAny_pure (wpAny_pure (wpAny_pure hq)))
noncomputable abbrev Cx.inH (X : Cx) (v : Value) : Cx := { X with A := X.A.mark (some v), calm := false, xe := fun _ _ => False }
theorem Inv.inH (I : Inv X pins σ H s) (v : Value) : Inv (X.inH v) pins σ H s := ⟨⟨I.ok.mod, I.ok.kind, I.ok.glob, I.ok.blt, I.ok.above, I.ok.inj, I.ok.has, I.ok.cab, (fun z => Bool.noConfusion z), I.ok.frames, I.ok.stk, I.ok.exf, I.ok.bs, I.ok.bsz, I.ok.noex, I.ok.exfs, I.ok.funs, I.ok.frf⟩, I.os, I.bare, I.base, I.loc, I.cell, I.free, I.freeC, I.pin, I.hok, I.len⟩
theorem Inv.outH {v : Value} (I : Inv (X.inH v) pins σ H s) (hh : X.calm = true -> X.A.handled = none) : Inv X pins σ H s := ⟨⟨I.ok.mod, I.ok.kind, I.ok.glob, I.ok.blt, I.ok.above, I.ok.inj, I.ok.has, I.ok.cab, hh, I.ok.frames, I.ok.stk, I.ok.exf, I.ok.bs, I.ok.bsz, I.ok.noex, I.ok.exfs, I.ok.funs, I.ok.frf⟩, I.os, I.bare, I.base, I.loc, I.cell, I.free, I.freeC, I.pin, I.hok, I.len⟩
structure HS where
 c : Str
 nm : Option Nat
 ts : TS
noncomputable def HS.ends (h : HS) (D : Ends) : Ends := match h.nm with
 | none => D
 | some i => { nx := fun σ H => D.nx (σ.set i none) H, rt := D.rt, bk := fun σ H => D.bk (σ.set i none) H, ct := fun σ H => D.ct (σ.set i none) H }
noncomputable def HS.put (h : HS) (ea : Addr) (σ : St) : St := match h.nm with
 | none => σ
 | some i => σ.set i (some (.ref ea))
inductive PH (X : Cx) : ExceptHandler -> HS -> Prop
 | plain {c : Str} {D : Addr} {b₀ : Stmt} {body : List Stmt} {pos np : Pos} {ts : TS} (hg : Gl X c) (hm : X.mg c = some (.ref D)) (xc : XC X.K D) (gx : GX X.K c D) (hdb : (c == ("__debug__" : Str)) = false) (hs : ∀ v, PSs (X.inH v) (b₀ :: body) ts) :
  PH X (.ExceptHandler (some (.Name c np)) none (b₀ :: body) pos) ⟨c, none, ts⟩
 | as_ {c n : Str} {D : Addr} {i : Nat} {b₀ : Stmt} {body : List Stmt} {pos np : Pos} {ts : TS} (hg : Gl X c) (hm : X.mg c = some (.ref D)) (xc : XC X.K D) (gx : GX X.K c D) (hdb : (c == ("__debug__" : Str)) = false) (hN : X.N.Nodup) (hi : X.N[i]? = some n) (hl : X.env.scope.names.lookup n = some .local) (hs : ∀ v, PSs (X.inH v) (b₀ :: body) ts) :
  PH X (.ExceptHandler (some (.Name c np)) (some n) (b₀ :: body) pos) ⟨c, some i, ts⟩
inductive PHs (X : Cx) : List ExceptHandler -> List HS -> Prop
 | nil : PHs X [] []
 | cons {h : ExceptHandler} {hs : List ExceptHandler} {g : HS} {gs : List HS} : PH X h g -> PHs X hs gs -> PHs X (h :: hs) (g :: gs)
def Zcd (ns : List Str) (D : Ends) (ea : Addr) (σ : St) (H : Hp) : List HS -> Prop
 | [] => False
 | h :: hs => if h.c ∈ ns then h.ts (h.ends D) (h.put ea σ) H else Zcd ns D ea σ H hs
theorem SP.inH {v : Value} {D : Ends} {f : Flow} {s' : Shared} (hh : X.calm = true -> X.A.handled = none) (h : SP (X.inH v) pins D f s') : SP X pins D f s' := by
 cases f with
 | next => obtain ⟨σ', H', I, q⟩ := h; exact ⟨σ', H', I.outH hh, q⟩
 | brk => obtain ⟨σ', H', I, q⟩ := h; exact ⟨σ', H', I.outH hh, q⟩
 | cont => obtain ⟨σ', H', I, q⟩ := h; exact ⟨σ', H', I.outH hh, q⟩
 | ret u => obtain ⟨v, σ', H', I, r, q⟩ := h; exact ⟨v, σ', H', I.outH hh, r, q⟩
theorem ZeQ {ns : List Str} {C ea : Addr} {dx : Option Addr} {fs : List (Str × V)} {c : Str} {D' : Addr} {np pos : Pos} {R : Result -> Shared -> Prop} (XNh : XN X.K ns C) (I : Inv X pins σ H s) (e : H ea = some (.exc C dx false fs)) (hg : Gl X c) (hm : X.mg c = some (.ref D')) (xc : XC X.K D') (gx : GX X.K c D') (hdb : (c == ("__debug__" : Str)) = false)
 (hR : R (.ok (if decide (c ∈ ns) = true then Flow.brk else Flow.next)) s) : codeAny (model X.prog X.w) (X.A.mark (some (.ref ea))) (.handlers (.ref ea) [.ExceptHandler (some (.Name c np)) none [] pos] X.env) R s := by
 obtain ⟨oe, vs, od, e1, e2, e3, e4, e5, e6, J, _⟩ := ZbM I e
 exact codeAny_handlers_test (Calls.Name_function_global I.ok.kind hg (Calls.loadGlobal_global (by rw [I.ok.glob]; exact I.mod.glob.keeps I.bk) hm (Zha XNh xc gx I.kIn J hR)) hdb)
theorem ZcH {a : Addr} : Value.ref a ≠ byPass := fun z => by cases z
theorem Zhb {ns : List Str} {C ea : Addr} {dx : Option Addr} {fs : List (Str × V)} {D : Ends} {c : Str} {D' : Addr} {b₀ : Stmt} {body : List Stmt} {pos np : Pos} {ts : TS} {rest : List ExceptHandler} (XNh : XN X.K ns C) (I : Inv X pins σ H s) (e : H ea = some (.exc C dx false fs)) (f : FlyT (fun fl => fl = Value.none) H s.heap ea)
 (hg : Gl X c) (hm : X.mg c = some (.ref D')) (xc : XC X.K D') (gx : GX X.K c D') (hdb : (c == ("__debug__" : Str)) = false) (hs : ∀ v, PSs (X.inH v) (b₀ :: body) ts) (h1 : c ∈ ns -> ts D σ H) (h2 : c ∉ ns -> wpAny (model X.prog X.w) X.A (handleBy (.ref ea) X.env rest) (SP X pins D) E s) :
 wpAny (model X.prog X.w) X.A (handleBy (.ref ea) X.env (.ExceptHandler (some (.Name c np)) none (b₀ :: body) pos :: rest)) (SP X pins D) E s := by
 refine wpAny_handleBy_cons (ZeQ XNh I e hg hm xc gx hdb ?_) ZcH
 by_cases z : c ∈ ns
 . rw [decide_eq_true z, if_pos rfl]
   refine codeAny_handlers_suite (thn (Zb6 (o := none) I f) fun _ s1 z0 => ?_)
   obtain ⟨I1, f1⟩ := z0
   exact wpAny_mono (hs (.ref ea) pins s1 σ H D (I1.inH _) (h1 z)) (fun fl s2 q => q.inH I.ok.hd) fun _ _ z => z.elim
 . rw [decide_eq_false z, if_neg Bool.false_ne_true]
   exact h2 z
theorem Zk6 {ns : List Str} {C ea : Addr} {dx : Option Addr} {fs : List (Str × V)} {D : Ends} {c n : Str} {D' : Addr} {b₀ : Stmt} {body : List Stmt} {pos np : Pos} {ts : TS} {rest : List ExceptHandler} (XNh : XN X.K ns C) (I : Inv X pins σ H s) (e : H ea = some (.exc C dx false fs)) (f : FlyT (fun fl => fl = Value.none) H s.heap ea)
 (hg : Gl X c) (hm : X.mg c = some (.ref D')) (xc : XC X.K D') (gx : GX X.K c D') (hdb : (c == ("__debug__" : Str)) = false) (hN : X.N.Nodup) (hi : X.N[i]? = some n) (hl : X.env.scope.names.lookup n = some .local) (hs : ∀ v, PSs (X.inH v) (b₀ :: body) ts)
 (h1 : c ∈ ns -> ts { nx := fun σ H => D.nx (σ.set i none) H, rt := D.rt, bk := fun σ H => D.bk (σ.set i none) H, ct := fun σ H => D.ct (σ.set i none) H } (σ.set i (some (.ref ea))) H) (h2 : c ∉ ns -> wpAny (model X.prog X.w) X.A (handleBy (.ref ea) X.env rest) (SP X pins D) E s) :
 wpAny (model X.prog X.w) X.A (handleBy (.ref ea) X.env (.ExceptHandler (some (.Name c np)) (some n) (b₀ :: body) pos :: rest)) (SP X pins D) E s := by
 refine wpAny_handleBy_cons (ZeQ XNh I e hg hm xc gx hdb ?_) ZcH
 by_cases z : c ∈ ns
 . rw [decide_eq_true z, if_pos rfl]
   refine codeAny_handlers_suite_as (thn (Zb6 (o := none) I f) fun _ s1 z0 => ?_)
   obtain ⟨I1, f1⟩ := z0
   refine Zbo (v := .ref ea) I1 hN hi (.inl hl) rfl (fun s2 I2 => ?_) (.inr hl)
   refine wpAny_mono (hs (.ref ea) pins s2 _ H _ (I2.inH _) (h1 z)) (fun fl s3 q => ?_) fun _ _ z => z.elim
   cases fl with
   | next => obtain ⟨σ', H', I3, q⟩ := q; exact Zcc (v := .non) (I3.outH I.ok.hd) hN hi hl fun s4 I4 => ⟨_, _, I4, q⟩
   | brk => obtain ⟨σ', H', I3, q⟩ := q; exact Zcc (v := .non) (I3.outH I.ok.hd) hN hi hl fun s4 I4 => ⟨_, _, I4, q⟩
   | cont => obtain ⟨σ', H', I3, q⟩ := q; exact Zcc (v := .non) (I3.outH I.ok.hd) hN hi hl fun s4 I4 => ⟨_, _, I4, q⟩
   | ret u => obtain ⟨v, σ', H', I3, r, q⟩ := q; exact Zcc (v := .non) (I3.outH I.ok.hd) hN hi hl fun s4 I4 => ⟨v, _, _, I4, r, q⟩
 . rw [decide_eq_false z, if_neg Bool.false_ne_true]
   exact h2 z
theorem Zk7 {ns : List Str} {C ea : Addr} {dx : Option Addr} {fs : List (Str × V)} {D : Ends} (XNh : XN X.K ns C) {hs : List ExceptHandler} {gs : List HS} (hh : PHs X hs gs) (I : Inv X pins σ H s) (e : H ea = some (.exc C dx false fs)) (f : FlyT (fun fl => fl = Value.none) H s.heap ea) (h : Zcd ns D ea σ H gs) :
 wpAny (model X.prog X.w) X.A (handleBy (.ref ea) X.env hs) (SP X pins D) E s := by
 induction hh with
 | nil => exact h.elim
 | cons p ps ih =>
  cases p with
  | plain hg hm xc gx hdb hs' =>
   refine Zhb XNh I e f hg hm xc gx hdb hs' (fun z => ?_) fun z => ih ?_
   . unfold Zcd at h; rw [if_pos z] at h; exact h
   . unfold Zcd at h; rw [if_neg z] at h; exact h
  | as_ hg hm xc gx hdb hN hi hl hs' =>
   refine Zk6 XNh I e f hg hm xc gx hdb hN hi hl hs' (fun z => ?_) fun z => ih ?_
   . unfold Zcd at h; rw [if_pos z] at h; exact h
   . unfold Zcd at h; rw [if_neg z] at h; exact h
def tTry (K : Fg) (tb : TX) (gs : List HS) : TX := fun D σ H => tb { D with xc := fun ea σ' H' => ∃ C dx fs ns, XN K ns C /\ H' ea = some (.exc C dx false fs) /\ Zcd ns D.toEnds ea σ' H' gs } σ H
theorem Zms {body : List Stmt} {h₀ : ExceptHandler} {hs : List ExceptHandler} {gs : List HS} {tb : TX} {pos : Pos} (F : Fr0 X X.A) (hx : ∀ e s, ¬ X.xe e s) (hb : PXs X body tb) (hh : PHs X (h₀ :: hs) gs) : PX X (.Try body (h₀ :: hs) [] [] pos) (tTry X.K tb gs) := by
 intro pins s σ H D I h
 refine wpAny_Try_except (wpAny_mono (hb pins s σ H _ I h) (fun fl s1 q => ?_) fun e s1 q => ?_)
 . cases fl with
   | next => exact wpAny_execs_nil q
   | ret v => exact q
   | brk => exact q
   | cont => exact q
 . rcases q with q | ⟨ea, σ', H', rfl, I1, f1, q⟩
   . exact absurd q (hx _ _)
   . refine thn (Ze0 F I1 f1) fun _ s2 ⟨H2, I2, k2, f2⟩ => thn (Zb6 (o := none) I2 f2) fun _ s3 ⟨I3, f3⟩ => ?_
     obtain ⟨C, dx, fs, ns, xn, e, th⟩ := q H2 k2
     exact Zk7 xn hh I3 e f3 th
end
end L2
namespace L2
open PySem PySem.Spec PyProof.Rows
section
theorem ZhY (M : Mk X.K C f) (F : FnOk X.prog X.w X.K X.mg X.base (CXx X.prog X.w) k f fd ps sp) (hr : Room (k + 1) X.A) (hb : Binds X.K fd ps ds) (hd : Vals dvs ds)
 (I : Inv X pins σ H s) (r : Vals vs us)
 (h : ∀ x dx, H x = none -> H dx = none -> dx ≠ x -> sp (.ref x :: (vs ++ dvs)) (upd (upd H dx (.own x)) x (.ins C dx [])) (fun v H2 => v = .non /\ Q (.ref x) H2) (fun v _ H' => ∃ ea, v = .ref ea /\ Ex ea H')) :
 wpAny (model X.prog X.w) X.A (call (.ref C) us) (EP X pins σ Q) (EXP X pins σ Ex) s := by
 have hq := h (s.heap.objs.size + 1) s.heap.objs.size (I.hok.fresh (Nat.le_succ _)) (I.hok.fresh (Nat.le_refl _)) (Nat.ne_of_lt (Nat.lt_succ_self _))
 have I2 := Inv.made (C := C) I
 have r2 : Vals (V.ref (s.heap.objs.size + 1) :: (vs ++ dvs)) (Value.ref (s.heap.objs.size + 1) :: (us ++ ds)) := .cons rfl (r.append hd)
 have hl : (Value.ref (s.heap.objs.size + 1) :: us ++ ds).length = ps.length := by
  have e := r2.length
  rw [F.len _ _ _ _ hq] at e
  exact e.symm
 refine wpAny_call (Zft (f := f) I.kIn M.makes M.init (beq_iff_eq.mp M.fn) (codeAny_mono (F.run _ X.stack _ _ ⟨Value.ref (s.heap.objs.size + 1) :: us, []⟩ (Value.ref (s.heap.objs.size + 1) :: (us ++ ds)) _ _ _ (hr.make C us [])
  (I2.env0.make C us []) (hb _ (Value.ref (s.heap.objs.size + 1) :: us) I2.kIn hl) r2 hq) fun r s' hq' => ?_))
 cases r with
 | error e =>
  obtain ⟨ea, H', rfl, os, bare, un, hok, fl, q⟩ := hq'
  refine .inr ⟨ea, H', rfl, I2.call' (ch := []) os un hok bare fun b z => absurd z (by simp), .inr (fl.mono fun v z => .inl z), fun H'' z => ?_⟩
  obtain ⟨ea', e, q⟩ := q H'' z
  cases e
  exact q
 | ok fl =>
  cases fl with
  | ret u =>
   obtain ⟨v, H', I3, rv, ev, q3⟩ := I2.after hq'
   subst ev
   exact ⟨rv, ⟨V.ref (s.heap.objs.size + 1), H', I3, rfl, q3⟩⟩
  | next => exact False.elim hq'
  | brk => exact False.elim hq'
  | cont => exact False.elim hq'
noncomputable def Zmt (C : Addr) (sp : Sp) (dvs : List V) (t : TA) : TEX := fun σ H Q Ex => t σ H fun vs H1 => ∀ x dx, H1 x = none -> H1 dx = none -> dx ≠ x ->
 sp (.ref x :: (vs ++ dvs)) (upd (upd H1 dx (.own x)) x (.ins C dx [])) (fun v H2 => v = .non /\ Q (.ref x) H2) (fun v _ H' => ∃ ea, v = .ref ea /\ Ex ea H')
theorem ZiO (M : Mk X.K C f) (F : FnOk X.prog X.w X.K X.mg X.base (CXx X.prog X.w) k f fd ps sp) (hr : Room (k + 1) X.A) (hg : Gl X x) (hm : X.mg x = some (.ref C)) (hb : Binds X.K fd ps ds) (hd : Vals dvs ds)
 (ha : PA X (e :: es) t) (hdb : (x == ("__debug__" : Str)) = false := by decide) (he : starEach (e :: es) X.env = (false, eval e X.env) :: starEach es X.env := by rfl) (hpl : (backTo pos (starEach es X.env)).any (·.1) = false := by rfl) :
 PEx X (.Call (.Name x p) (e :: es) [] pos) (Zmt C sp dvs t) := by
 intro pins s σ H Q Ex I h
 refine wpAny_Call_Name_kw (Zbp I hg hm ?_ hdb)
 refine PySem.W.callWith_K (h₀ := X.base) I.ok.mod.kin M.kp (thne (ha pos pins s σ H _ I h) fun us s1 ⟨vs, H1, I1, r, q⟩ => ⟨I1.kIn, ?_⟩) he hpl
 exact ZhY M F hr hb hd I1 r q
end
end L2
namespace L2
open PySem PySem.Spec PyProof.Rows
noncomputable def cxC (X : Cx) (N' : List Str) (scope : Scope) (cl : List (Str × Addr)) (C : Addr) (s₀ : Shared) (H₀ : Hp) (ex : List Addr) : Cx where
 prog := X.prog
 w := X.w
 K := X.K
 mg := X.mg
 base := X.base
 A := X.A
 N := N'
 s₀ := s₀
 H₀ := H₀
 env := compEnvC scope cl C X.env
 outer := X.stack
 stack := X.stack
 ex := ex
 fn := fun _ => false
 calm := X.calm
 pn := []
 xe := fun _ _ => False
theorem ZdW (h : ∀ y ∈ scope.names, y.2 = .free -> ∃ c, env.cells.lookup y.1 = some c) :
 ∃ cl, closureFor scope env = pure cl /\ (∀ y c, cl.lookup y = some c -> env.cells.lookup y = some c) /\ ∀ y ∈ scope.names, y.2 = .free -> ∃ c, cl.lookup y.1 = some c := by
 have go : ∀ (names : List (Str × NameKind)) (acc : List (Str × Addr)), (∀ y ∈ names, y.2 = .free -> ∃ c, env.cells.lookup y.1 = some c) -> (∀ y c, acc.lookup y = some c -> env.cells.lookup y = some c) ->
  ∃ cl, (forIn names acc fun x r => if (x.2 == NameKind.free) = true then do let c <- cellOf env x.1; pure (ForInStep.yield ((x.1, c) :: r)) else pure (ForInStep.yield r) : Sem _) = pure cl /\
   (∀ y c, cl.lookup y = some c -> env.cells.lookup y = some c) /\ (∀ y c, acc.lookup y = some c -> ∃ c, cl.lookup y = some c) /\ ∀ y ∈ names, y.2 = .free -> ∃ c, cl.lookup y.1 = some c := by
  intro names
  induction names with
  | nil => intro acc _ h2; exact ⟨acc, rfl, h2, fun y c e => ⟨c, e⟩, fun y hy => nomatch hy⟩
  | cons z r ih =>
   intro acc h1 h2
   obtain ⟨n, k⟩ := z
   rw [List.forIn_cons]
   by_cases hk : k = .free
   . subst hk
     obtain ⟨c, hc⟩ := h1 (n, .free) List.mem_cons_self rfl
     obtain ⟨cl, e, a1, a2, a3⟩ := ih ((n, c) :: acc) (fun y hy => h1 y (List.mem_cons_of_mem _ hy)) (fun y d hd => by
      rw [List.lookup_cons] at hd
      cases hb : y == n with
      | true => rw [hb] at hd; simp only at hd; cases hd; rw [eq_of_beq hb]; exact hc
      | false => rw [hb] at hd; exact h2 y d hd)
     refine ⟨cl, ?_, a1, fun y d hd => ?_, fun y hy hf => ?_⟩
     . rw [<- e]
       have e1 : cellOf env n = pure c := by
        unfold cellOf
        rw [hc]
       simp only [beq_self_eq_true, if_true, e1, pure_bind]
     . by_cases hyn : y = n
       . exact a2 y c (by rw [hyn, List.lookup_cons, beq_self_eq_true])
       . exact a2 y d (by rw [List.lookup_cons, show (y == n) = false by simpa using hyn]; exact hd)
     . (rcases List.mem_cons.mp hy with rfl | hy)
       . exact a2 n c (by rw [List.lookup_cons, beq_self_eq_true])
       . exact a3 y hy hf
   . have hb : (k == NameKind.free) = false := by simpa using hk
     obtain ⟨cl, e, a1, a2, a3⟩ := ih acc (fun y hy => h1 y (List.mem_cons_of_mem _ hy)) h2
     refine ⟨cl, ?_, a1, a2, fun y hy hf => ?_⟩
     . rw [<- e]
       simp only [hb, Bool.false_eq_true, if_false, pure_bind]
     . (rcases List.mem_cons.mp hy with rfl | hy)
       . exact absurd hf hk
       . exact a3 y hy hf
 obtain ⟨cl, e, a1, _, a3⟩ := go scope.names [] h (fun y c e => nomatch e)
 refine ⟨cl, ?_, a1, a3⟩
 unfold closureFor
 simp only [] at e ⊢
 rw [e]
 rfl
theorem ZcR {env : Env} : ∀ {names : List (Str × NameKind)} {x : Str}, names.lookup x = some .free ->
 (names.map fun (n, k) => if (k == NameKind.free && env.scope.kind == .function && env.kindOf n == some .cell) then (n, NameKind.cell) else (n, k)).lookup x = some .cell \/
 (names.map fun (n, k) => if (k == NameKind.free && env.scope.kind == .function && env.kindOf n == some .cell) then (n, NameKind.cell) else (n, k)).lookup x = some .free
 | [], _, h => by simp at h
 | (n, k) :: r, x, h => by
  have ih := @ZcR env r x
  show List.lookup x ((if (k == NameKind.free && env.scope.kind == .function && env.kindOf n == some .cell) = true then (n, NameKind.cell) else (n, k)) :: _) = _ \/ List.lookup x ((if (k == NameKind.free && env.scope.kind == .function && env.kindOf n == some .cell) = true then (n, NameKind.cell) else (n, k)) :: _) = _
  cases hx : x == n with
  | true =>
   (simp only [List.lookup_cons, hx] at h)
   cases h
   by_cases hc : (NameKind.free == NameKind.free && env.scope.kind == .function && env.kindOf n == some .cell) = true
   . rw [if_pos hc]; left; simp only [List.lookup_cons, hx]
   . rw [if_neg hc]; right; simp only [List.lookup_cons, hx]
  | false =>
   (simp only [List.lookup_cons, hx] at h)
   (by_cases hc : (k == NameKind.free && env.scope.kind == .function && env.kindOf n == some .cell) = true)
   . (rw [if_pos hc]; simp only [List.lookup_cons, hx]; exact ih h)
   . (rw [if_neg hc]; simp only [List.lookup_cons, hx]; exact ih h)
noncomputable def Zf4 (osc : Scope) (oN : List Str) (k : Nat) (js : List Nat) (N' : List Str) (scope : Scope) : Bool :=
 scope.kind == .function && scope.names.all (fun y => y.2 != .cell) && scope.names.all (fun y => y.2 != .local || scope.names.lookup y.1 == some .local) &&
 scope.names.all (fun y => y.2 != .free || osc.names.lookup y.1 == some .cell || osc.names.lookup y.1 == some .free) &&
 N'.length == k + js.length && decide N'.Nodup &&
 (List.range js.length).all fun i => match js[i]? with
  | none => false
  | some j => match oN[j]? with
   | none => false
   | some y => N'[k + i]? == some y && scope.names.lookup y == some .free
structure CompScope (X : Cx) (k : Nat) (js : List Nat) (N' : List Str) (scope : Scope) : Prop where
 kind : scope.kind = .function
 nocell : ∀ y ∈ scope.names, y.2 ≠ .cell
 names : ∀ y ∈ scope.names, y.2 = .local -> scope.names.lookup y.1 = some .local
 free : ∀ y ∈ scope.names, y.2 = .free -> X.env.kindOf y.1 = some .cell \/ X.env.kindOf y.1 = some .free
 len : N'.length = k + js.length
 nd : N'.Nodup
 idx : ∀ i j : Nat, js[i]? = some j -> ∃ y, X.N[j]? = some y /\ N'[k + i]? = some y /\ scope.names.lookup y = some .free
theorem CompScope.of (h : Zf4 osc oN k js N' scope = true) (e : X.env.scope = osc) (eN : X.N = oN) : CompScope X k js N' scope := by
 subst e eN
 unfold Zf4 at h
 (simp only [Bool.and_eq_true] at h)
 obtain ⟨⟨⟨⟨⟨⟨h1, h2⟩, h3⟩, h4⟩, h5⟩, h6⟩, h7⟩ := h
 refine ⟨eq_of_beq h1, fun y hy => by simpa using List.all_eq_true.mp h2 y hy, fun y hy hl => ?_, fun y hy hf => ?_, eq_of_beq h5, of_decide_eq_true h6, fun i j hj => ?_⟩
 . have q := List.all_eq_true.mp h3 y hy
   rw [hl] at q
   simpa using q
 . have q := List.all_eq_true.mp h4 y hy
   rw [hf] at q
   simp at q
   exact q
 . have hi : i < js.length := (List.getElem?_eq_some_iff.mp hj).1
   have q := List.all_eq_true.mp h7 i (List.mem_range.mpr hi)
   rw [hj] at q
   simp only at q
   cases hN : X.N[j]? with
   | none => rw [hN] at q; cases q
   | some y =>
    rw [hN] at q
    simp only [Bool.and_eq_true] at q
    exact ⟨y, rfl, eq_of_beq q.1, eq_of_beq q.2⟩
noncomputable def Zba (js : List Nat) (σ : St) : St := js.map fun j => (σ[j]?).join
noncomputable def ZaQ (k : Nat) (js : List Nat) (σ : St) : St := List.replicate k none ++ Zba js σ
section
variable {X : Cx}
theorem ZiP
 (I : Inv X pins σ H s) (S : CompScope X k js N' scope) (hf : ∀ b ∈ fp, FpOk X pins H b) (hfo : ∀ b ∈ fp, b < s.heap.objs.size)
 (c1 : ∀ y c, cl.lookup y = some c -> X.env.cells.lookup y = some c) (c2 : ∀ y ∈ scope.names, y.2 = .free -> ∃ c, cl.lookup y.1 = some c)
 (ns : ∃ m, h1.Ns (s.heap.objs.size + 1) m) (kp : ∀ b o, s.heap.get? b = some o -> h1.get? b = some o) (hD : h1.get? s.heap.objs.size = some { cls := .type "list", data := .seq #[] }) :
 Inv (cxC X N' scope cl (s.heap.objs.size + 1) s H fp) [] (ZaQ k js σ) (upd H s.heap.objs.size (.lst [])) { s with heap := h1, toks := tk } := by
 have hfr : H s.heap.objs.size = none := I.hok.fresh (Nat.le_refl _)
 have hfr1 : H (s.heap.objs.size + 1) = none := I.hok.fresh (Nat.le_succ _)
 have cells : ∀ y c, cl.lookup y = some c -> c < s.heap.objs.size := fun y c e => by
  obtain ⟨v, q⟩ := I.cell y c (c1 y c e)
  exact q.lt
 have exb : ∀ b ∈ fp, ∀ o, X.base.get? b = some o -> False := fun b hb o e => by
  rcases (hf b hb).2.2.2.1 with z | z
  . exact I.ok.noex b o e z
  . exact absurd (Nat.lt_of_lt_of_le (Heap.lt_size (I.ok.bs b o e).1) z) (Nat.lt_irrefl _)
 have exs : ∀ b ∈ fp, b ∉ frs X.stack := fun b hb z => by
  rcases List.mem_cons.mp (I.stkSub b z) with q | q
  . exact (hf b hb).2.1 q
  . exact (hf b hb).2.2.1 q
 obtain ⟨m1, hn1⟩ := ns
 have upk : ∀ y, scope.names.lookup y = some .free -> ((cxC X N' scope cl (s.heap.objs.size + 1) s H fp).env.kindOf y = some .cell \/ (cxC X N' scope cl (s.heap.objs.size + 1) s H fp).env.kindOf y = some .free) := fun y hy => ZcR hy
 have memf : ∀ y, scope.names.lookup y = some .free -> ∃ c, cl.lookup y = some c := fun y hy => c2 (y, .free) (PySem.mem_of_lookup hy) rfl
 have back : ∀ y, ((cxC X N' scope cl (s.heap.objs.size + 1) s H fp).env.kindOf y = some .cell \/ (cxC X N' scope cl (s.heap.objs.size + 1) s H fp).env.kindOf y = some .free) -> scope.names.lookup y = some .free := by
  intro y hy
  have key : ∀ names : List (Str × NameKind), (∀ z ∈ names, z.2 ≠ .cell) ->
   ((names.map fun (n, k) => if (k == NameKind.free && X.env.scope.kind == .function && X.env.kindOf n == some .cell) then (n, NameKind.cell) else (n, k)).lookup y = some .cell \/
   (names.map fun (n, k) => if (k == NameKind.free && X.env.scope.kind == .function && X.env.kindOf n == some .cell) then (n, NameKind.cell) else (n, k)).lookup y = some .free) -> names.lookup y = some .free := by
   intro names
   induction names with
   | nil => intro _ h; simp at h
   | cons z r ih =>
    intro hz h
    obtain ⟨n, kd⟩ := z
    have ih' := ih fun z hz' => hz z (List.mem_cons_of_mem _ hz')
    have hkd : kd ≠ .cell := hz (n, kd) List.mem_cons_self
    have h' : List.lookup y ((if (kd == NameKind.free && X.env.scope.kind == .function && X.env.kindOf n == some .cell) = true then (n, NameKind.cell) else (n, kd)) :: r.map _) = _ \/
     List.lookup y ((if (kd == NameKind.free && X.env.scope.kind == .function && X.env.kindOf n == some .cell) = true then (n, NameKind.cell) else (n, kd)) :: r.map _) = _ := h
    rw [List.lookup_cons]
    cases hx : y == n with
    | true =>
     by_cases hc : (kd == NameKind.free && X.env.scope.kind == .function && X.env.kindOf n == some .cell) = true
     . have : (kd == NameKind.free) = true := by
        (simp only [Bool.and_eq_true] at hc)
        exact hc.1.1
       rw [eq_of_beq this]
     . rw [if_neg hc] at h'
       simp only [List.lookup_cons, hx] at h'
       rcases h' with q | q
       . exact absurd (Option.some.inj q) hkd
       . exact q
    | false =>
     simp only
     by_cases hc : (kd == NameKind.free && X.env.scope.kind == .function && X.env.kindOf n == some .cell) = true
     . rw [if_pos hc] at h'
       simp only [List.lookup_cons, hx] at h'
       exact ih' h'
     . rw [if_neg hc] at h'
       simp only [List.lookup_cons, hx] at h'
       exact ih' h'
  exact key scope.names S.nocell hy
 refine ⟨⟨I.mod, S.kind, I.ok.glob, I.ok.blt, Nat.le_succ _, fun x y c e1 e2 => I.ok.inj x y c (c1 x c e1) (c1 y c e2), fun y hy => memf y (back y hy), fun x c hx => (nomatch hx), I.ok.hd, I.ok.frames, .inl rfl,
  fun b hb => ⟨Nat.ne_of_lt (Nat.lt_succ_of_lt (hfo b hb)), fun x c e => (hf b hb).2.2.2.2.1 x c (c1 x c e)⟩, I.bs, Nat.le_trans I.ok.bsz I.sz, fun b o e hb => exb b hb o e, exs, I.stack, I.stkFree⟩,
  rfl, I.bare, Un.laid kp (Nat.le_refl _) hfr, ⟨m1, hn1, fun i x v e1 e2 e3 => ?_⟩, fun x c e => ?_, ?_, fun x c e => ?_, fun p hp => (nomatch hp), I.hok.laid kp (Nat.le_refl _) ⟨by simp, [], 0, .nil, hD⟩, ?_⟩
 . -- a name's value within the block
   have hi : ¬ i < k := fun hi => by
    unfold ZaQ at e2
    rw [List.getElem?_append_left (by simpa using hi), List.getElem?_replicate, if_pos hi] at e2
    cases e2
   have hik : k <= i := Nat.le_of_not_lt hi
   have e2' : (Zba js σ)[i - k]? = some (some v) := by
    unfold ZaQ at e2
    rw [List.getElem?_append_right (by simpa using hik), List.length_replicate] at e2
    exact e2
   unfold Zba at e2'
   rw [List.getElem?_map] at e2'
   cases hj : js[i - k]? with
   | none => rw [hj] at e2'; cases e2'
   | some j =>
    rw [hj] at e2'
    have e4 : (σ[j]?).join = some v := Option.some.inj e2'
    obtain ⟨y, n1, n2, n3⟩ := S.idx (i - k) j hj
    rw [Nat.add_sub_cancel' hik] at n2
    have e1' : N'[i]? = some x := e1
    rw [e1'] at n2
    obtain rfl : x = y := Option.some.inj n2
    have e5 : σ[j]? = some (some v) := by
     cases q : σ[j]? with
     | none => rw [q] at e4; cases e4
     | some o => rw [q] at e4; exact congrArg some e4
    obtain ⟨m, hn, hl⟩ := I.loc
    have hk := S.free (x, .free) (PySem.mem_of_lookup n3) rfl
    have hv : Vis X.env.scope x := .inr hk
    obtain ⟨u, r, l⟩ := hl j x v n1 e5 hv
    refine ⟨u, r, .inr ⟨upk x n3, ?_⟩⟩
    rcases l with ⟨q, _⟩ | ⟨_, c, hc, hcell⟩
    . rcases hk with z | z <;> (rw [show X.env.kindOf x = some NameKind.local from q] at z; cases z)
    . obtain ⟨c', hc'⟩ := memf x n3
      have : c' = c := Option.some.inj ((c1 x c' hc').symm.trans hc)
      subst this
      obtain ⟨o, ho, hd⟩ := hcell
      exact ⟨c', hc', o, kp _ _ ho, hd⟩
 . obtain ⟨v, o, ho, hd⟩ := I.cell x c (c1 x c e)
   exact ⟨v, o, kp _ _ ho, hd⟩
 . show upd H s.heap.objs.size (.lst []) (s.heap.objs.size + 1) = none
   rw [Zj (Nat.succ_ne_self _)]
   exact hfr1
 . show upd H s.heap.objs.size (.lst []) c = none
   rw [Zj (Nat.ne_of_lt (cells x c e))]
   exact I.freeC x c (c1 x c e)
 . show (ZaQ k js σ).length = N'.length
   unfold ZaQ Zba
   rw [List.length_append, List.length_replicate, List.length_map, S.len]
def PIf (X : Cx) (ifs : List Expr) (t : TT) : Prop :=
 ∀ (pins : List (Addr × Obj)) (s : Shared) (σ : St) (H : Hp) (Q : Bool -> Hp -> Prop), Inv X pins σ H s -> t σ H Q ->
  wpAny (model X.prog X.w) X.A (forIn ifs true fun c r => if r = true then do let ok <- isTrue c X.env (eval c X.env); pure (ForInStep.yield ok) else pure (ForInStep.yield r)) (TP X pins σ Q) X.xe s
def tIf0 : TT := fun _ H Q => Q true H
theorem Zk8 : PIf X [] tIf0 := fun _ _ _ H _ I h => wpAny_tests_nil ⟨H, I, h⟩
def Zhc (J : It) (g : TG) (tif : TT) (te : TE) (D : Addr) (Q : VK) (W : Nat -> Nat -> St -> List V -> Hp -> Prop) : Prop :=
 ∀ i m σ ys H, W i m σ ys H -> H D = some (.lst ys) -> (J.stop i H /\ Q (.ref D) H) \/ (J.go i H /\ ∀ x H', J.yld i H x H' -> g x σ H' fun σ2 H2 => tif σ2 H2 fun b H3 =>
  if b = true then te σ2 H3 fun y H4 => H4 D = some (.lst ys) /\ ys.length < sizeLine /\ ∃ m', m' < m /\ W (i + 1) m' σ2 (ys ++ [y]) (upd H4 D (.lst (ys ++ [y])))
  else H3 D = some (.lst ys) /\ ∃ m', m' < m /\ W (i + 1) m' σ2 ys H3)
theorem ZhZ
 (hx : ∀ e s', X.xe e s' -> False) (hc : X.calm = true) (T : Turn X.prog X.w X.K tg J fp it tn) (hg : PG X tg g) (hif : PIf X ifs tif) (he : PE X elt te)
 (stat : ∀ {H' : Hp}, (∀ b ∈ fp, H' b = none) -> ∀ b ∈ fp, FpOk X [] H' b)
 (turn : Zhc J g tif te D Q W)
 (hR : ∀ σ' H' s', Inv X [] σ' H' s' -> Q (.ref D) H' -> R (.ok .next) s')
 (I : Inv X [] σ H s) (st : tn 0 s.heap) (fr : ∀ b ∈ fp, H b = none) (hD : H D = some (.lst [])) (w0 : W 0 m σ [] H) :
 codeAny (model X.prog X.w) X.A (.compLoop (.ListComp elt [⟨tg, iter, ifs, 0⟩] scope pos) 0 (.ref it) (.ref D) X.env) R s := by
 refine codeAny_loop rfl (fun n s' => ∃ i ys σ' H', Inv X [] σ' H' s' /\ tn i s'.heap /\ (∀ b ∈ fp, H' b = none) /\ H' D = some (.lst ys) /\ W i n σ' ys H') (fun n s3 hI => ?_) m ⟨0, [], σ, H, I, st, fr, hD, w0⟩
 obtain ⟨i, ys, σ3, H3, I3, st3, fr3, d3, w3⟩ := hI
 show wpAny _ X.A ((compTurn (.ListComp elt [⟨tg, iter, ifs, 0⟩] scope pos) 0 (.ref it) (.ref D) X.env).onRaise (fun x => do noteFrame x X.env; theTreesLotGoes x)) _ _ s3
 refine wpAny_noted ?_
 rw [compTurn_list]
 (refine wpAny_bind (wpAny_standAt (wpAny_bind ?_)))
 have sub : ∀ {α : Type} {t : Sem α} {P : α -> Shared -> Prop} {E' : Value -> Shared -> Prop} {s : Shared}, wpAny (model X.prog X.w) X.A t P X.xe s -> wpAny (model X.prog X.w) X.A t P E' s := fun h => wpAny_mono h (fun _ _ q => q) fun e s' q => (hx e s' q).elim
 rcases turn i n σ3 ys H3 w3 d3 with ⟨stop, q⟩ | ⟨go, step⟩
 . refine sub (thn (T.done X rfl rfl rfl hc i [] s3 σ3 H3 X.xe I3 (stat fr3) st3 stop) fun r s4 z0 => ?_)
   obtain ⟨hr, I4⟩ := z0
   subst hr
   exact wpAny_pure (hR σ3 H3 s4 I4 q)
 . refine sub (thn (T.item X rfl rfl rfl hc i [] s3 σ3 H3 X.xe I3 (stat fr3) st3 go) fun r s4 z0 => ?_)
   obtain ⟨u, hr, h4⟩ := z0
   subst hr
   refine wpAny_bind (sub (thn h4 fun _ s5 z0 => ?_))
   obtain ⟨x, H5, I5, r5, y5, st5, fr5⟩ := z0
   have I5' := I5.pinned (stat fr5) (T.obj _ _ st5)
   refine wpAny_bind (sub (thn (hg _ s5 σ3 H5 x u _ I5' r5 (step x H5 y5)) fun _ s6 z0 => ?_))
   obtain ⟨σ6, H6, I6, q6⟩ := z0
   have again : ∀ {s7 : Shared} {H7 : Hp} {ys7 : List V}, Inv X ([] ++ Zcp fp s5.heap) σ6 H7 s7 -> H7 D = some (.lst ys7) -> (∃ m', m' < n /\ W (i + 1) m' σ6 ys7 H7) ->
    ∃ m, m < n /\ ∃ i ys σ' H', Inv X [] σ' H' s7 /\ tn i s7.heap /\ (∀ b ∈ fp, H' b = none) /\ H' D = some (.lst ys) /\ W i m σ' ys H' := fun {s7 H7 ys7} I7 d7 w7 => by
    obtain ⟨m', hm, w7⟩ := w7
    refine ⟨m', hm, i + 1, ys7, σ6, H7, I7.unpinned, T.keep _ _ _ st5 fun b hb o e => (I7.pin (b, o) (List.mem_append_right _ (List.mem_append_right _ (ZaF hb e)))).1, fun b hb => ?_, d7, w7⟩
    obtain ⟨o, e, d⟩ := T.obj _ _ st5 b hb
    exact (I7.pin (b, o) (List.mem_append_right _ (List.mem_append_right _ (ZaF hb e)))).2.1
   refine wpAny_bind (sub (thn (hif _ s6 σ6 H6 _ I6 q6) fun ok s7 z0 => ?_))
   obtain ⟨H7, I7, q7⟩ := z0
   cases ok with
   | false =>
    rw [if_neg Bool.false_ne_true] at q7
    exact wpAny_pure ⟨rfl, again I7 q7.1 q7.2⟩
   | true =>
    rw [if_pos rfl] at q7
    refine wpAny_bind (wpAny_bind (sub (thn (he _ s7 σ6 H7 _ I7 q7) fun y s8 z0 => ?_)))
    obtain ⟨v, H8, I8, r8, d8, z8, w8⟩ := z0
    have ap := ZeN (X := X) _ s8 σ6 H8 (.ref D) [v] (.ref D) [y] (fun _ H9 => H9 = upd H8 D (.lst (ys ++ [v]))) I8 rfl (.cons r8 .nil) ⟨D, ys, v, rfl, rfl, d8, z8, rfl⟩
    refine wpAny_bind (sub (thn ap fun _ s9 z0 => ?_))
    obtain ⟨_, H9, I9, _, e9⟩ := z0
    subst e9
    exact wpAny_pure (wpAny_pure ⟨rfl, again I9 Zi w8⟩)
def Zfh (k : Nat) (js : List Nat) (wi : TI) (g : TG) (tif : TT) (te : TE) : TE := fun σ H Q => wi σ H fun J H1 => ∀ D, H1 D = none -> ∃ W : Nat -> Nat -> St -> List V -> Hp -> Prop,
 (∃ m, W 0 m (ZaQ k js σ) [] (upd H1 D (.lst []))) /\ Zhc J g tif te D Q W
theorem ZdX {elt tg iter : Expr} {ifs : List Expr} {scope : Scope} {pos : Pos} {k : Nat} {js : List Nat} {N' : List Str} {J : It} {fp : List Addr} {tn : Nat -> Heap -> Prop} {it : Addr} {g : TG} {tif : TT} {te : TE} {Q : VK} {E : Value -> Shared -> Prop}
 {pins : List (Addr × Obj)} {s : Shared} {σ : St} {H : Hp} {cl : List (Str × Addr)} {RR : Value -> Addr -> Result -> Shared -> Prop}
 (hc : X.calm = true) (S : CompScope X k js N' scope) (T : Turn X.prog X.w X.K tg J fp it tn) (st : tn 0 s.heap) (hf : ∀ b ∈ fp, FpOk X pins H b)
 (c1 : ∀ y c, cl.lookup y = some c -> X.env.cells.lookup y = some c) (c2 : ∀ y ∈ scope.names, y.2 = .free -> ∃ c, cl.lookup y.1 = some c)
 (hin : ∀ (cl : List (Str × Addr)) (C : Addr) (s₀ : Shared) (H₀ : Hp) (ex : List Addr), PG (cxC X N' scope cl C s₀ H₀ ex) tg g /\ PIf (cxC X N' scope cl C s₀ H₀ ex) ifs tif /\ PE (cxC X N' scope cl C s₀ H₀ ex) elt te)
 (I : Inv X pins σ H s) (q : ∀ D, H D = none -> ∃ W : Nat -> Nat -> St -> List V -> Hp -> Prop, (∃ m, W 0 m (ZaQ k js σ) [] (upd H D (.lst []))) /\ Zhc J g tif te D Q W)
 (hRR : ∀ (D C : Addr) (s' : Shared) (H' : Hp), s.heap.get? C = none -> (∃ m, s'.heap.Ns C m) -> Inv X pins σ H' s' -> FpOk X pins H' C -> Q (.ref D) H' -> RR (.ref D) C (.ok .next) s') :
 wpAny (model X.prog X.w) X.A (newList []) (fun acc s₃ => wpAny (model X.prog X.w) X.A (newFunctionEnv scope X.env.globals cl [] X.env.qual none .none (some X.env)) (fun cenv s₄ =>
  codeAny (model X.prog X.w) X.A (.compStart (.ListComp elt [⟨tg, iter, ifs, 0⟩] scope pos) 0 (.ref it) acc { cenv with scope := relabel scope X.env }) (RR acc cenv.locals) s₄) E s₃) E s := by
 refine wpAny_newObj_type (wpAny_newFunctionEnv S.nocell (by intro y hy; simp at hy) (fun h₁ hns₁ hsb₁ => ?_) S.kind)
 dsimp only at hns₁ hsb₁ ⊢
 generalize hH2 : s.heap.push { cls := .type "list", dict := none, data := .seq ([] : List Value).toArray } = H2 at hns₁ hsb₁ ⊢
 have hC : H2.objs.size = s.heap.objs.size + 1 := by rw [<- hH2, Heap.size_push]
 rw [hC] at hns₁ hsb₁ ⊢
 have kp : ∀ b o, s.heap.get? b = some o -> h₁.get? b = some o := fun b o e => hsb₁.extBut b o (Nat.ne_of_lt (Nat.lt_succ_of_lt (Heap.lt_size e))) (Heap.get?_push_of_some _ (hH2 ▸ Heap.get?_push_of_some _ e))
 have hD : h₁.get? s.heap.objs.size = some { cls := .type "list", data := .seq #[] } := hsb₁.extBut _ _ (Nat.ne_of_lt (Nat.lt_succ_self _)) (Heap.get?_push_of_some _ (hH2 ▸ Heap.get?_push_size _ rfl))
 have hfo : ∀ b ∈ fp, b < s.heap.objs.size := fun b hb => by obtain ⟨o, e, _⟩ := T.obj _ _ st b hb; exact Heap.lt_size e
 obtain ⟨W, ⟨m0, w0⟩, turn⟩ := q s.heap.objs.size (I.hok.fresh (Nat.le_refl _))
 obtain ⟨gG, gI, gE⟩ := hin cl (s.heap.objs.size + 1) s H fp
 have fresh1 : s.heap.get? (s.heap.objs.size + 1) = none := by
  cases e : s.heap.get? (s.heap.objs.size + 1) with
  | none => rfl
  | some o => exact absurd (Heap.lt_size e) (Nat.not_lt.mpr (Nat.le_succ _))
 have I1 : ∀ tk, Inv (cxC X N' scope cl (s.heap.objs.size + 1) s H fp) [] (ZaQ k js σ) (upd H s.heap.objs.size (.lst [])) { s with heap := h₁, toks := tk } := fun tk => ZiP I S hf hfo c1 c2 ⟨_, hns₁⟩ kp hD
 have ffr : ∀ b ∈ fp, upd H s.heap.objs.size (.lst []) b = none := fun b hb => by
  rw [Zj (Nat.ne_of_lt (hfo b hb))]
  exact (hf b hb).1
 have exs : ∀ b ∈ fp, b ∉ frs X.stack := (I1 0).ok.exfs
 have stat : ∀ {H' : Hp}, (∀ b ∈ fp, H' b = none) -> ∀ b ∈ fp, FpOk (cxC X N' scope cl (s.heap.objs.size + 1) s H fp) [] H' b := fun hn b hb =>
  ⟨hn b hb, ((I1 0).ok.exf b hb).1, exs b hb, .inl hb, ((I1 0).ok.exf b hb).2, fun p hp => (nomatch hp)⟩
 have st1 : tn 0 h₁ := T.keep _ _ _ st fun b _ o e => kp b o e
 have loop : ∀ tk, codeAny (model X.prog X.w) X.A (.compLoop (.ListComp elt [⟨tg, iter, ifs, 0⟩] scope pos) 0 (.ref it) (.ref s.heap.objs.size) (compEnvC scope cl (s.heap.objs.size + 1) X.env))
  (RR (.ref s.heap.objs.size) (s.heap.objs.size + 1)) { s with heap := h₁, toks := tk } := fun tk => by
  refine ZhZ (X := cxC X N' scope cl (s.heap.objs.size + 1) s H fp) (fun _ _ z => z) hc T gG gI gE stat turn (fun σ' H' s' J q' => ?_) (I1 tk) st1 ffr Zi w0
  have u : Un (frs X.stack) fp H H' s.heap s'.heap := J.base
  have J1 : Inv X pins σ H' s' := I.call' J.os u J.hok J.bare fun b hb => ⟨(hf b hb).2.2.2.1, (hf b hb).2.1, (hf b hb).2.2.2.2.1, (hf b hb).2.2.2.2.2⟩
  obtain ⟨m', hn', _⟩ := J.loc
  refine hRR _ _ s' H' fresh1 ⟨m', hn'⟩ J1 ⟨J.free, Nat.ne_of_gt (Nat.lt_succ_of_lt I.lt), I.nofs (Nat.le_succ _), .inr (Nat.le_trans I.sz (Nat.le_succ _)), fun x c e z => ?_, fun p hp z => ?_⟩ q'
  . obtain ⟨v, qc⟩ := I.cell x c e
    have h1 := qc.lt
    rw [z] at h1
    exact absurd h1 (Nat.not_lt.mpr (Nat.le_succ _))
  . have h1 := Heap.lt_size (I.pin p hp).1
    rw [z] at h1
    exact absurd h1 (Nat.not_lt.mpr (Nat.le_succ _))
 exact codeAny_compStart_list (loop _) (T.self X.A 0 _ _ _ st1 (loop _))
theorem Zk9
 (hc : X.calm = true) (S : CompScope X k js N' scope) (hi : PI X tg iter wi)
 (hin : ∀ (cl : List (Str × Addr)) (C : Addr) (s₀ : Shared) (H₀ : Hp) (ex : List Addr), PG (cxC X N' scope cl C s₀ H₀ ex) tg g /\ PIf (cxC X N' scope cl C s₀ H₀ ex) ifs tif /\ PE (cxC X N' scope cl C s₀ H₀ ex) elt te)
 (hs : ∀ x, foldedSetIterable iter X.env x = pure x := by intro _; rfl) : PE X (.ListComp elt [⟨tg, iter, ifs, 0⟩] scope pos) (Zfh k js wi g tif te) := by
 intro pins s σ H Q I h
 obtain ⟨cl, ec, c1, c2⟩ := ZdW (scope := scope) (env := X.env) fun y hy hf => I.ok.has y.1 (S.free y hy hf)
 rw [eval_ListComp]
 refine wpAny_comprehension_free (use := none) rfl hs ec S.kind S.names (thn (hi pins s σ H _ I h) fun xv s1 h1 => thn h1 fun itv s2 h2 => ?_)
 obtain ⟨it, fp, tn, J, H2, e, I2, T, st2, f2, q⟩ := h2
 subst e
 refine ZdX (RR := fun acc C => compPost (model X.prog X.w) X.A X.xe none (EP X pins σ Q) acc C) hc S T st2 f2 c1 c2 hin I2 q ?_
 intro D C s' H' _ hn J1 fC q'
 obtain ⟨m', hn⟩ := hn
 obtain ⟨f0, f1, f2, f3, f4, f5⟩ := fC
 exact ⟨m', hn, fun h' hs' => ⟨.ref D, H', J1.turned (t' := s'.toks) (fun b o hb e => hs'.extBut b o hb e) f0 f1 f3 f4 f5, rfl, q'⟩⟩
theorem ZkA
 (hN : X.N.Nodup) (hi : X.N[i]? = some x) (hx : Loc X.env.scope x)
 (hc : X.calm = true) (S : CompScope X k js N' scope) (hit : PI X tg iter wi)
 (hin : ∀ (cl : List (Str × Addr)) (C : Addr) (s₀ : Shared) (H₀ : Hp) (ex : List Addr), PG (cxC X N' scope cl C s₀ H₀ ex) tg g /\ PIf (cxC X N' scope cl C s₀ H₀ ex) ifs tif /\ PE (cxC X N' scope cl C s₀ H₀ ex) elt te)
 (hsw : swapsWith (.ListComp elt [⟨tg, iter, ifs, 0⟩] scope pos) (some (.Name x pos')) spos.line X.env = pure true := by rfl)
 (hf : X.fn x = true \/ X.env.scope.names.lookup x = some .local := by first | exact .inl rfl | exact .inr rfl | assumption)
 (hs : ∀ x, foldedSetIterable iter X.env x = pure x := by intro _; rfl) : PS X (.Assign [.Name x pos'] (.ListComp elt [⟨tg, iter, ifs, 0⟩] scope pos) spos) (tAsg (Zfh k js wi g tif te) (Zca i)) := by
 intro pins s σ H D I h
 obtain ⟨cl, ec, c1, c2⟩ := ZdW (scope := scope) (env := X.env) fun y hy hf => I.ok.has y.1 (S.free y hy hf)
 (rw [exec_Assign_Name_used _ _ _ _ hsw])
 (refine wpAny_bind (wpAny_standAt (wpAny_bind ?_)))
 show wpAny _ X.A (do let _ <- comprehension (.ListComp elt [⟨tg, iter, ifs, 0⟩] scope pos) scope X.env _ (newList []) false (eval iter X.env) (some (assign (.Name x pos') X.env))) _ _ s
 refine wpAny_bind (wpAny_mono (wpAny_comprehension_free (use := some (assign (.Name x pos') X.env)) (Q := fun _ s' => SP X pins D .next s') rfl hs ec S.kind S.names
  (thn (hit pins s σ H _ I h) fun xv s1 h1 => thn h1 fun itv s2 h2 => ?_)) (fun _ s' hq => wpAny_pure (wpAny_pure hq)) fun _ _ e => e)
 obtain ⟨it, fp, tn, J, H2, e, I2, T, st2, f2, q⟩ := h2
 subst e
 refine ZdX (Q := fun v H' => Zca i v σ H' D.nx) (RR := fun acc C => compPost (model X.prog X.w) X.A X.xe (some (assign (.Name x pos') X.env)) (fun _ s' => SP X pins D .next s') acc C) hc S T st2 f2 c1 c2 hin I2 q ?_
 intro Da C s' H' fr hn J1 fC q'
 obtain ⟨m', hn⟩ := hn
 obtain ⟨f0, f1, f2, f3, f4, f5⟩ := fC
 obtain ⟨oC, es, ep, hoC, hdC, hkC, hmC⟩ := id hn
 show wpAny _ X.A (assign (.Name x pos') X.env (.ref Da)) _ _ _
 have J2 : Inv X (pins ++ [(C, oC)]) σ H' s' := J1.pins_of fun p hp => by
  (rcases List.mem_append.mp hp with z | z)
  . exact J1.pin p (List.mem_append_right _ z)
  . have z' : p = (C, oC) := by simpa using z
    subst z'
    exact ⟨hoC, f0, f1, f2, fun v e => by rw [hdC] at e; cases e⟩
 refine wpAny_assign_Name (Zbo J2 hN hi hx (v := .ref Da) rfl (fun s'' I'' => ?_) hf)
 have hC'' := (I''.pin (C, oC) (List.mem_append_right _ (List.mem_append_right _ (by simp)))).1
 refine ⟨m', ⟨oC, es, ep, hC'', hdC, hkC, hmC⟩, fun h' hs' => ?_⟩
 have I3 : Inv X pins (σ.set i (some (.ref Da))) H' s'' := I''.unpinned
 exact ⟨_, H', I3.turned (t' := s''.toks) (fun b o hb e => hs'.extBut b o hb e) f0 f1 f3 f4 f5, q'⟩
end
end L2
namespace L2
open PySem PySem.Spec PyProof.Rows
mutual
inductive Den (K : Fg) (H : Hp) : V -> PyData -> Prop
 | non : Den K H .non .none
 | bl (b : Bool) : Den K H (.bl b) (.bool b)
 | int (i : Int) : Den K H (.int i) (.int i)
 | str (x : Str) : Den K H (.str x) (.str x)
 | lst {a : Addr} {vs : List V} {ds : List PyData} : SqL K H a vs -> DenL K H vs ds -> Den K H (.ref a) (.list ds)
 | tup {a : Addr} {vs : List V} {ds : List PyData} : SqT K H a vs -> DenL K H vs ds -> Den K H (.ref a) (.tuple ds)
inductive DenL (K : Fg) (H : Hp) : List V -> List PyData -> Prop
 | nil : DenL K H [] []
 | cons {v : V} {d : PyData} {vs : List V} {ds : List PyData} : Den K H v d -> DenL K H vs ds -> DenL K H (v :: vs) (d :: ds)
end
theorem Same.tupq {K : Fg} {H H' : Hp} {a : Addr} {xs : List V} (e : Same H H') (h : SqT K H a xs) : SqT K H' a xs := by
 rcases h with (h | ⟨o, h⟩) | h
 . exact .inl (.inl (e _ _ h))
 . exact .inl (.inr ⟨o, e _ _ h⟩)
 . exact .inr h
mutual
theorem Den.same {K : Fg} {H H' : Hp} (e : Same H H') : ∀ {v : V} {d : PyData}, Den K H v d -> Den K H' v d
 | _, _, .non => .non
 | _, _, .bl b => .bl b
 | _, _, .int i => .int i
 | _, _, .str x => .str x
 | _, _, .lst h r => .lst (e.seq h) (DenL.same e r)
 | _, _, .tup h r => .tup (e.tupq h) (DenL.same e r)
theorem DenL.same {K : Fg} {H H' : Hp} (e : Same H H') : ∀ {vs : List V} {ds : List PyData}, DenL K H vs ds -> DenL K H' vs ds
 | _, _, .nil => .nil
 | _, _, .cons h r => .cons (Den.same e h) (DenL.same e r)
end
section
mutual
theorem Den.reads (I : Inv X pins σ H s) : ∀ {v : V} {d : PyData} {u : Value}, Den X.K H v d -> RelV v u -> ∃ as, Reads s.heap u d as
 | _, _, _, .non, r => by cases (show _ = Value.none from r); exact ⟨_, .none⟩
 | _, _, _, .bl b, r => by cases (show _ = Value.bool b from r); exact ⟨_, .bool b⟩
 | _, _, _, .int i, r => by obtain ⟨t, q⟩ := (show ∃ t, _ = Value.int i t from r); cases q; exact ⟨_, .int i t⟩
 | _, _, _, .str x, r => by obtain ⟨t, q⟩ := (show ∃ t, _ = Value.str x t from r); cases q; exact ⟨_, .str x t⟩
 | _, _, _, .lst (a := a) h q, r => by
  cases (show _ = Value.ref a from r)
  obtain ⟨its, rv, p, hz⟩ := I.list h
  obtain ⟨as, ra⟩ := DenL.reads I q rv
  obtain ⟨o, ho, hc, n, hd⟩ := p.isList
  exact ⟨_, .list ho hc hd (by simpa using ra)⟩
 | _, _, _, .tup (a := a) h q, r => by
  cases (show _ = Value.ref a from r)
  obtain ⟨its, rv, p, hz⟩ := I.tuple h
  obtain ⟨as, ra⟩ := DenL.reads I q rv
  obtain ⟨o, ho, hc, n, hd⟩ := (show s.heap.IsTuple a its.toArray from p)
  exact ⟨_, .tuple ho hc hd (by simpa using ra)⟩
theorem DenL.reads (I : Inv X pins σ H s) : ∀ {vs : List V} {ds : List PyData} {us : List Value}, DenL X.K H vs ds -> Vals vs us -> ∃ as, ReadsAll s.heap us ds as
 | _, _, _, .nil, r => by cases r; exact ⟨_, .nil⟩
 | _, _, _, .cons h q, r => by
  cases r with
  | cons r1 r2 =>
   obtain ⟨as, ra⟩ := Den.reads I h r1
   obtain ⟨bs, rb⟩ := DenL.reads I q r2
   exact ⟨_, .cons ra rb⟩
end
end
section
variable {X : Cx}
def rEqD (K : Fg) : R2 := fun x y H Q => ∃ d e, Den K H x d /\ Den K H y e /\ SeqAt.shaped d = true /\ SeqAt.shaped e = true /\ Q (.bl (PyData.eqv d e)) H
def rNeD (K : Fg) : R2 := fun x y H Q => ∃ d e, Den K H x d /\ Den K H y e /\ SeqAt.shaped d = true /\ SeqAt.shaped e = true /\ Q (.bl (!PyData.eqv d e)) H
theorem Zmu (hu : X.A.units + 64 < cLine) : OpR X (compareOp .Eq) (rEqD X.K) := by
 intro pins s σ H x y v u Q I rx ry h
 obtain ⟨d, e, hd, he, s1, s2, q⟩ := h
 obtain ⟨as, ra⟩ := hd.reads I rx
 obtain ⟨bs, rb⟩ := he.reads I ry
 exact eq_dataH ra rb s1 s2 hu ⟨.bl _, H, I, rfl, q⟩
theorem Zmv (hu : X.A.units + 64 < cLine) : OpR X (compareOp .NotEq) (rNeD X.K) := by
 intro pins s σ H x y v u Q I rx ry h
 obtain ⟨d, e, hd, he, s1, s2, q⟩ := h
 obtain ⟨as, ra⟩ := hd.reads I rx
 obtain ⟨bs, rb⟩ := he.reads I ry
 exact ne_dataH ra rb s1 s2 hu ⟨.bl _, H, I, rfl, q⟩
theorem ZeR : ∀ (l : List (Str × Tok)), Vals ((l.map (·.1)).map V.str) (strValues l)
 | [] => .nil
 | (x, t) :: l => .cons ⟨t, rfl⟩ (ZeR l)
theorem ZeS : ∀ (ts : List Str) (us : List Value), Vals (ts.map V.str) us -> ∃ l : List (Str × Tok), us = strValues l /\ l.map (·.1) = ts
 | [], us, r => by cases r; exact ⟨[], rfl, rfl⟩
 | x :: ts, us, r => by
  cases r with
  | cons r1 r2 =>
   obtain ⟨t, rfl⟩ := r1
   obtain ⟨l, e1, e2⟩ := ZeS ts _ r2
   exact ⟨(x, t) :: l, by rw [e1]; rfl, by rw [List.map_cons, e2]⟩
theorem Zbr (x : Str) (c : Nat) : (Txt.split x ⟨#[c]⟩).length <= x.length + 2 := by
 unfold Txt.split
 split
 . show 1 <= _
   omega
 . split
   . show 1 <= _
     omega
   . have e1 := StrLaws.occ_length_le x ⟨#[c]⟩ 0 x.length (x.length + 1)
     rw [length_partsBetween]
     omega
def Zmw : V -> List V -> Hp -> VK -> Prop := fun x vs H Q => ∃ z c, x = .str z /\ vs = [.str ⟨#[c]⟩] /\ z.length + 2 <= sizeLine /\ ∀ p, H p = none -> Q (.ref p) (upd H p (.lst ((Txt.split z ⟨#[c]⟩).map V.str)))
theorem ZiQ : MtR X "str.split" Zmw := by
 intro pins s σ H x vs v us Q I rx rv h
 obtain ⟨z, c, rfl, rfl, hz, q⟩ := h
 obtain ⟨t, rfl⟩ := rx
 obtain ⟨u0, rfl, ru⟩ := rv.one
 obtain ⟨u, rfl⟩ := ru
 have hy : ((⟨#[c]⟩ : Str).length == 0) = false := rfl
 have fin : ∀ (l : List (Str × Tok)) (tk : Nat), l.map (·.1) = Txt.split z ⟨#[c]⟩ -> EP X pins σ Q (.ref s.heap.objs.size) { s with heap := s.heap.push { cls := .type "list", data := .seq (strValues l).toArray }, toks := tk } := fun l tk e => by
  have rv := ZeR l
  rw [e] at rv
  refine ⟨.ref s.heap.objs.size, _, I.lnew rv ?_, rfl, q _ I.fresh⟩
  rw [List.length_map]
  have := Zbr z c
  omega
 have hn : (Builtin.Str.partsBetween z (Builtin.Str.occurrences z ⟨#[c]⟩ 0 z.length (z.length + 1)) (⟨#[c]⟩ : Str).length).length <= sizeLine := by
  have e1 := StrLaws.occ_length_le z ⟨#[c]⟩ 0 z.length (z.length + 1)
  rw [length_partsBetween]
  omega
 cases h1 : (decide (z.length < (⟨#[c]⟩ : Str).length) || decide (Builtin.Str.strKind z < Builtin.Str.strKind ⟨#[c]⟩))
 . cases hf : (Builtin.Str.occurrences z ⟨#[c]⟩ 0 z.length (z.length + 1)).isEmpty
   . refine call_meets F.slot_str_split (typeIs_str _ _ _) F.entry_str_split (F.args_str_split_2 _ _) (meets_str_split_sep z ⟨#[c]⟩ t u h1 hy hf (by omega) hn) ?_
     show wants (EP X pins σ Q) X.xe _ { s with toks := _, heap := s.heap.push { cls := .type "list", data := .seq (strsFrom s.toks (Builtin.Str.partsBetween z (Builtin.Str.occurrences z ⟨#[c]⟩ 0 z.length (z.length + 1)) (⟨#[c]⟩ : Str).length)).toArray } }
     rw [strsFrom_eq]
     exact fin (numbered s.toks _) _ ((numbered_texts _ _).trans ((if_neg (ne_true_of_eq_false h1)).trans (if_neg (ne_true_of_eq_false hf))).symm)
   . exact call_meets F.slot_str_split (typeIs_str _ _ _) F.entry_str_split (F.args_str_split_2 _ _) (meets_str_split_not_found z ⟨#[c]⟩ t u h1 hy hf)
      (fin [(z, t)] s.toks ((if_neg (ne_true_of_eq_false h1)).trans (if_pos hf)).symm)
 . exact call_meets F.slot_str_split (typeIs_str _ _ _) F.entry_str_split (F.args_str_split_2 _ _) (meets_str_split_cannot_occur z ⟨#[c]⟩ t u h1)
    (fin [(z, t)] s.toks (if_pos h1).symm)
def Zo4 (K : Fg) : V -> List V -> Hp -> VK -> Prop := fun x vs H Q => ∃ sep l ts, x = .str sep /\ vs = [.ref l] /\ SqL K H l (ts.map V.str) /\ JoinOk sep ts = true /\ Q (.str (Txt.join sep ts)) H
theorem ZkB : MtR X "str.join" (Zo4 X.K) := by
 intro pins s σ H x vs v us Q I rx rv h
 obtain ⟨sep, l, ts, rfl, rfl, hl, hj, q⟩ := h
 obtain ⟨t, rfl⟩ := rx
 obtain ⟨u0, rfl, ru⟩ := rv.one
 cases (show u0 = Value.ref l from ru)
 obtain ⟨its, r, p, hz⟩ := I.list hl
 obtain ⟨ll, rfl, e⟩ := ZeS ts its r
 exact SC.join p.isList e hj fun t' k => ⟨.str _, H, I.tok k, ⟨t', rfl⟩, q⟩
def rSlS : V -> Option Int -> Option Int -> Hp -> VK -> Prop := fun x lo hi H Q => ∃ z, x = .str z /\ z.length <= sizeLine /\ Q (.str (Txt.slice z lo hi)) H
theorem Zmx : SlR X rSlS := by
 intro pins s σ H x v vl vu lo hi sl Q I rx hs pl pu h
 obtain ⟨z, rfl, hz, q⟩ := h
 obtain ⟨t, rfl⟩ := rx
 refine ⟨"str", _, F.slot_str_getitem.lookup, typeIs_str _ _ _, ?_⟩
 have fin : ∀ t' k, EP X pins σ Q (.str (Txt.slice z lo hi) t') { s with toks := k } := fun t' k => ⟨.str _, H, I.tok k, ⟨t', rfl⟩, q⟩
 have hle := Nat.le_trans (Txt.slice_le z lo hi) hz
 cases pl with
 | none =>
  cases pu with
  | none => exact wpAny_getItem_str_slice (l := none) (u := none) (st := none) hs rfl (post_val_or_str ⟨hle, fin⟩)
  | int j tj => exact wpAny_getItem_str_slice (l := none) (u := some (j, tj)) (st := none) hs rfl (post_val_or_str ⟨hle, fin⟩)
 | int i ti =>
  cases pu with
  | none => exact wpAny_getItem_str_slice (l := some (i, ti)) (u := none) (st := none) hs rfl (post_val_or_str ⟨hle, fin⟩)
  | int j tj => exact wpAny_getItem_str_slice (l := some (i, ti)) (u := some (j, tj)) (st := none) hs rfl (post_val_or_str ⟨hle, fin⟩)
theorem ZiR (c : V) (cu : Value) (rc : RelV c cu) (huniq : ∀ u, RelV c u -> u = cu) : Zag X (.builtin "isinstance") (fun xs H Q => ∃ x t b, xs = [x, c] /\ TyOf X.K H x t /\ PySem.W.kitOne X.K t cu = some b /\ Q (.bl b) H) := by
 intro pins s σ H xs us Q I r h
 obtain ⟨x, t, b, rfl, ty, e, q⟩ := h
 obtain ⟨u, w', rfl, ru, rw'⟩ := r.two
 obtain rfl := huniq w' rw'
 exact ZhJ I ru ty e fun tk => ⟨.bl b, H, I.tok tk, rfl, q⟩
theorem Zc4 : ∀ (bs : List Bool) (us : List Value), Vals (bs.map V.bl) us -> us = bs.map Value.bool
 | [], us, r => by cases r; rfl
 | b :: bs, us, r => by
  cases r with
  | cons r1 r2 => rw [Zc4 bs _ r2, show _ = Value.bool b from r1]; rfl
theorem Zhd (bs : List Bool) : ((List.range bs.length).all fun i => (bs[i]?).getD true) = bs.all id := by
 (rw [Bool.eq_iff_iff, List.all_eq_true, List.all_eq_true])
 constructor
 . intro h b hb
   obtain ⟨i, hi, e⟩ := List.mem_iff_getElem.mp hb
   have q := h i (List.mem_range.mpr hi)
   rw [List.getElem?_eq_getElem hi, Option.getD_some, e] at q
   exact q
 . intro h i hi
   (have hi' := List.mem_range.mp hi)
   rw [List.getElem?_eq_getElem hi', Option.getD_some]
   (exact h _ (List.getElem_mem hi'))
theorem Zhe (bs : List Bool) : ((List.range bs.length).any fun i => (bs[i]?).getD false) = bs.any id := by
 (rw [Bool.eq_iff_iff, List.any_eq_true, List.any_eq_true])
 constructor
 . rintro ⟨i, hi, q⟩
   (have hi' := List.mem_range.mp hi)
   rw [List.getElem?_eq_getElem hi', Option.getD_some] at q
   exact ⟨_, List.getElem_mem hi', q⟩
 . rintro ⟨b, hb, q⟩
   obtain ⟨i, hi, e⟩ := List.mem_iff_getElem.mp hb
   refine ⟨i, List.mem_range.mpr hi, ?_⟩
   rw [List.getElem?_eq_getElem hi, Option.getD_some, e]
   exact q
theorem Zg6 {h h' : Heap} {o : Obj} (hk : ∀ b x, b ∉ [h.objs.size] -> (h.push o).get? b = some x -> h'.get? b = some x) : ∀ b x, h.get? b = some x -> h'.get? b = some x :=
 fun c o e => hk c o (fun hm => by rw [List.mem_singleton.mp hm] at e; exact Nat.lt_irrefl _ (Heap.lt_size e)) (Heap.get?_push_of_some _ e)
theorem ZiS (hc : X.calm = true) : Zag X (.builtin "all") (fun xs H Q => ∃ (l : Addr) (bs : List Bool), xs = [.ref l] /\ SqL X.K H l (bs.map V.bl) /\ Q (.bl (bs.all id)) H) := by
 intro pins s σ H xs us Q I r h
 obtain ⟨l, bs, rfl, hl, q⟩ := h
 obtain ⟨u, rfl, ru⟩ := r.one
 cases (show u = Value.ref l from ru)
 obtain ⟨its, rv, p, hz⟩ := I.list hl
 have ei := Zc4 bs its rv
 have hlt : l < s.heap.objs.size := by obtain ⟨_, e, _⟩ := p.isList; exact Heap.lt_size e
 refine call_all_walk (wpAny_pyIter_list p.isList ?_)
 refine ⟨s.heap.objs.size, [s.heap.objs.size, l], [s.heap.objs.size], its.toArray.size, _, _, fun i => (bs[i]?).getD true, rfl, Walks.list (A := X.A.in1) (I.ok.hd hc) _ l (Nat.ne_of_lt hlt) its.toArray,
  ⟨⟨_, Heap.get?_push_size _ rfl, rfl, rfl⟩, p.isList.push _⟩, fun i v s' Q' E' hP hQ => ?_, fun h' tk hk => ?_⟩
 . have hP' : its[i]? = some v := by simpa using hP
   rw [ei, List.getElem?_map] at hP'
   cases e : bs[i]? with
   | none => rw [e] at hP'; cases hP'
   | some b =>
    rw [e] at hP'
    cases hP'
    (simp only [e, Option.getD_some] at hQ)
    exact wpAny_truthy_bool hQ
 . have e : ((List.range its.toArray.size).all fun i => (bs[i]?).getD true) = bs.all id := by
    rw [List.size_toArray, <- rv.length, List.length_map]
    exact Zhd bs
   rw [e]
   exact ⟨.bl _, H, I.kept (t' := tk) (Zg6 hk), rfl, q⟩
theorem ZiT (hc : X.calm = true) : Zag X (.builtin "any") (fun xs H Q => ∃ (l : Addr) (bs : List Bool), xs = [.ref l] /\ SqL X.K H l (bs.map V.bl) /\ Q (.bl (bs.any id)) H) := by
 intro pins s σ H xs us Q I r h
 obtain ⟨l, bs, rfl, hl, q⟩ := h
 obtain ⟨u, rfl, ru⟩ := r.one
 cases (show u = Value.ref l from ru)
 obtain ⟨its, rv, p, hz⟩ := I.list hl
 have ei := Zc4 bs its rv
 have hlt : l < s.heap.objs.size := by obtain ⟨_, e, _⟩ := p.isList; exact Heap.lt_size e
 refine call_any_walk (wpAny_pyIter_list p.isList ?_)
 refine ⟨s.heap.objs.size, [s.heap.objs.size, l], [s.heap.objs.size], its.toArray.size, _, _, fun i => (bs[i]?).getD false, rfl, Walks.list (A := X.A.in1) (I.ok.hd hc) _ l (Nat.ne_of_lt hlt) its.toArray,
  ⟨⟨_, Heap.get?_push_size _ rfl, rfl, rfl⟩, p.isList.push _⟩, fun i v s' Q' E' hP hQ => ?_, fun h' tk hk => ?_⟩
 . have hP' : its[i]? = some v := by simpa using hP
   rw [ei, List.getElem?_map] at hP'
   cases e : bs[i]? with
   | none => rw [e] at hP'; cases hP'
   | some b =>
    rw [e] at hP'
    cases hP'
    (simp only [e, Option.getD_some] at hQ)
    exact wpAny_truthy_bool hQ
 . have e : ((List.range its.toArray.size).any fun i => (bs[i]?).getD false) = bs.any id := by
    rw [List.size_toArray, <- rv.length, List.length_map]
    exact Zhe bs
   rw [e]
   exact ⟨.bl _, H, I.kept (t' := tk) (Zg6 hk), rfl, q⟩
noncomputable def fmtV : V -> Option Str
 | .int i => if i.natAbs.log2 < 1920 then some (toString i : String) else none
 | .str x => some x
 | .non => some ("None" : String)
 | _ => none
def tFmt (te : TE) : TE := fun σ H Q => te σ H fun x H1 => ∃ z, fmtV x = some z /\ z.length <= sizeLine /\ Q (.str z) H1
theorem Zmy (h : PE X e te) : PE X (.FormattedValue e (-1) none pos) (tFmt te) := by
 intro pins s σ H Q I hw
 refine PyProof.Rows.FormattedValue_plain (thn (h pins s σ H _ I hw) fun v s1 z0 => ?_)
 obtain ⟨x, H1, I1, r1, z, e1, hz, q⟩ := z0
 have fin : ∀ t' k, EP X pins σ Q (.str z t') { s1 with toks := k } := fun t' k => ⟨.str _, H1, I1.tok k, ⟨t', rfl⟩, q⟩
 cases x with
 | int i =>
  obtain ⟨t, rfl⟩ := r1
  unfold fmtV at e1
  simp only at e1
  split at e1
  . rename_i hl
    cases e1
    exact PyProof.Rows.formatField_int_small hl (fin _ _)
  . cases e1
 | str y =>
  obtain ⟨t, rfl⟩ := r1
  cases e1
  exact PyProof.Rows.formatField_str (fun t' k => fin t' k) hz
 | non =>
  cases (show v = Value.none from r1)
  cases e1
  exact wpAny_formatField_none (fin _ _)
 | _ => cases e1
noncomputable def Zfi : List TE -> Str -> TE
 | [], acc => fun _ H Q => Q (.str acc) H
 | t :: r, acc => fun σ H Q => t σ H fun x H1 => ∃ z, x = .str z /\ (acc ++ z).length <= sizeLine /\ Zfi r (acc ++ z) σ H1 Q
def PEs (X : Cx) : List Expr -> List TE -> Prop := Paired (PE X)
theorem ZdY : ∀ {es : List Expr} {ts : List TE} (acc : Str) (pins : List (Addr × Obj)) (s : Shared) (σ : St) (H : Hp) (Q : VK), PEs X es ts -> acc.length <= sizeLine -> Inv X pins σ H s -> Zfi ts acc σ H Q ->
 wpAny (model X.prog X.w) X.A (joinParts acc (es.map fun e => eval e X.env)) (EP X pins σ Q) X.xe s
 | _, _, acc, pins, s, σ, H, Q, .nil, hz, I, h => PyProof.Rows.joinParts_nil ⟨.str acc, H, I.tok _, ⟨_, rfl⟩, h⟩ hz
 | _, _, acc, pins, s, σ, H, Q, .cons h1 h2, hz, I, h => by
  refine PyProof.Rows.joinParts_cons (thn (h1 pins s σ H _ I h) fun v s1 z0 => ?_)
  obtain ⟨x, H1, I1, r1, z, e, hl, q⟩ := z0
  subst e
  obtain ⟨t, rfl⟩ := r1
  exact ⟨hl, ZdY (acc ++ z) pins s1 σ H1 Q h2 hl I1 q⟩
theorem ZcS (env : Env) : ∀ es : List Expr, evalEach es env = es.map fun e => eval e env
 | [] => rfl
 | e :: es => by
  have ih := ZcS env es
  show eval e env :: evalEach es env = _
  rw [ih, List.map_cons]
theorem ZkC (h : PEs X (a :: b :: es) ts) : PE X (.JoinedStr (a :: b :: es) pos) (Zfi ts Str.empty) := by
 intro pins s σ H Q I hw
 have q := ZdY (X := X) Str.empty pins s σ H Q h (by decide) I hw
 refine PyProof.Rows.JoinedStr_many ?_
 rw [ZcS]
 exact q
end
end L2
namespace L2
open PySem PySem.Spec PyProof.Rows
noncomputable def Its (x : Str) : It := ⟨fun i _ => i < x.cps.size, fun i H v H' => H' = H /\ ∃ c, x.cps[i]? = some c /\ v = .str ⟨#[c]⟩, fun i _ => x.cps.size <= i⟩
theorem ZiU {P : Program} {w : World} {K : Fg} {tg : Expr} (it : Addr) (x : Str) (t : Tok) {ty : String} (hty : ty = "str_ascii_iterator" \/ ty = "str_iterator") : Turn P w K tg (Its x) [it] it (fun i h => i <= x.cps.size /\ h.IsStrIter it ty x t i) where
 mem := by simp
 obj := fun i h st b hb => by
  have e : b = it := by simpa using hb
  subst e
  obtain ⟨_, o, e, c, d⟩ := st
  exact ⟨o, e, fun v z => by rw [d] at z; cases z⟩
 keep := fun i h h' st k => ⟨st.1, let ⟨o, ho, r⟩ := st.2; ⟨o, k it (by simp) o ho, r⟩⟩
 item := by
  intro X hP hw hK hc i pins s σ H E I hf st hg
  subst hP hw hK
  obtain ⟨f0, f1, f2, f3, f4, f5⟩ := hf it (by simp)
  have go : ∀ {W : Walks X.prog X.w X.A it [it] [it] x.cps.size (SignAt x) (fun i h => h.IsStrIter it ty x t i)}, wpAny (model X.prog X.w) X.A (pyNext (.ref it)) (fun r s1 => ∃ u, r = some u /\
   wpAny (model X.prog X.w) X.A (letOwnedTupleGo tg (.ref it) u) (fun _ s2 => ∃ v H', Inv X pins σ H' s2 /\ RelV v u /\ (Its x).yld i H v H' /\ (i + 1 <= x.cps.size /\ s2.heap.IsStrIter it ty x t (i + 1)) /\ ∀ b ∈ [it], H' b = none) E s1) E s := fun {W} => by
   refine W.item i s _ _ hg st.2 fun v h' tk hv st' kk => ?_
   obtain ⟨c, u, ec, rfl⟩ := hv
   have I1 : Inv X pins σ H { s with heap := h', toks := tk } := I.turned (fun b o hb e => kk b o (by simpa using hb) e) f0 f1 f3 f4 f5
   obtain ⟨o, e, cc, d⟩ := id st'
   refine ⟨_, rfl, Zff (s := { s with heap := h', toks := tk }) e cc d ?_ ⟨.str ⟨#[c]⟩, H, I1, ⟨u, rfl⟩, ⟨rfl, c, ec, rfl⟩, ⟨hg, st'⟩, fun b hb => (hf b hb).1⟩⟩
   rcases hty with rfl | rfl <;> decide
  rcases hty with rfl | rfl
  . exact go (W := Walks.strAscii (I.ok.hd hc) it x t)
  . exact go (W := Walks.strWide (I.ok.hd hc) it x t)
 done := by
  intro X hP hw hK hc i pins s σ H E I hf st hg
  subst hP hw hK
  obtain ⟨f0, f1, f2, f3, f4, f5⟩ := hf it (by simp)
  obtain rfl : i = x.cps.size := Nat.le_antisymm st.1 hg
  rcases hty with rfl | rfl
  . exact (Walks.strAscii (prog := X.prog) (w := X.w) (I.ok.hd hc) it x t).done s _ _ st.2 fun h' tk kk => ⟨rfl, I.turned (fun b o hb e => kk b o (by simpa using hb) e) f0 f1 f3 f4 f5⟩
  . exact (Walks.strWide (prog := X.prog) (w := X.w) (I.ok.hd hc) it x t).done s _ _ st.2 fun h' tk kk => ⟨rfl, I.turned (fun b o hb e => kk b o (by simpa using hb) e) f0 f1 f3 f4 f5⟩
 self := fun A i s Q E st h => by
  rcases hty with rfl | rfl
  . exact wpAny_pyIter_striter_ascii st.2 h
  . exact wpAny_pyIter_striter_wide st.2 h
section
variable {X : Cx} {tg : Expr}
noncomputable def iStr (tl : TE) : TI := fun σ H R => tl σ H fun v H1 => ∃ x, v = .str x /\ R (Its x) H1
theorem Zmz (hl : PE X l tl) : PI X tg l (iStr tl) := by
 intro pins s σ H R I h
 refine thn (hl pins s σ H _ I h) fun v s1 z0 => ?_
 obtain ⟨y, H1, I1, r1, q1⟩ := z0
 obtain ⟨x, e, q⟩ := q1
 subst e
 obtain ⟨t, rfl⟩ := r1
 have fin : ∀ (o : Obj) (ty : String), (ty = "str_ascii_iterator" \/ ty = "str_iterator") -> (s1.heap.push o).IsStrIter s1.heap.objs.size ty x t 0 -> PIE X pins σ tg R (.ref s1.heap.objs.size) { s1 with heap := s1.heap.push o } := fun o ty hty hit => by
  refine ⟨s1.heap.objs.size, [s1.heap.objs.size], _, _, H1, rfl, I1.kept (t' := s1.toks) fun b o e => Heap.get?_push_of_some _ e, ZiU _ x t hty, ⟨Nat.zero_le _, hit⟩, fun b hb => ?_, q⟩
  have e : b = s1.heap.objs.size := by simpa using hb
  subst e
  exact I1.fpOk (Nat.le_refl _) (I1.hok.fresh (Nat.le_refl _))
 (cases ha : x.cps.all (· < 128))
 . exact wpAny_pyIter_wide ha (fin _ _ (.inr rfl) ⟨_, Heap.get?_push_size _ rfl, rfl, rfl⟩)
 . exact wpAny_pyIter_ascii ha (fin _ _ (.inl rfl) ⟨_, Heap.get?_push_size _ rfl, rfl, rfl⟩)
end
end L2
namespace L2
open PySem PySem.Spec PyProof.Rows
structure FnAt (P : Program) (w : World) (K : Fg) (mg : Str -> Option Value) (base : Heap) (x : Str) (k : Nat) (ps : List Str) (sp : Sp) : Prop where
 ex : ∃ (f : Addr) (fd : FuncData), FnOk P w K mg base CX0 k f fd ps sp /\ mg x = some (.ref f) /\ PySem.W.keepIn K (.ref f) = true /\ Binds K fd ps []
structure MeAt (P : Program) (w : World) (K : Fg) (mg : Str -> Option Value) (base : Heap) (C : Addr) (m : Str) (k : Nat) (ps : List Str) (sp : Sp) : Prop where
 ex : ∃ (f : Addr) (fd : FuncData), FnOk P w K mg base CX0 k f fd ps sp /\ Meth K C m f /\ Binds K fd ps []
 cl : Cls K C
structure MkAt (P : Program) (w : World) (K : Fg) (mg : Str -> Option Value) (base : Heap) (x : Str) (C : Addr) (k : Nat) (ps : List Str) (sp : Sp) : Prop where
 ex : ∃ (f : Addr) (fd : FuncData), FnOk P w K mg base CX0 k f fd ps sp /\ Mk K C f /\ mg x = some (.ref C) /\ Binds K fd ps []
section
theorem Zo5 (G : FnAt X.prog X.w X.K X.mg X.base x j ps sp) (hr : Room n X.A) (ha : PA X (e :: es) t) (hj : j <= n := by decide) (hg : Gl X x := by rfl) (hdb : (x == ("__debug__" : Str)) = false := by decide)
 (he : starEach (e :: es) X.env = (false, eval e X.env) :: starEach es X.env := by rfl) (hpl : (backTo pos (starEach es X.env)).any (·.1) = false := by rfl) : PE X (.Call (.Name x p) (e :: es) [] pos) (ZjD sp [] E0 t) := by
 obtain ⟨f, fd, F, hm, hk, hb⟩ := G.ex
 exact Zko F (hr.mono hj) hg hm hk hb .nil ZgX ha hdb he hpl
theorem Zm0 (G : MeAt X.prog X.w X.K X.mg X.base C m j ps sp) (hr : Room n X.A) (ho : PE X o ta) (hj : j <= n := by decide)
 (ht : eval (.Call (.Attribute o m apos) [] [] pos) X.env = (do
  let ov <- eval o X.env
  standAt apos.atName
  let (f, first) <- holding [ov] (getMethod ov m pl)
  callWith pos f first (backTo pos (starEach [] X.env)) (backToKw pos (keywordEach [] X.env))) := by rfl) : PE X (.Call (.Attribute o m apos) [] [] pos) (ZjE C m sp [] E0 ta tNil) := by
 obtain ⟨f, fd, F, hm, hb⟩ := G.ex
 exact Zi6 ho G.cl hm F (hr.mono hj) hb .nil ZgX ht
theorem Zo6 (G : MkAt X.prog X.w X.K X.mg X.base x C j ps sp) (hr : Room n X.A) (ha : PA X (e :: es) t) (hj : j + 1 <= n := by decide) (hg : Gl X x := by rfl) (hdb : (x == ("__debug__" : Str)) = false := by decide)
 (he : starEach (e :: es) X.env = (false, eval e X.env) :: starEach es X.env := by rfl) (hpl : (backTo pos (starEach es X.env)).any (·.1) = false := by rfl) : PE X (.Call (.Name x p) (e :: es) [] pos) (ZjF C sp [] E0 t) := by
 obtain ⟨f, fd, F, M, hm, hb⟩ := G.ex
 exact Zkp M F (hr.mono hj) hg hm hb .nil ZgX ha hdb he hpl
end
theorem ZdG (j : Nat) (js : List Nat) (σ : St) : Zba (j :: js) σ = (σ[j]?).join :: Zba js σ := rfl
end L2
namespace L2
open PySem PySem.Spec PyProof.Rows
theorem ZbT : bootBuiltins "isinstance" = some (.builtin "isinstance") := by decide +kernel
theorem Zo7 : bootBuiltins "str" = some (.type "str") := by decide +kernel
theorem Zm1 : bootBuiltins "bool" = some (.type "bool") := by decide +kernel
end L2
namespace L2
open PySem PySem.Spec PyProof.Rows
noncomputable def Zv (sc : Scope) (N : List Str) (i : Nat) (x : Str) (b : Bool) : Bool := N[i]? == some x && sc.names.lookup x == some (if b then .cell else .local) && !(x == ("__debug__" : Str)) && !(x == ("__classdict__" : Str))
noncomputable def Zf5 (sc : Scope) (N : List Str) (i : Nat) (x : Str) : Bool := N[i]? == some x && (sc.names.lookup x == some .cell || sc.names.lookup x == some .free) && !(x == ("__debug__" : Str)) && !(x == ("__classdict__" : Str))
noncomputable def glOk (sc : Scope) (x : Str) : Bool := sc.names.lookup x == some .globalImplicit && !(x == ("__debug__" : Str)) && !(x == ("__name__" : Str))
section
theorem Zv.at (h : Zv sc N i x b = true) : N[i]? = some x /\ sc.names.lookup x = some (if b then .cell else .local) /\ (x == ("__debug__" : Str)) = false /\ (x == ("__classdict__" : Str)) = false := by
 unfold Zv at h
 (simp only [Bool.and_eq_true, Bool.not_eq_true'] at h)
 exact ⟨eq_of_beq h.1.1.1, eq_of_beq h.1.1.2, h.1.2, h.2⟩
theorem Zv.loc (h : Zv sc N i x b = true) : Loc sc x := by
 have q := (Zv.at h).2.1
 cases b
 . exact .inl q
 . exact .inr q
theorem pvs (h : Zv sc N i x b = true) (e1 : X.env.scope = sc := by rfl) (e2 : X.N = N := by rfl) : PE X (.Name x pos) (tVar i) := by
 obtain ⟨h1, h2, h3, h4⟩ := Zv.at h
 have l := Zv.loc h
 subst e1 e2
 refine Zh8 h1 ?_ h3 h4
 rcases l with l | l
 . exact .inl l
 . exact .inr (.inl l)
theorem pvf (h : Zf5 sc N i x = true) (e1 : X.env.scope = sc := by rfl) (e2 : X.N = N := by rfl) : PE X (.Name x pos) (tVar i) := by
 unfold Zf5 at h
 simp only [Bool.and_eq_true, Bool.not_eq_true', Bool.or_eq_true] at h
 subst e1 e2
 refine Zh8 (eq_of_beq h.1.1.1) ?_ h.1.2 h.2
 rcases h.1.1.2 with l | l
 . exact .inr (.inl (eq_of_beq l))
 . exact .inr (.inr (eq_of_beq l))
theorem glk (h : glOk sc x = true) (e1 : X.env.scope = sc := by rfl) : Gl X x := by
 unfold glOk at h
 (simp only [Bool.and_eq_true] at h)
 subst e1
 exact eq_of_beq h.1.1
theorem dbk (h : glOk sc x = true) : (x == ("__debug__" : Str)) = false := by
 unfold glOk at h
 (simp only [Bool.and_eq_true, Bool.not_eq_true'] at h)
 exact h.1.2
theorem nmk (h : glOk sc x = true) : x ≠ "__name__" := by
 unfold glOk at h
 (simp only [Bool.and_eq_true, Bool.not_eq_true'] at h)
 intro e
 have := h.2
 rw [e, beq_self_eq_true] at this
 cases this
theorem ZiV (h : Zv sc N i x b = true) (nd : N.Nodup) (e1 : X.env.scope = sc := by rfl) (e2 : X.N = N := by rfl) (hf : X.fn x = true \/ b = false := by first | exact .inl rfl | exact .inr rfl) : PG X (.Name x pos) (Zca i) := by
 obtain ⟨h1, h2, h3, h4⟩ := Zv.at h
 have l := Zv.loc h
 subst e1 e2
 refine Zgv nd h1 l ?_
 rcases hf with q | q
 . exact .inl q
 . subst q
   exact .inr h2
noncomputable def ZcT (osc scope : Scope) (x : Str) : Bool := osc.kind == .function && osc.names.lookup x == some .local && !(scope.names.any fun (n, k) => n == x && (k == .local || k == .cell))
theorem Zhf (h : ZcT osc scope x = true) (hl : (pos'.line == pos.line) = true) (e : env.scope = osc) :
 swapsWith (.ListComp elt gens scope pos) (some (.Name x pos')) line env = pure true := by
 subst e
 unfold ZcT at h
 (simp only [Bool.and_eq_true, Bool.not_eq_true'] at h)
 obtain ⟨⟨h1, h2⟩, h3⟩ := h
 show (pure (env.blockKind == .function && env.kindOf x == some .local && pos'.line == pos.line && !(scope.names.any fun (n, k) => n == x && (k == .local || k == .cell))) : Sem Bool) = pure true
 have hb : (env.blockKind == ScopeKind.function) = true := by
  unfold Env.blockKind
  rw [eq_of_beq h1]
  rfl
 have hk : (env.kindOf x == some NameKind.local) = true := h2
 rw [hb, hk, hl, h3]
 rfl
theorem ZiW
 (h : Zv sc N i x false = true) (nd : N.Nodup) (hw : ZcT sc scope x = true)
 (hc : X.calm = true) (S : CompScope X k js N' scope) (hit : PI X tg iter wi)
 (hin : ∀ (cl : List (Str × Addr)) (C : Addr) (s₀ : Shared) (H₀ : Hp) (ex : List Addr), PG (cxC X N' scope cl C s₀ H₀ ex) tg g /\ PIf (cxC X N' scope cl C s₀ H₀ ex) ifs tif /\ PE (cxC X N' scope cl C s₀ H₀ ex) elt te)
 (hl : (pos'.line == pos.line) = true := by rfl) (e1 : X.env.scope = sc := by rfl) (e2 : X.N = N := by rfl)
 (hs : ∀ x, foldedSetIterable iter X.env x = pure x := by intro _; rfl) : PS X (.Assign [.Name x pos'] (.ListComp elt [⟨tg, iter, ifs, 0⟩] scope pos) spos) (tAsg (Zfh k js wi g tif te) (Zca i)) := by
 obtain ⟨h1, h2, h3, h4⟩ := Zv.at h
 have l := Zv.loc h
 have w := fun (e : X.env.scope = sc) => Zhf (elt := elt) (gens := [⟨tg, iter, ifs, 0⟩]) (pos := pos) (line := spos.line) hw hl e
 have w1 := w e1
 subst e1 e2
 exact ZkA nd h1 l hc S hit hin w1 (.inr h2) hs
end
end L2
namespace T
open PySem L2
inductive Kd where
 | lst | frl | tup | ftp | dic (ks : List Key) | ins (C : Addr) (fs : List Str) | exc (ns : List Str) (fr : Bool) (fs : List Str)
 deriving DecidableEq
inductive D where
 | sc (v : V) | hole | node (k : Kd) (o : Bool) (ds : List D)
mutual
noncomputable def shr : D -> D
 | .sc v => .sc v
 | .hole => .hole
 | .node k _ ds => .node k false (shrL ds)
noncomputable def shrL : List D -> List D
 | [] => []
 | d :: ds => shr d :: shrL ds
end
def Zc5 (K : Fg) (H : Hp) (a : Addr) (vs : List V) : Kd -> Prop
 | .lst => H a = some (.lst vs)
 | .frl => SqL K H a vs
 | .tup => H a = some (.tup vs)
 | .ftp => SqT K H a vs
 | .dic ks => ks.length = vs.length /\ H a = some (.dK (ks.zip vs))
 | .ins C fs => fs.length = vs.length /\ ∃ dx, H a = some (.ins C dx (fs.zip vs))
 | .exc ns fr fs => fs.length = vs.length /\ ∃ C dx, XN K ns C /\ H a = some (.exc C dx fr (fs.zip vs))
def Za7 (K : Fg) (H : Hp) (a : Addr) (vs : List V) : Kd -> Prop
 | .lst => H a = some (.lst vs)
 | .frl => False
 | .tup => H a = some (.tup vs)
 | .ftp => False
 | .dic ks => ks.length = vs.length /\ H a = some (.dK (ks.zip vs))
 | .ins C fs => fs.length = vs.length /\ ∃ dx, H a = some (.ins C dx (fs.zip vs))
 | .exc ns fr fs => fs.length = vs.length /\ ∃ C dx, XN K ns C /\ H a = some (.exc C dx fr (fs.zip vs))
theorem Za7.r {K : Fg} {H : Hp} {a : Addr} {vs : List V} {k : Kd} (h : Za7 K H a vs k) : Zc5 K H a vs k := by
 cases k with
 | lst => exact h
 | frl => exact h.elim
 | tup => exact h
 | ftp => exact h.elim
 | dic ks => exact h
 | ins C fs => exact h
 | exc ns fr fs => exact h
theorem Za7.at {K : Fg} {H : Hp} {a : Addr} {vs : List V} {k : Kd} (h : Za7 K H a vs k) : H a ≠ none := by
 cases k with
 | lst => rw [show H a = _ from h]; simp
 | frl => exact h.elim
 | tup => rw [show H a = _ from h]; simp
 | ftp => exact h.elim
 | dic ks => rw [h.2]; simp
 | ins C fs => obtain ⟨_, dx, e⟩ := h; rw [e]; simp
 | exc ns fr fs => obtain ⟨_, C, dx, _, e⟩ := h; rw [e]; simp
theorem Za7.eq {K : Fg} {H H' : Hp} {a : Addr} {vs : List V} {k : Kd} (h : Za7 K H a vs k) (e : H' a = H a) : Za7 K H' a vs k := by
 cases k with
 | lst => exact e.trans h
 | frl => exact h.elim
 | tup => exact e.trans h
 | ftp => exact h.elim
 | dic ks => exact ⟨h.1, e.trans h.2⟩
 | ins C fs => obtain ⟨l, dx, q⟩ := h; exact ⟨l, dx, e.trans q⟩
 | exc ns fr fs => obtain ⟨l, C, dx, x, q⟩ := h; exact ⟨l, C, dx, x, e.trans q⟩
theorem Same.tupq' {K : Fg} {H H' : Hp} {a : Addr} {xs : List V} (e : Same H H') (h : SqT K H a xs) : SqT K H' a xs := by
 rcases h with (h | ⟨o, h⟩) | h
 . exact .inl (.inl (e _ _ h))
 . exact .inl (.inr ⟨o, e _ _ h⟩)
 . exact .inr h
theorem Zc5.same {K : Fg} {H H' : Hp} {a : Addr} {vs : List V} {k : Kd} (e : Same H H') (h : Zc5 K H a vs k) : Zc5 K H' a vs k := by
 cases k with
 | lst => exact e _ _ h
 | frl => exact e.seq h
 | tup => exact e _ _ h
 | ftp => exact Same.tupq' e h
 | dic ks => exact ⟨h.1, e _ _ h.2⟩
 | ins C fs => obtain ⟨l, dx, q⟩ := h; exact ⟨l, dx, e _ _ q⟩
 | exc ns fr fs => obtain ⟨l, C, dx, x, q⟩ := h; exact ⟨l, C, dx, x, e _ _ q⟩
noncomputable abbrev Bud := Addr -> Nat
noncomputable def one (a : Addr) : Bud := fun b => if b = a then 1 else 0
mutual
inductive Rep (K : Fg) (H Hs : Hp) : V -> D -> Bud -> Prop
 | sc (v : V) (m : Bud) : Rep K H Hs v (.sc v) m
 | hole (v : V) (m : Bud) : Rep K H Hs v .hole m
 | own {a : Addr} {k : Kd} {vs : List V} {ds : List D} {m m' : Bud} : Za7 K H a vs k -> RepL K H Hs vs ds m' -> (∀ b, one a b + m' b <= m b) -> Rep K H Hs (.ref a) (.node k true ds) m
 | shd {a : Addr} {k : Kd} {vs : List V} {ds : List D} {m : Bud} : Zc5 K Hs a vs k -> RepL K H Hs vs ds (fun _ => 0) -> Rep K H Hs (.ref a) (.node k false ds) m
inductive RepL (K : Fg) (H Hs : Hp) : List V -> List D -> Bud -> Prop
 | nil (m : Bud) : RepL K H Hs [] [] m
 | cons {v : V} {d : D} {vs : List V} {ds : List D} {m1 m2 m : Bud} : Rep K H Hs v d m1 -> RepL K H Hs vs ds m2 -> (∀ b, m1 b + m2 b <= m b) -> RepL K H Hs (v :: vs) (d :: ds) m
end
structure Good (H Hs : Hp) (M : Bud) : Prop where
 sub : Same Hs H
 le : ∀ b, M b <= 1
 ne : ∀ b, M b = 1 -> Hs b = none
 has : ∀ b, M b = 1 -> H b ≠ none
structure Stp (H Hs : Hp) (M : Bud) (H' Hs' : Hp) (M' : Bud) : Prop where
 keep : ∀ b o, H b = some o -> M b = 0 -> H' b = some o
 own : ∀ b, M' b = 1 -> M b = 1 \/ H b = none
 grow : Same Hs Hs'
 shr : ∀ b, Hs b = none -> Hs' b ≠ none -> M b = 1 \/ H b = none
 stay : ∀ b, H b ≠ none -> H' b ≠ none
section
variable {K : Fg} {H Hs H' Hs' H1 Hs1 H2 Hs2 : Hp} {M M' M1 M2 m m1 m2 m' : Bud}
mutual
theorem Rep.mono : ∀ {v : V} {d : D} {m m' : Bud}, Rep K H Hs v d m -> (∀ b, m b <= m' b) -> Rep K H Hs v d m'
 | _, _, _, _, .sc v _, _ => .sc v _
 | _, _, _, _, .hole v _, _ => .hole v _
 | _, _, _, _, .own n r h, l => .own n r fun b => Nat.le_trans (h b) (l b)
 | _, _, _, _, .shd n r, _ => .shd n r
end
theorem RepL.mono {vs : List V} {ds : List D} {m m' : Bud} (h : RepL K H Hs vs ds m) (l : ∀ b, m b <= m' b) : RepL K H Hs vs ds m' := by
 cases h with
 | nil => exact .nil _
 | cons a b c => exact .cons a b fun x => Nat.le_trans (c x) (l x)
mutual
theorem Rep.frame (g : Same Hs Hs') : ∀ {v : V} {d : D} {m : Bud}, (∀ b, m b ≥ 1 -> H b ≠ none -> H' b = H b) -> Rep K H Hs v d m -> Rep K H' Hs' v d m
 | _, _, _, _, .sc v _ => .sc v _
 | _, _, _, _, .hole v _ => .hole v _
 | _, _, m, k, .own (a := a) (m' := m') n r h => by
  have h1 : m a ≥ 1 := by have := h a; simp only [one, if_pos] at this; omega
  refine .own (n.eq (k a h1 n.at)) (RepL.frame g (fun b hb hn => k b ?_ hn) r) h
  have := h b
  omega
 | _, _, _, k, .shd n r => .shd (n.same g) (RepL.frame g (fun b hb => absurd hb (by simp)) r)
theorem RepL.frame (g : Same Hs Hs') : ∀ {vs : List V} {ds : List D} {m : Bud}, (∀ b, m b ≥ 1 -> H b ≠ none -> H' b = H b) -> RepL K H Hs vs ds m -> RepL K H' Hs' vs ds m
 | _, _, _, _, .nil _ => .nil _
 | _, _, m, k, .cons (m1 := m1) (m2 := m2) x y h => by
  refine .cons (Rep.frame g (fun b hb => k b ?_) x) (RepL.frame g (fun b hb => k b ?_) y) h
  . have := h b; omega
  . have := h b; omega
end
theorem Good.drop (g : Good H Hs M) (l : ∀ b, M' b <= M b) : Good H Hs M' :=
 ⟨g.sub, fun b => Nat.le_trans (l b) (g.le b), fun b h => g.ne b (by have := l b; have := g.le b; omega), fun b h => g.has b (by have := l b; have := g.le b; omega)⟩
theorem Stp.drop (s : Stp H Hs M H' Hs' M1) (l : ∀ b, M2 b <= M1 b) (le : ∀ b, M1 b <= 1) : Stp H Hs M H' Hs' M2 :=
 ⟨s.keep, fun b h => s.own b (by have := l b; have := le b; omega), s.grow, s.shr, s.stay⟩
theorem Stp.refl (H Hs : Hp) (M : Bud) : Stp H Hs M H Hs M := ⟨fun _ _ h _ => h, fun _ h => .inl h, Same.refl _, fun _ h h' => absurd h h', fun _ h => h⟩
theorem Zr (g : Good H Hs M) (g1 : Good H1 Hs1 (fun b => m1 b + M1 b)) (s1 : Stp H Hs M H1 Hs1 (fun b => m1 b + M1 b)) (g2 : Good H2 Hs2 M2) (s2 : Stp H1 Hs1 M1 H2 Hs2 M2) :
 Good H2 Hs2 (fun b => m1 b + M2 b) /\ Stp H Hs M H2 Hs2 (fun b => m1 b + M2 b) /\ (∀ b, m1 b ≥ 1 -> H1 b ≠ none -> H2 b = H1 b) := by
 have d : ∀ b, m1 b = 1 -> M2 b = 0 := fun b h => by
  have l1 : m1 b + M1 b <= 1 := g1.le b
  have l2 := g2.le b
  have : M2 b ≠ 1 := fun e => by
   rcases s2.own b e with q | q
   . omega
   . exact g1.has b (by show m1 b + M1 b = 1; omega) q
  omega
 have k1 : ∀ b, m1 b ≥ 1 -> H1 b ≠ none -> H2 b = H1 b := fun b h n => by
  have l1 : m1 b + M1 b <= 1 := g1.le b
  cases q : H1 b with
  | none => exact absurd q n
  | some o => exact s2.keep b o q (by omega)
 refine ⟨⟨g2.sub, fun b => ?_, fun b h => ?_, fun b h => ?_⟩, ⟨fun b o e z => ?_, fun b h => ?_, s1.grow.trans s2.grow, fun b n n' => ?_, fun b n => s2.stay b (s1.stay b n)⟩, k1⟩
 . have l1 : m1 b + M1 b <= 1 := g1.le b
   have l2 := g2.le b
   show m1 b + M2 b <= 1
   by_cases h : m1 b = 1
   . have := d b h; omega
   . omega
 . have h : m1 b + M2 b = 1 := h
   have l1 : m1 b + M1 b <= 1 := g1.le b
   by_cases h1 : m1 b = 1
   . cases q : Hs2 b with
     | none => rfl
     | some o =>
      have n1 : Hs1 b = none := g1.ne b (by show m1 b + M1 b = 1; omega)
      rcases s2.shr b n1 (by rw [q]; simp) with z | z
      . omega
      . exact absurd z (g1.has b (by show m1 b + M1 b = 1; omega))
   . exact g2.ne b (by omega)
 . have h : m1 b + M2 b = 1 := h
   have l1 : m1 b + M1 b <= 1 := g1.le b
   by_cases h1 : m1 b = 1
   . have n := g1.has b (by show m1 b + M1 b = 1; omega)
     rw [k1 b (by omega) n]; exact n
   . exact g2.has b (by omega)
 . have e1 := s1.keep b o e z
   have : ¬ (m1 b + M1 b = 1) := fun q => by
    rcases s1.own b q with w | w
    . omega
    . rw [e] at w; cases w
   have l1 : m1 b + M1 b <= 1 := g1.le b
   exact s2.keep b o e1 (by omega)
 . have h : m1 b + M2 b = 1 := h
   have l1 : m1 b + M1 b <= 1 := g1.le b
   by_cases h1 : m1 b = 1
   . exact s1.own b (by show m1 b + M1 b = 1; omega)
   . rcases s2.own b (by omega) with q | q
     . exact s1.own b (by show m1 b + M1 b = 1; omega)
     . cases w : H b with
       | none => exact .inr rfl
       | some o => exact absurd q (s1.stay b (by rw [w]; simp))
 . cases q : Hs1 b with
   | some o => exact s1.shr b n (by rw [q]; simp)
   | none =>
    rcases s2.shr b q n' with z | z
    . have l1 : m1 b + M1 b <= 1 := g1.le b
      exact s1.own b (by show m1 b + M1 b = 1; omega)
    . cases w : H b with
      | none => exact .inr rfl
      | some o => exact absurd z (s1.stay b (by rw [w]; simp))
end
end T
namespace T
open PySem L2
inductive Rs (α : Type) where
 | ok (a : α) | exc (x : D) (δ : List D) | stuck
noncomputable abbrev M (α : Type) := List D -> Rs (α × List D)
noncomputable def M.ret {α : Type} (a : α) : M α := fun δ => .ok (a, δ)
noncomputable def M.bnd {α β : Type} (c : M α) (f : α -> M β) : M β := fun δ => match c δ with
 | .ok (a, δ') => f a δ'
 | .exc x δ' => .exc x δ'
 | .stuck => .stuck
noncomputable def lift {α : Type} : Option α -> M α
 | some a => M.ret a
 | none => fun _ => .stuck
noncomputable def stk {α : Type} : M α := fun _ => .stuck
inductive Ty where
 | int | bool | str | list | tuple | dict | own (C : Addr)
 deriving DecidableEq
inductive BF where
 | len | abs | str | int | bool | sum | min | max | list | tuple | all | any | sorted | isi (t : Ty) | dict | ord | isiX (c : Str) | isiV | xinit | xfld (f : Str) | cnt (v : V) | minL | maxL
 deriving DecidableEq
inductive BM where
 | split | join | get | index | count | find | replace | strip | startswith | endswith | isdigit | copy | lower | upper
 deriving DecidableEq
inductive MM where
 | append | extend | pop | popAt | reverse | clear | insert | update | popKey | remove
 deriving DecidableEq
inductive IK where
 | rng1 | rng2 | rng3 | val | valS | enum | zip | rev | items | values
 deriving DecidableEq
inductive Tg where
 | name (i : Nat) | tup (is : List Nat)
structure FI where
 lend : Bool
 run : List D -> Rs (D × List D)
inductive E where
 | k (v : V)
 | g (d : D)
 | v (i : Nat)
 | bin (op : Operator) (a b : E)
 | neg (a : E)
 | cmp (op : CmpOp) (a b : E)
 | chain (op op' : CmpOp) (a b c : E)
 | isN (p : Bool) (a : E)
 | isB (c p : Bool) (a : E)
 | nt (a : E)
 | and (a b : E)
 | or (a b : E)
 | ife (c a b : E)
 | ix (a i : E)
 | sl (a lo hi : E)
 | fld (a : E) (f : Str)
 | lst (es : List E)
 | tup (es : List E)
 | kl (vs : List V)
 | kt (vs : List V)
 | dct0
 | call (f : FI) (es : List E)
 | bf (f : BF) (es : List E)
 | bm (m : BM) (o : E) (es : List E)
 | mut (m : MM) (i : Nat) (ps : List E) (es : List E)
 | meth (A : Addr) (m : Str) (f : FI) (o : E) (es : List E)
 | new (A : Addr) (f : FI) (es : List E)
 | comp (k : Nat) (js : List Nat) (tg : Tg) (ik : IK) (ies : List E) (cond : List E) (elt : E)
 | fs (es : List E)
 | dct1 (k : Key) (e : E)
inductive YE where
 | meth (A : Addr) (m : Str) (f : FI) (o : E) (es : List E)
 | new (A : Addr) (f : FI) (es : List E)
inductive S where
 | asg (i : Nat) (e : E)
 | unp (is : List Nat) (e : E)
 | sub (i : Nat) (ps : List E) (ix : E) (e : E)
 | attr (i : Nat) (f : Str) (e : E)
 | ex (e : E)
 | ret (e : E)
 | retN
 | iff (c : E) (a b : List S)
 | for_ (tg : Tg) (ik : IK) (ies : List E) (body : List S)
 | while_ (c : E) (body : List S)
 | pass | brk | cnt
 | raise (e : E)
 | asgX (i : Nat) (f : FI) (es : List E)
 | asgY (i : Nat) (y : YE)
 | attrC (i : Nat) (f : Str) (fi : FI) (es : List E)
 | exY (y : YE)
 | retY (y : YE)
 | exX (f : FI) (es : List E)
 | retX (f : FI) (es : List E)
 | raise0 (ns : List Str)
 | raiseI (ns : List Str) (f : FI) (es : List E)
 | attrX (i : Nat) (f : Str) (e : E)
 | forX (tg : Tg) (ik : IK) (ies : List E) (body : List S)
 | try_ (body : List S) (c : Str) (nm : Option Nat) (suite : List S)
inductive Op where
 | late (i : Nat) | tmp (d : D)
inductive W where
 | sc (v : V) | nd (k : Kd) (ds : List D)
noncomputable def ZB (i : Nat) : M Op := fun δ => match δ[i]? with
 | some (.sc _) => .ok (.late i, δ)
 | some (.node _ _ _) => .ok (.late i, δ)
 | _ => .stuck
noncomputable def Zp (e : E) (c : M D) : M Op := match e with
 | .v i => ZB i
 | _ => c.bnd fun d => M.ret (.tmp d)
noncomputable def view : Op -> M W
 | .tmp (.sc v) => M.ret (.sc v)
 | .tmp (.node k _ ds) => M.ret (.nd k ds)
 | .tmp .hole => stk
 | .late i => fun δ => match δ[i]? with
  | some (.sc v) => .ok (.sc v, δ)
  | some (.node k false ds) => .ok (.nd k ds, δ)
  | some (.node k true ds) => .ok (.nd k (shrL ds), δ.set i (.node k true (shrL ds)))
  | _ => .stuck
noncomputable def views : List Op -> M (List W)
 | [] => M.ret []
 | p :: ps => (view p).bnd fun w => (views ps).bnd fun ws => M.ret (w :: ws)
noncomputable def valV (i : Nat) : M D := fun δ => match δ[i]? with
 | some (.sc v) => .ok (.sc v, δ)
 | some (.node k false ds) => .ok (.node k false ds, δ)
 | some (.node k true ds) => .ok (.node k false (shrL ds), δ.set i (.node k false (shrL ds)))
 | _ => .stuck
noncomputable def newL (ds : List D) : Option D := if ds.length <= sizeLine then some (.node .lst true ds) else none
noncomputable def newT (ds : List D) : Option D := if ds.length <= sizeLine then some (.node .tup true ds) else none
noncomputable def Zdx (f : Int -> Int -> Option D) : W -> W -> Option D
 | .sc (.int i), .sc (.int j) => f i j
 | _, _ => none
noncomputable def addW : W -> W -> Option D
 | .sc (.int i), .sc (.int j) => some (.sc (.int (i + j)))
 | .sc (.str x), .sc (.str y) => if x.length + y.length <= sizeLine then some (.sc (.str (x ++ y))) else none
 | .nd .lst xs, .nd .lst ys => newL (xs ++ ys)
 | _, _ => none
noncomputable def ZdZ : List D -> Option (List Int)
 | [] => some []
 | .sc (.int i) :: r => (ZdZ r).map (i :: ·)
 | _ => none
noncomputable def scals : List D -> Option (List V)
 | [] => some []
 | .sc v :: r => (scals r).map (v :: ·)
 | _ => none
noncomputable def mulW : W -> W -> Option D
 | .sc (.int i), .sc (.int j) => if (-(2 ^ 64) < i /\ i < 2 ^ 64) \/ (-(2 ^ 64) < j /\ j < 2 ^ 64) then some (.sc (.int (i * j))) else none
 | .nd .lst xs, .sc (.int n) => if -(2 ^ 63) <= n /\ n < 2 ^ 63 /\ xs.length * n.toNat <= sizeLine then (scals xs).map fun us => .node .lst true ((List.replicate n.toNat us).flatten.map D.sc) else none
 | _, _ => none
noncomputable def binW (op : Operator) : W -> W -> Option D := match op with
 | .Add => addW
 | .Sub => Zdx fun i j => some (.sc (.int (i - j)))
 | .Mult => mulW
 | .FloorDiv => Zdx fun i j => if 0 < j /\ j < 1073741824 then some (.sc (.int (i / j))) else none
 | .Mod => Zdx fun i j => if 0 < j then some (.sc (.int (i % j))) else none
 | .Pow => Zdx fun i j => if 0 <= j /\ j <= 1000000 /\ i.natAbs < 2 ^ 64 then some (.sc (.int (i ^ j.toNat))) else none
 | _ => fun _ _ => none
theorem Zc6 (h : Zdx f x y = some d) : ∃ i j, x = .sc (.int i) /\ y = .sc (.int j) /\ f i j = some d := by
 unfold Zdx at h
 split at h
 . exact ⟨_, _, rfl, rfl, h⟩
 . cases h
noncomputable def cmpI (op : CmpOp) (i j : Int) : Option Bool := match op with
 | .Lt => some (decide (i < j)) | .LtE => some (decide (i <= j)) | .Gt => some (decide (j < i)) | .GtE => some (decide (j <= i))
 | _ => none
mutual
noncomputable def py : D -> Option PyData
 | .sc .non => some .none
 | .sc (.bl b) => some (.bool b)
 | .sc (.int i) => some (.int i)
 | .sc (.str x) => some (.str x)
 | .node .lst _ ds => (pyL ds).map .list
 | .node .frl _ ds => (pyL ds).map .list
 | .node .tup _ ds => (pyL ds).map .tuple
 | .node .ftp _ ds => (pyL ds).map .tuple
 | _ => none
noncomputable def pyL : List D -> Option (List PyData)
 | [] => some []
 | d :: ds => (py d).bind fun a => (pyL ds).map (a :: ·)
end
noncomputable def toD : W -> D
 | .sc v => .sc v
 | .nd k ds => .node k false ds
noncomputable def eqPy (a b : PyData) : Option Bool := if SeqAt.shaped a = true /\ SeqAt.shaped b = true then some (PyData.eqv a b) else none
noncomputable def eqW : W -> W -> Option Bool
 | .sc u, .sc v => if scal u v = true then some (decide (u = v)) else (py (.sc u)).bind fun a => (py (.sc v)).bind fun b => eqPy a b
 | x, y => (py (toD x)).bind fun a => (py (toD y)).bind fun b => eqPy a b
noncomputable def cmpW : CmpOp -> W -> W -> Option Bool
 | .Eq, x, y => eqW x y
 | .NotEq, x, y => (eqW x y).map (!·)
 | op, .sc (.int i), .sc (.int j) => cmpI op i j
 | _, _, _ => none
noncomputable def ixN' (n : Nat) (i : Int) : Option Nat := if 0 <= i then (if i < n then some i.toNat else none) else if -(n : Int) <= i then some (i + n).toNat else none
noncomputable def ixW : W -> W -> Option D
 | .nd .lst ds, .sc (.int i) => (ixN' ds.length i).bind fun j => ds[j]?
 | .nd .frl ds, .sc (.int i) => (ixN' ds.length i).bind fun j => ds[j]?
 | .nd .tup ds, .sc (.int i) => (ixN' ds.length i).bind fun j => ds[j]?
 | .nd .ftp ds, .sc (.int i) => (ixN' ds.length i).bind fun j => ds[j]?
 | .sc (.str z), .sc (.int i) => if z.length <= sizeLine then ((ixN' z.cps.toList.length i).bind fun j => z.cps.toList[j]?).map fun c => .sc (.str ⟨#[c]⟩) else none
 | _, _ => none
noncomputable def keyD : V -> Option Key
 | .int i => some (.inl i)
 | .str x => some (.inr x)
 | _ => none
noncomputable def ZO {α : Type} (k : Key) : List Key -> List α -> Option α
 | j :: ks, d :: ds => if j = k then some d else ZO k ks ds
 | _, _ => none
noncomputable def Zfj {α : Type} (k : Key) (d : α) : List Key -> List α -> Option (List Key × List α)
 | [], [] => some ([k], [d])
 | j :: ks, x :: ds => if j = k then (if (ks.any fun j => decide (j = k)) = true then none else some (j :: ks, d :: ds)) else (Zfj k d ks ds).map fun r => (j :: r.1, x :: r.2)
 | _, _ => none
noncomputable def ixD : W -> W -> Option D
 | .nd (.dic ks) ds, .sc v => (keyD v).bind fun k => ZO k ks ds
 | _, _ => none
noncomputable def ixW2 : W -> W -> Option D
 | .nd (.dic ks) ds, y => ixD (.nd (.dic ks) ds) y
 | x, y => ixW x y
noncomputable def inD (p : Bool) : W -> W -> Option Bool
 | .sc v, .nd (.dic ks) ds => (keyD v).map fun k => (ZO k ks ds).isSome == p
 | _, _ => none
noncomputable def Za8 : CmpOp -> W -> W -> Option Bool
 | .In, x, y => inD true x y
 | .NotIn, x, y => inD false x y
 | op, x, y => cmpW op x y
noncomputable def Zce (f : Str) : List Str -> List D -> Option D
 | g :: fs, d :: ds => if g = f then some d else Zce f fs ds
 | _, _ => none
noncomputable def fldW (ok : Addr -> Str -> Bool) (f : Str) : W -> Option D
 | .nd (.ins C fs) ds => if ok C f then Zce f fs ds else none
 | _ => none
noncomputable def truW : W -> Option Bool
 | .sc (.bl b) => some b
 | .sc (.int i) => some (decide (i ≠ 0))
 | .sc (.str x) => if x.length <= sizeLine then some (decide (x.length ≠ 0)) else none
 | .sc .non => some false
 | .nd .lst ds => some (!ds.isEmpty)
 | .nd .frl ds => some (!ds.isEmpty)
 | .nd .tup ds => some (!ds.isEmpty)
 | .nd .ftp ds => some (!ds.isEmpty)
 | .nd (.dic _) ds => some (!ds.isEmpty)
 | _ => none
noncomputable def tyW : Ty -> W -> Option Bool
 | .int, .sc (.int _) => some true | .int, .sc (.bl _) => some true | .int, .sc (.str _) => some false | .int, .sc .non => some false
 | .int, .nd .lst _ => some false | .int, .nd .tup _ => some false
 | .bool, .sc (.bl _) => some true | .bool, .sc (.int _) => some false | .bool, .sc (.str _) => some false | .bool, .sc .non => some false
 | .bool, .nd .lst _ => some false | .bool, .nd .tup _ => some false
 | .str, .sc (.str _) => some true | .str, .sc (.int _) => some false | .str, .sc (.bl _) => some false | .str, .sc .non => some false
 | .str, .nd (.dic _) _ => some false | .str, .nd .lst _ => some false | .str, .nd .tup _ => some false
 | .list, .nd .lst _ => some true | .list, .nd .tup _ => some false | .list, .sc (.int _) => some false | .list, .sc (.bl _) => some false | .list, .sc (.str _) => some false | .list, .sc .non => some false
 | .tuple, .nd .tup _ => some true | .tuple, .nd .lst _ => some false | .tuple, .sc (.int _) => some false | .tuple, .sc (.bl _) => some false | .tuple, .sc (.str _) => some false | .tuple, .sc .non => some false
 | _, _ => none
noncomputable def ZaH : List D -> Option (List Bool)
 | [] => some []
 | .sc (.bl b) :: r => (ZaH r).map (b :: ·)
 | _ => none
noncomputable def cutD (xs : List D) (lo hi : Option Int) : List D := (xs.drop (HT.sIx xs.length 0 lo)).take (HT.sIx xs.length xs.length hi - HT.sIx xs.length 0 lo)
noncomputable def slD : W -> Option Int -> Option Int -> Option D
 | .nd .lst ds, lo, hi => some (.node .lst true (cutD ds lo hi))
 | .nd .frl ds, lo, hi => some (.node .lst true (cutD ds lo hi))
 | .sc (.str z), lo, hi => if z.length <= sizeLine then some (.sc (.str (Txt.slice z lo hi))) else none
 | _, _, _ => none
noncomputable def intP : W -> Option (Option Int)
 | .sc (.int i) => some (some i)
 | _ => none
noncomputable def ZaS (e : E) (c : M Op) : M (Option Int) := match e with
 | .k .non => M.ret none
 | _ => (c.bnd view).bnd fun w => lift (intP w)
noncomputable def Zb7 : List D -> Option (List Str)
 | [] => some []
 | .sc (.str x) :: r => (Zb7 r).map (x :: ·)
 | _ => none
noncomputable def lenB : List W -> Option D
 | [.nd .lst ds] => some (.sc (.int ds.length))
 | [.nd .frl ds] => some (.sc (.int ds.length))
 | [.nd .tup ds] => some (.sc (.int ds.length))
 | [.nd .ftp ds] => some (.sc (.int ds.length))
 | [.nd (.dic _) ds] => some (.sc (.int ds.length))
 | [.sc (.str x)] => if x.length <= sizeLine then some (.sc (.int x.length)) else none
 | _ => none
noncomputable def absB : List W -> Option D
 | [.sc (.int i)] => some (.sc (.int (if i < 0 then -i else i)))
 | _ => none
noncomputable def strB : List W -> Option D
 | [.sc (.int i)] => if i.natAbs.log2 < 1920 then some (.sc (.str (Str.ofString (toString i)))) else none
 | _ => none
noncomputable def intB : List W -> Option D
 | [.sc (.int i)] => some (.sc (.int i))
 | [.sc (.bl b)] => some (.sc (.int (if b then 1 else 0)))
 | [.sc (.str z)] => match intText? z with
  | some n => if z.length <= 640 then some (.sc (.int n)) else none
  | none => none
 | _ => none
noncomputable def Zo8 : List W -> Option D
 | [.nd .lst ds] => some (.node .lst true ds)
 | [.nd .frl ds] => some (.node .lst true ds)
 | [.nd .tup ds] => some (.node .lst true ds)
 | [.nd .ftp ds] => some (.node .lst true ds)
 | _ => none
noncomputable def Zm2 : List W -> Option D
 | [.nd .lst ds] => some (.node .tup true ds)
 | _ => none
noncomputable def isiB (t : Ty) : List W -> Option D
 | [w] => (tyW t w).map fun b => .sc (.bl b)
 | _ => none
noncomputable def allB : List W -> Option D
 | [.nd .lst ds] => (ZaH ds).map fun bs => .sc (.bl (bs.all id))
 | _ => none
noncomputable def anyB : List W -> Option D
 | [.nd .lst ds] => (ZaH ds).map fun bs => .sc (.bl (bs.any id))
 | _ => none
noncomputable def sumB : List W -> Option D
 | [.nd .lst ds] => (ZdZ ds).map fun is => .sc (.int is.sum)
 | _ => none
noncomputable def minB : List W -> Option D
 | [.sc (.int i), .sc (.int j)] => some (.sc (.int (if j < i then j else i)))
 | _ => none
noncomputable def maxB : List W -> Option D
 | [.sc (.int i), .sc (.int j)] => some (.sc (.int (if j > i then j else i)))
 | _ => none
noncomputable def Zhg (c : Str) : List W -> Option D
 | [.nd (.exc ns _ _) _] => some (.sc (.bl (decide (c ∈ ns))))
 | _ => none
noncomputable def Zhh : List W -> Option D
 | [.nd (.exc _ _ _) _] => some (.sc (.bl true))
 | _ => none
noncomputable def Zf6 : List W -> Option D
 | [.nd (.exc _ _ _) _, .sc _] => some (.sc .non)
 | _ => none
noncomputable def Zhi (f : Str) : List W -> Option D
 | [.nd (.exc _ _ fs) ds] => if f ∈ Zdw then Zce f fs ds else none
 | _ => none
noncomputable def ZjM : List D -> Option (List V)
 | [] => some []
 | .sc u :: r => if Zov u = true then (ZjM r).map (u :: ·) else none
 | _ => none
noncomputable def cntB (v : V) : List W -> Option D
 | [.nd .lst ds] => (ZjM ds).map fun us => .sc (.int ((us.countP fun u => eqV u v : Nat) : Int))
 | _ => none
noncomputable def Zo9 : List W -> Option D
 | [.nd .lst ds] => (ZdZ ds).bind fun is => match is with
  | [] => none
  | i :: is => some (.sc (.int (is.foldl (fun a b => if b < a then b else a) i)))
 | _ => none
noncomputable def ZoA : List W -> Option D
 | [.nd .lst ds] => (ZdZ ds).bind fun is => match is with
  | [] => none
  | i :: is => some (.sc (.int (is.foldl (fun a b => if b > a then b else a) i)))
 | _ => none
noncomputable def bfW : BF -> List W -> Option D
 | .len, ws => lenB ws
 | .abs, ws => absB ws
 | .str, ws => strB ws
 | .int, ws => intB ws
 | .list, ws => Zo8 ws
 | .tuple, ws => Zm2 ws
 | .isi t, ws => isiB t ws
 | .all, ws => allB ws
 | .any, ws => anyB ws
 | .sum, ws => sumB ws
 | .min, ws => minB ws
 | .max, ws => maxB ws
 | .isiX c, ws => Zhg c ws
 | .isiV, ws => Zhh ws
 | .xinit, ws => Zf6 ws
 | .xfld f, ws => Zhi f ws
 | .cnt v, ws => cntB v ws
 | .minL, ws => Zo9 ws
 | .maxL, ws => ZoA ws
 | _, _ => none
noncomputable def strW : W -> Option Str
 | .sc (.str z) => some z
 | _ => none
noncomputable def bmW : BM -> Str -> List W -> Option D
 | .split, z, [.sc (.str s)] => if s.cps.size = 1 /\ z.length + 2 <= sizeLine then some (.node .lst true ((Txt.split z s).map fun x => .sc (.str x))) else none
 | .join, z, [.nd .lst ds] => (Zb7 ds).bind fun ts => if JoinOk z ts = true then some (.sc (.str (Txt.join z ts))) else none
 | _, _, _ => none
noncomputable def rng (a b : Int) : List D := (List.range (b - a).toNat).map fun (k : Nat) => .sc (.int (a + k))
noncomputable def okR (i : Int) : Bool := decide (-(2 ^ 62) <= i) && decide (i < 2 ^ 62)
noncomputable def ZjN : Int -> List D -> List D
 | _, [] => []
 | c, d :: ds => .node .tup false [.sc (.int c), d] :: ZjN (c + 1) ds
noncomputable def zipD : List D -> List D -> List D
 | d :: ds, e :: es => .node .tup false [d, e] :: zipD ds es
 | _, _ => []
noncomputable def zipI : List W -> Option (List D)
 | [.nd k ds, .nd k' es] => if (k = .lst \/ k = .frl) /\ (k' = .lst \/ k' = .frl) then some (zipD ds es) else none
 | _ => none
noncomputable def ZoB : List W -> Option (List D)
 | [.nd k ds, .sc (.int c)] => if (k = .lst \/ k = .frl) /\ okR c = true then some (ZjN c ds) else none
 | _ => none
noncomputable def Zhj : List W -> Option (List D)
 | [.sc (.int n)] => if okR n then some (rng 0 n) else none
 | _ => none
noncomputable def Zhk : List W -> Option (List D)
 | [.sc (.int a), .sc (.int b)] => if okR a && okR b then some (rng a b) else none
 | _ => none
noncomputable def valI : List W -> Option (List D)
 | [.nd .lst ds] => some ds
 | [.nd .frl ds] => some ds
 | [.nd .tup ds] => some ds
 | [.nd .ftp ds] => some ds
 | [.sc (.str x)] => some (x.cps.toList.map fun c => .sc (.str ⟨#[c]⟩))
 | _ => none
noncomputable def itW : IK -> List W -> Option (List D)
 | .zip, ws => zipI ws
 | .enum, ws => ZoB ws
 | .rng1, ws => Zhj ws
 | .rng2, ws => Zhk ws
 | .val, ws => valI ws
 | _, _ => none
noncomputable def holdV : Op -> M (W × Option (Nat × D))
 | .tmp (.sc v) => M.ret (.sc v, none)
 | .tmp (.node k _ ds) => M.ret (.nd k (shrL ds), none)
 | .tmp .hole => stk
 | .late i => fun δ => match δ[i]? with
  | some (.sc v) => .ok ((.sc v, none), δ)
  | some (.node k false ds) => .ok ((.nd k ds, none), δ)
  | some (.node k true ds) => .ok ((.nd k (shrL ds), some (i, .node k true (shrL ds))), δ.set i .hole)
  | _ => .stuck
noncomputable def Zw : List Op -> M (List W × List (Nat × D))
 | [] => M.ret ([], [])
 | p :: ps => (holdV p).bnd fun w => (Zw ps).bnd fun ws => M.ret (w.1 :: ws.1, w.2.toList ++ ws.2)
noncomputable def ZA : List (Nat × D) -> M Unit
 | [] => M.ret ()
 | (i, d) :: r => fun δ => ZA r (δ.set i d)
noncomputable def walked : List E -> Nat -> Bool
 | [], _ => false
 | .v i :: r, j => i == j || walked r j
 | _ :: r, j => walked r j
noncomputable def takeA (lend : Bool) : Op -> M D
 | .tmp d => M.ret d
 | .late i => fun δ => match δ[i]? with
  | some (.sc v) => .ok (.sc v, δ)
  | some (.node k false ds) => .ok (.node k false ds, δ)
  | some (.node k true ds) => if lend then .ok (.node k true ds, δ.set i .hole) else .ok (.node k false (shrL ds), δ.set i (.node k false (shrL ds)))
  | _ => .stuck
noncomputable def ZI (lend : Bool) : List Op -> M (List D)
 | [] => M.ret []
 | p :: ps => (takeA lend p).bnd fun d => (ZI lend ps).bnd fun ds => M.ret (d :: ds)
noncomputable def giveA : Op -> D -> M Unit
 | .tmp _, _ => M.ret ()
 | .late i, d => fun δ => match δ[i]? with
  | some .hole => .ok ((), δ.set i d)
  | _ => .ok ((), δ)
noncomputable def Z0 : List Op -> List D -> M Unit
 | p :: ps, d :: ds => (giveA p d).bnd fun _ => Z0 ps ds
 | _, _ => M.ret ()
noncomputable def ZaI (fi : FI) (ps : List Op) : M D := (ZI fi.lend ps).bnd fun ds => match fi.run ds with
 | .ok (d, ds') => (Z0 ps ds').bnd fun _ => M.ret d
 | .exc _ _ => stk
 | .stuck => stk
noncomputable def ZaJ (fi : FI) (ps : List Op) : M D := (ZI fi.lend ps).bnd fun ds => match fi.run ds with
 | .ok (d, ds') => (Z0 ps ds').bnd fun _ => M.ret d
 | .exc x ds' => fun δ => match Z0 ps ds' δ with
  | .ok (_, δ') => .exc x δ'
  | _ => .stuck
 | .stuck => stk
noncomputable def chkI (A : Addr) (m : Str) : Op -> M Unit
 | .late i => fun δ => match δ[i]? with
  | some (.node (.ins B fs) _ _) => if B = A /\ m ∉ fs then .ok ((), δ) else .stuck
  | _ => .stuck
 | .tmp (.node (.ins B fs) _ _) => fun δ => if B = A /\ m ∉ fs then .ok ((), δ) else .stuck
 | _ => stk
noncomputable def newF (C : Addr) (fi : FI) (ps : List Op) : M D := (ZI fi.lend ps).bnd fun ds => match fi.run (.node (.ins C []) true [] :: ds) with
 | .ok (.sc .non, d :: ds') => (Z0 ps ds').bnd fun _ => M.ret d
 | .ok _ => stk
 | .exc _ _ => stk
 | .stuck => stk
noncomputable def newX (ns : List Str) (fi : FI) (ps : List Op) : M D := if 1000 < ps.length then stk else (ZI fi.lend ps).bnd fun ds => match fi.run (.node (.exc ns true []) true [] :: ds) with
 | .ok (.sc .non, d :: ds') => (Z0 ps ds').bnd fun _ => M.ret d
 | .ok _ => stk
 | .exc _ _ => stk
 | .stuck => stk
noncomputable def Zb8 {α : Type} : D -> M α
 | .node (.exc ns true fs) true ds => fun δ => .exc (.node (.exc ns false fs) true ds) δ
 | _ => stk
noncomputable def asgN (lock : Nat -> Bool) (i : Nat) (d : D) : M Unit := fun δ => if i < δ.length && !lock i then .ok ((), δ.set i d) else .stuck
noncomputable def Zbb (lock : Nat -> Bool) : List Nat -> List D -> M Unit
 | [], [] => M.ret ()
 | i :: is, d :: ds => (asgN lock i d).bnd fun _ => Zbb lock is ds
 | _, _ => stk
noncomputable def asgT (lock : Nat -> Bool) : Tg -> D -> M Unit
 | .name i, d => asgN lock i d
 | .tup is, .node .tup _ ds => Zbb lock is ds
 | .tup _, _ => stk
noncomputable def modS (i : Nat) (f : Kd -> List D -> Option (D × Kd × List D)) : M D := fun δ => match δ[i]? with
 | some (.node k true ds) => match f k ds with
  | some (r, k', ds') => .ok (r, δ.set i (.node k' true ds'))
  | none => .stuck
 | _ => .stuck
noncomputable def mutD : MM -> List W -> Kd -> List D -> Option (D × Kd × List D)
 | .extend, [.nd .lst es], .lst, ds => if ds.length + es.length <= sizeLine then some (.sc .non, .lst, ds ++ es) else none
 | .pop, [], .lst, ds => ds.getLast?.map fun d => (d, .lst, ds.dropLast)
 | .popAt, [.sc (.int i)], .lst, ds => if -(2 ^ 63) <= i /\ i < 2 ^ 63 then (ixN' ds.length i).bind fun j => ds[j]?.map fun d => (d, .lst, ds.eraseIdx j) else none
 | .reverse, [], .lst, ds => some (.sc .non, .lst, ds.reverse)
 | .clear, [], .lst, _ => some (.sc .non, .lst, [])
 | _, _, _, _ => none
noncomputable def appD (d : D) : Kd -> List D -> Option (D × Kd × List D)
 | .lst, ds => if ds.length < sizeLine then some (.sc .non, .lst, ds ++ [d]) else none
 | _, _ => none
noncomputable def appM (i : Nat) : List D -> M D
 | [d] => modS i (appD d)
 | _ => stk
noncomputable def chkL (i : Nat) : M Unit := fun δ => match δ[i]? with
 | some (.node .lst _ _) => .ok ((), δ)
 | _ => .stuck
noncomputable def setD (w : W) (d : D) : Kd -> List D -> Option (D × Kd × List D)
 | .lst, ds => match w with
  | .sc (.int i) => (ixN' ds.length i).map fun j => (.sc .non, .lst, ds.set j d)
  | _ => none
 | _, _ => none
noncomputable def Zea (w : W) (d : D) : Kd -> List D -> Option (D × Kd × List D)
 | .dic ks, ds => match w with
  | .sc v => if ds.length < sizeLine then (keyD v).bind fun k => (Zfj k d ks ds).map fun r => (.sc .non, .dic r.1, r.2) else none
  | _ => none
 | k, ds => setD w d k ds
noncomputable def putN (f : Str) : List Str -> List Str
 | [] => [f]
 | g :: r => if g = f then g :: r else g :: putN f r
noncomputable def putV {α : Type} (f : Str) (d : α) : List Str -> List α -> List α
 | g :: r, x :: ds => if g = f then d :: ds else x :: putV f d r ds
 | _, _ => [d]
noncomputable def putD (ok : Addr -> Str -> Bool) (f : Str) (d : D) : Kd -> List D -> Option (D × Kd × List D)
 | .ins C fs, ds => if fs.length < 1000 /\ ok C f = true then some (.sc .non, .ins C (putN f fs), putV f d fs ds) else none
 | _, _ => none
noncomputable def putX (f : Str) (d : D) : Kd -> List D -> Option (D × Kd × List D)
 | .exc ns fr fs, ds => if fs.length < 1000 /\ f ∈ Zdw then some (.sc .non, .exc ns fr (putN f fs), putV f d fs ds) else none
 | _, _ => none
structure Ctx where
 lock : Nat -> Bool
 fok : Addr -> Str -> Bool
 fuel : Nat
noncomputable def Zbs : List Nat -> M (List D)
 | [] => M.ret []
 | j :: js => fun δ => match δ[j]? with
  | some d => ((Zbs js).bnd fun ds => M.ret (d :: ds)) (δ.set j .hole)
  | none => .stuck
noncomputable def ZaK : List Nat -> List D -> M Unit
 | j :: js, d :: ds => fun δ => ZaK js ds (δ.set j d)
 | _, _ => M.ret ()
noncomputable def Zab (asg : D -> M Unit) (cond : M Bool) (elt : M D) : List D -> List D -> M (List D)
 | [], acc => M.ret acc
 | d :: ds, acc => (asg d).bnd fun _ => cond.bnd fun b => if b then elt.bnd fun x => Zab asg cond elt ds (acc ++ [x]) else Zab asg cond elt ds acc
noncomputable def Za1 (k : Nat) (js : List Nat) (loop : M (List D)) : M D := (Zbs js).bnd fun caps δ => match loop (List.replicate k .hole ++ caps) with
 | .ok (acc, δ') => ((ZaK js (δ'.drop k)).bnd fun _ => lift (newL acc)) δ
 | .exc _ _ => .stuck
 | .stuck => .stuck
noncomputable def fmtD : V -> Option Str
 | .int i => if i.natAbs.log2 < 1920 then some (Str.ofString (toString i)) else none
 | .str x => some x
 | .non => some (Str.ofString "None")
 | _ => none
noncomputable def fmtW (acc : Str) : W -> Option Str
 | .sc v => (fmtD v).bind fun z => if z.length <= sizeLine /\ (acc ++ z).length <= sizeLine then some (acc ++ z) else none
 | _ => none
noncomputable def isNW (p : Bool) : W -> D
 | .sc v => .sc (.bl (decide (v = .non) == p))
 | .nd _ _ => .sc (.bl (!p))
noncomputable def isBW (c p : Bool) : W -> Option D
 | .sc (.bl b) => some (.sc (.bl ((b == c) == p)))
 | _ => none
noncomputable def negW : W -> Option D
 | .sc (.int i) => some (.sc (.int (-i)))
 | _ => none
noncomputable def notW : W -> Option D
 | .sc (.bl t) => some (.sc (.bl (!t)))
 | _ => none
noncomputable def andM (b : M D) : W -> M D
 | .sc (.bl true) => b
 | .sc (.bl false) => M.ret (.sc (.bl false))
 | _ => stk
noncomputable def orM (b : M D) : W -> M D
 | .sc (.bl false) => b
 | .sc (.bl true) => M.ret (.sc (.bl true))
 | _ => stk
noncomputable def ZbI (c : M D) : M Bool := c.bnd fun d => lift (match d with | .sc (.bl b) => some b | _ => none)
noncomputable def tdef (e : E) (c : M D) : M Bool := (Zp e c).bnd fun p => (view p).bnd fun w => lift (truW w)
noncomputable def vdef (e : E) (c : M D) : M W := (Zp e c).bnd view
mutual
noncomputable def evb (C : Ctx) : E -> M D × M Bool
 | .k v => let c : M D := M.ret (.sc v); (c, tdef (.k v) c)
 | .g d => let c : M D := M.ret d; (c, tdef (.g d) c)
 | .v i => (valV i, tdef (.v i) (valV i))
 | .bin op a b =>
  let c : M D := (Zp a (evb C a).1).bnd fun p => (Zp b (evb C b).1).bnd fun q => (view p).bnd fun x => (view q).bnd fun y => lift (binW op x y)
  (c, tdef (.bin op a b) c)
 | .neg a =>
  let c : M D := (vdef a (evb C a).1).bnd fun x => lift (negW x)
  (c, tdef (.neg a) c)
 | .cmp op a b =>
  let c : M D := (Zp a (evb C a).1).bnd fun p => (Zp b (evb C b).1).bnd fun q => (view p).bnd fun x => (view q).bnd fun y => lift ((Za8 op x y).map fun t => .sc (.bl t))
  (c, ZbI c)
 | .chain op op' a b e =>
  let c : M D := (Zp a (evb C a).1).bnd fun p => (Zp b (evb C b).1).bnd fun q => (view p).bnd fun x => (view q).bnd fun y => (lift (cmpW op x y)).bnd fun t => if t then (Zp e (evb C e).1).bnd fun r => (view q).bnd fun y => (view r).bnd fun z => lift ((cmpW op' y z).map fun t => .sc (.bl t)) else M.ret (.sc (.bl false))
  (c, ZbI c)
 | .isN p a =>
  let c : M D := (vdef a (evb C a).1).bnd fun x => M.ret (isNW p x)
  (c, tdef (.isN p a) c)
 | .isB c p a =>
  let r : M D := (vdef a (evb C a).1).bnd fun x => lift (isBW c p x)
  (r, tdef (.isB c p a) r)
 | .nt a => ((vdef a (evb C a).1).bnd fun w => lift (notW w), (evb C a).2.bnd fun b => M.ret (!b))
 | .and a b => ((vdef a (evb C a).1).bnd (andM (evb C b).1), (evb C a).2.bnd fun t => if t then (evb C b).2 else M.ret false)
 | .or a b => ((vdef a (evb C a).1).bnd (orM (evb C b).1), (evb C a).2.bnd fun t => if t then M.ret true else (evb C b).2)
 | .ife c a b =>
  let r : M D := (evb C c).2.bnd fun t => if t then (evb C a).1 else (evb C b).1
  (r, tdef (.ife c a b) r)
 | .ix a i =>
  let c : M D := (Zp a (evb C a).1).bnd fun p => (Zp i (evb C i).1).bnd fun q => (view p).bnd fun x => (view q).bnd fun y => lift (ixW2 x y)
  (c, tdef (.ix a i) c)
 | .sl a lo hi =>
  let c : M D := (Zp a (evb C a).1).bnd fun p => (ZaS lo (Zp lo (evb C lo).1)).bnd fun l => (ZaS hi (Zp hi (evb C hi).1)).bnd fun h => (view p).bnd fun x => lift (slD x l h)
  (c, tdef (.sl a lo hi) c)
 | .fld a f =>
  let c : M D := (vdef a (evb C a).1).bnd fun x => lift (fldW C.fok f x)
  (c, tdef (.fld a f) c)
 | .lst es =>
  let c : M D := (evs C es).bnd fun ds => lift (newL ds)
  (c, tdef (.lst es) c)
 | .tup es =>
  let c : M D := (evs C es).bnd fun ds => lift (newT ds)
  (c, tdef (.tup es) c)
 | .kl vs =>
  let c : M D := lift (newL (vs.map D.sc))
  (c, tdef (.kl vs) c)
 | .kt vs =>
  let c : M D := lift (newT (vs.map D.sc))
  (c, tdef (.kt vs) c)
 | .dct0 =>
  let c : M D := M.ret (.node (.dic []) true [])
  (c, tdef .dct0 c)
 | .call f es =>
  let c : M D := (opds C es).bnd fun ps => ZaI f ps
  (c, tdef (.call f es) c)
 | .bf f es =>
  let c : M D := (opds C es).bnd fun ps => (views ps).bnd fun ws => lift (bfW f ws)
  (c, tdef (.bf f es) c)
 | .bm m o es =>
  let c : M D := (vdef o (evb C o).1).bnd fun w => (lift (strW w)).bnd fun z => (opds C es).bnd fun ps => (views ps).bnd fun ws => lift (bmW m z ws)
  (c, tdef (.bm m o es) c)
 | .mut m i ps es =>
  let c : M D := match m, ps with
   | .append, [] => (chkL i).bnd fun _ => (evs C es).bnd fun ds => appM i ds
   | m, [] => (chkL i).bnd fun _ => (opds C es).bnd fun ps => (views ps).bnd fun ws => modS i (mutD m ws)
   | _, _ => stk
  (c, tdef (.mut m i ps es) c)
 | .meth A m f o es =>
  let c : M D := (Zp o (evb C o).1).bnd fun p => (chkI A m p).bnd fun _ => (opds C es).bnd fun ps => ZaI f (p :: ps)
  (c, tdef (.meth A m f o es) c)
 | .new A f es =>
  let c : M D := (opds C es).bnd fun ps => newF A f ps
  (c, tdef (.new A f es) c)
 | .comp k js tg ik ies cond elt =>
  let C' : Ctx := { C with lock := fun i => decide (k <= i) }
  let loop (items : List D) : M (List D) := Zab (asgT C'.lock tg) (tsts C' cond) (evb C' elt).1 items []
  let c : M D := (opds C ies).bnd fun ps => (Zw ps).bnd fun h => (lift (itW ik h.1)).bnd fun items => (Za1 k js (loop items)).bnd fun d => (ZA h.2).bnd fun _ => M.ret d
  (c, tdef (.comp k js tg ik ies cond elt) c)
 | .fs es =>
  let c : M D := fss C es Str.empty
  (c, tdef (.fs es) c)
 | .dct1 k e =>
  let c : M D := (evb C e).1.bnd fun d => M.ret (.node (.dic [k]) true [d])
  (c, tdef (.dct1 k e) c)
noncomputable def fss (C : Ctx) : List E -> Str -> M D
 | [], acc => M.ret (.sc (.str acc))
 | e :: es, acc => (vdef e (evb C e).1).bnd fun w => (lift (fmtW acc w)).bnd fun acc' => fss C es acc'
noncomputable def opds (C : Ctx) : List E -> M (List Op)
 | [] => M.ret []
 | e :: es => (Zp e (evb C e).1).bnd fun p => (opds C es).bnd fun ps => M.ret (p :: ps)
noncomputable def evs (C : Ctx) : List E -> M (List D)
 | [] => M.ret []
 | e :: es => (evb C e).1.bnd fun p => (evs C es).bnd fun ps => M.ret (p :: ps)
noncomputable def tsts (C : Ctx) : List E -> M Bool
 | [] => M.ret true
 | e :: es => (evb C e).2.bnd fun b => if b then tsts C es else M.ret false
end
noncomputable abbrev ev (C : Ctx) (e : E) : M D := (evb C e).1
noncomputable abbrev tst (C : Ctx) (e : E) : M Bool := (evb C e).2
noncomputable def makX (A : Addr) (fi : FI) (ps : List Op) : M D := (ZI fi.lend ps).bnd fun ds => match fi.run (.node (.ins A []) true [] :: ds) with
 | .ok (.sc .non, d :: ds') => (Z0 ps ds').bnd fun _ => M.ret d
 | .exc x (_ :: ds') => fun δ => match Z0 ps ds' δ with
  | .ok (_, δ') => .exc x δ'
  | _ => .stuck
 | _ => stk
noncomputable def yev (C : Ctx) : YE -> M D
 | .meth A m f o es => (Zp o (evb C o).1).bnd fun p => (chkI A m p).bnd fun _ => (opds C es).bnd fun ps => ZaJ f (p :: ps)
 | .new A f es => (opds C es).bnd fun ps => makX A f ps
inductive Fl where
 | nx | rt (d : D) | bk | ct
noncomputable def forL (asg : D -> M Unit) (body : M Fl) : List D -> M Fl
 | [] => M.ret .nx
 | d :: ds => (asg d).bnd fun _ => body.bnd fun f => match f with
  | .nx => forL asg body ds
  | .ct => forL asg body ds
  | .bk => M.ret .nx
  | .rt x => M.ret (.rt x)
noncomputable def Zf7 (c : M Bool) (body : M Fl) : Nat -> M Fl
 | 0 => stk
 | n + 1 => c.bnd fun b => if b then body.bnd fun f => match f with
  | .nx => Zf7 c body n
  | .ct => Zf7 c body n
  | .bk => M.ret .nx
  | .rt x => M.ret (.rt x)
  else M.ret .nx
noncomputable def movV (i : Nat) : M D := fun δ => match δ[i]? with
 | some (.sc v) => .ok (.sc v, δ)
 | some (.node k o ds) => .ok (.node k o ds, δ.set i .hole)
 | _ => .stuck
noncomputable def retV (C : Ctx) (e : E) : M D := match e with
 | .v i => if C.lock i then valV i else movV i
 | e => ev C e
noncomputable def seqL (c : M Fl) (r : M Fl) : M Fl := c.bnd fun f => match f with
 | .nx => r
 | f => M.ret f
noncomputable def unpM (lock : Nat -> Bool) (is : List Nat) : W -> M Unit
 | .nd .tup ds => Zbb lock is ds
 | .nd .lst ds => Zbb lock is ds
 | _ => stk
noncomputable def finB (h : List (Nat × D)) : Rs (Fl × List D) -> Rs (Fl × List D)
 | .ok (f, δ) => ((ZA h).bnd fun _ => M.ret f) δ
 | .exc x δ => (match ZA h δ with
  | .ok (_, δ') => .exc x δ'
  | _ => .stuck)
 | .stuck => .stuck
noncomputable def hits (c : Str) : D -> Bool
 | .node (.exc ns false _) true _ => decide (c ∈ ns)
 | _ => false
noncomputable def Zhl (i : Nat) : Rs (Fl × List D) -> Rs (Fl × List D)
 | .ok (f, δ) => .ok (f, δ.set i .hole)
 | .exc _ _ => .stuck
 | .stuck => .stuck
noncomputable def tryM (lock : Nat -> Bool) (body : M Fl) (c : Str) (nm : Option Nat) (suite : M Fl) : M Fl := fun δ => match body δ with
 | .ok r => .ok r
 | .stuck => .stuck
 | .exc x δ' => if hits c x then (match nm with
  | none => (match suite δ' with
   | .exc _ _ => .stuck
   | r => r)
  | some i => if i < δ'.length && !lock i then Zhl i (suite (δ'.set i x)) else .stuck) else .stuck
mutual
noncomputable def ex (C : Ctx) : S -> M Fl
 | .asg i e => (ev C e).bnd fun d => (asgN C.lock i d).bnd fun _ => M.ret .nx
 | .unp is e => (vdef e (ev C e)).bnd fun w => (unpM C.lock is w).bnd fun _ => M.ret .nx
 | .sub i ps ix e => match ps with
  | [] => (ev C e).bnd fun d => (ZB i).bnd fun _ => (vdef ix (ev C ix)).bnd fun w => (modS i (Zea w d)).bnd fun _ => M.ret .nx
  | _ => stk
 | .attr i f e => (ev C e).bnd fun d => (ZB i).bnd fun _ => (modS i (putD C.fok f d)).bnd fun _ => M.ret .nx
 | .ex e => (ev C e).bnd fun _ => M.ret .nx
 | .ret e => (retV C e).bnd fun d => M.ret (.rt d)
 | .retN => M.ret (.rt (.sc .non))
 | .iff c a b => (tst C c).bnd fun t => if t then exs C a else exs C b
 | .for_ tg ik ies body =>
  let lk : Nat -> Bool := fun j => C.lock j || walked ies j
  (opds C ies).bnd fun ps => (Zw ps).bnd fun h => (lift (itW ik h.1)).bnd fun items => (forL (asgT lk tg) (exs { C with lock := lk } body) items).bnd fun f => (ZA h.2).bnd fun _ => M.ret f
 | .while_ c body => Zf7 (tst C c) (exs C body) C.fuel
 | .pass => M.ret .nx
 | .brk => M.ret .bk
 | .cnt => M.ret .ct
 | .raise _ => stk
 | .attrC i f fi es => ((opds C es).bnd fun ps => ZaJ fi ps).bnd fun d => (ZB i).bnd fun _ => (modS i (putD C.fok f d)).bnd fun _ => M.ret .nx
 | .asgY i y => (yev C y).bnd fun d => (asgN C.lock i d).bnd fun _ => M.ret .nx
 | .exY y => (yev C y).bnd fun _ => M.ret .nx
 | .retY y => (yev C y).bnd fun d => M.ret (.rt d)
 | .asgX i f es => ((opds C es).bnd fun ps => ZaJ f ps).bnd fun d => (asgN C.lock i d).bnd fun _ => M.ret .nx
 | .exX f es => ((opds C es).bnd fun ps => ZaJ f ps).bnd fun _ => M.ret .nx
 | .retX f es => ((opds C es).bnd fun ps => ZaJ f ps).bnd fun d => M.ret (.rt d)
 | .raise0 ns => Zb8 (.node (.exc ns true []) true [])
 | .raiseI ns f es => ((opds C es).bnd fun ps => newX ns f ps).bnd Zb8
 | .attrX i f e => (ev C e).bnd fun d => (ZB i).bnd fun _ => (modS i (putX f d)).bnd fun _ => M.ret .nx
 | .forX tg ik ies body =>
  let lk : Nat -> Bool := fun j => C.lock j || walked ies j
  (opds C ies).bnd fun ps => (Zw ps).bnd fun h => (lift (itW ik h.1)).bnd fun items δ => finB h.2 (forL (asgT lk tg) (exs { C with lock := lk } body) items δ)
 | .try_ body c nm suite => tryM C.lock (exs C body) c nm (exs C suite)
noncomputable def exs (C : Ctx) : List S -> M Fl
 | [] => M.ret .nx
 | s :: r => seqL (ex C s) (exs C r)
end
noncomputable def ZE (n : Nat) : Rs (Fl × List D) -> Rs (D × List D)
 | .ok (.rt d, δ) => .ok (d, δ.take n)
 | .ok (.nx, δ) => .ok (.sc .non, δ.take n)
 | .ok _ => .stuck
 | .exc x δ => .exc x (δ.take n)
 | .stuck => .stuck
noncomputable def Zu (C : Ctx) (n N : Nat) (body : List S) (ds : List D) : Rs (D × List D) :=
 if ds.length = n then ZE n (exs { C with lock := fun i => decide (i < n) } body (ds ++ List.replicate (N - n) .hole)) else .stuck
end T
namespace T
open PySem L2
inductive Sep {α : Type} (R : α -> D -> Bud -> Prop) : List α -> List D -> Bud -> Prop
 | nil (m : Bud) : Sep R [] [] m
 | cons {a : α} {d : D} {as : List α} {ds : List D} {m1 m2 m : Bud} : R a d m1 -> Sep R as ds m2 -> (∀ b, m1 b + m2 b <= m b) -> Sep R (a :: as) (d :: ds) m
theorem RepL.sep : ∀ {vs : List V} {ds : List D} {m : Bud}, RepL K H Hs vs ds m -> Sep (Rep K H Hs) vs ds m
 | _, _, _, .nil _ => .nil _
 | _, _, _, .cons a b c => .cons a b.sep c
theorem Sep.repL : ∀ {vs : List V} {ds : List D} {m : Bud}, Sep (Rep K H Hs) vs ds m -> RepL K H Hs vs ds m
 | _, _, _, .nil _ => .nil _
 | _, _, _, .cons a b c => .cons a b.repL c
section
variable {α β : Type} {R R' : α -> D -> Bud -> Prop}
theorem Sep.length : ∀ {as : List α} {ds : List D} {m : Bud}, Sep R as ds m -> as.length = ds.length
 | _, _, _, .nil _ => rfl
 | _, _, _, .cons _ b _ => by rw [List.length_cons, List.length_cons, b.length]
theorem Sep.mono (h : Sep R as ds m) (l : ∀ b, m b <= m' b) : Sep R as ds m' := by
 cases h with
 | nil => exact .nil _
 | cons a b c => exact .cons a b fun x => Nat.le_trans (c x) (l x)
theorem Sep.imp : ∀ {as : List α} {ds : List D} {m : Bud}, (∀ a d m', (∀ b, m' b <= m b) -> R a d m' -> R' a d m') -> Sep R as ds m -> Sep R' as ds m
 | _, _, _, _, .nil _ => .nil _
 | _, _, m, f, .cons (m1 := m1) (m2 := m2) x y c => .cons (f _ _ _ (fun b => by have := c b; omega) x) (y.imp fun a d m' l => f a d m' fun b => by have := c b; have := l b; (try dsimp only at *); omega) c
theorem Sep.focus : ∀ {as : List α} {ds : List D} {m : Bud} {i : Nat} {d : D}, Sep R as ds m -> ds[i]? = some d -> ∃ (a : α) (m1 m2 : Bud), as[i]? = some a /\ R a d m1 /\ (∀ b, m1 b + m2 b <= m b) /\
 ∀ (R' : α -> D -> Bud -> Prop) (a' : α) (d' : D) (m' : Bud), (∀ a d m', (∀ b, m' b <= m2 b) -> R a d m' -> R' a d m') -> R' a' d' m' -> Sep R' (as.set i a') (ds.set i d') (fun b => m' b + m2 b)
 | _, _, _, _, _, .nil _, h => by simp at h
 | _, _, m, 0, _, .cons (a := a) (m1 := m1) (m2 := m2) x y c, h => by
  (simp only [List.getElem?_cons_zero, Option.some.injEq] at h)
  subst h
  exact ⟨a, m1, m2, rfl, x, c, fun R' a' d' m' f x' => .cons x' (y.imp f) fun b => Nat.le_refl _⟩
 | _, _, m, i + 1, d, .cons (a := a) (m1 := m1) (m2 := m2) x y c, h => by
  obtain ⟨a', n1, n2, e, r, l, f⟩ := Sep.focus (i := i) y (by simpa using h)
  refine ⟨a', n1, fun b => m1 b + n2 b, by simpa using e, r, fun b => by have := c b; have := l b; (try dsimp only at *); omega, fun R' a'' d'' m' g x' => ?_⟩
  have q := f R' a'' d'' m' (fun a d m' l' => g a d m' fun b => by have := l' b; (try dsimp only at *); omega) x'
  exact .cons (m2 := fun b => m' b + n2 b) (g _ _ _ (fun b => by (try dsimp only at *); omega) x) q fun b => by (try dsimp only at *); omega
theorem Sep.append : ∀ {as bs : List α} {ds es : List D} {m1 m2 : Bud}, Sep R as ds m1 -> Sep R bs es m2 -> Sep R (as ++ bs) (ds ++ es) (fun b => m1 b + m2 b)
 | _, _, _, _, _, _, .nil _, y => y.mono fun b => by (try dsimp only at *); omega
 | _, _, _, _, _, m2, .cons (m2 := n2) x y c, z => .cons (m2 := fun b => n2 b + m2 b) x (y.append z) fun b => by have := c b; omega
theorem Sep.get {as : List α} {ds : List D} {m : Bud} {i : Nat} {d : D} (h : Sep R as ds m) (e : ds[i]? = some d) : ∃ (a : α) (m1 : Bud), as[i]? = some a /\ R a d m1 /\ ∀ b, m1 b <= m b := by
 obtain ⟨a, m1, m2, e, r, l, _⟩ := h.focus e
 exact ⟨a, m1, e, r, fun b => by have := l b; omega⟩
theorem Sep.split : ∀ {as : List α} {ds es : List D} {m : Bud}, Sep R as (ds ++ es) m -> ∃ (a1 a2 : List α) (m1 m2 : Bud), as = a1 ++ a2 /\ Sep R a1 ds m1 /\ Sep R a2 es m2 /\ ∀ b, m1 b + m2 b <= m b
 | as, [], es, m, h => ⟨[], as, fun _ => 0, m, rfl, .nil _, h, fun b => by (try dsimp only at *); omega⟩
 | _, d :: ds, es, m, .cons (a := a) (m1 := m1) x y c => by
  obtain ⟨a1, a2, n1, n2, e, p, q, l⟩ := Sep.split (ds := ds) (es := es) y
  subst e
  exact ⟨a :: a1, a2, fun b => m1 b + n1 b, n2, rfl, .cons x p fun b => Nat.le_refl _, q, fun b => by have := c b; have := l b; (try dsimp only at *); omega⟩
theorem Sep.take (h : Sep R as ds m) (n : Nat) : Sep R (as.take n) (ds.take n) m := by
 have e : ds.take n ++ ds.drop n = ds := List.take_append_drop n ds
 rw [<- e] at h
 obtain ⟨a1, a2, m1, m2, q, p, p', l⟩ := h.split
 have hl := p.length
 have hd := h.length
 subst q
 have : (a1 ++ a2).take n = a1 := by
  by_cases hn : n <= ds.length
  . rw [List.take_left' (by rw [hl, List.length_take]; omega)]
  . have e2 : a2 = [] := by
     have := p'.length
     rw [List.length_drop] at this
     exact List.length_eq_zero_iff.mp (by (try dsimp only at *); omega)
    rw [e2, List.append_nil]
    exact List.take_of_length_le (by rw [hl, List.length_take]; omega)
 rw [this]
 exact p.mono fun b => by have := l b; omega
theorem Sep.drop (h : Sep R as ds m) (n : Nat) : Sep R (as.drop n) (ds.drop n) m := by
 have e : ds.take n ++ ds.drop n = ds := List.take_append_drop n ds
 rw [<- e] at h
 obtain ⟨a1, a2, m1, m2, q, p, p', l⟩ := h.split
 have hl := p.length
 subst q
 have : (a1 ++ a2).drop n = a2 := by
  by_cases hn : n <= ds.length
  . rw [List.drop_left' (by rw [hl, List.length_take]; omega)]
  . have e2 : a2 = [] := by
     have := p'.length
     rw [List.length_drop] at this
     exact List.length_eq_zero_iff.mp (by (try dsimp only at *); omega)
    rw [e2, List.append_nil]
    exact List.drop_of_length_le (by rw [hl, List.length_take]; omega)
 rw [this]
 exact p'.mono fun b => by have := l b; omega
end
section
mutual
theorem Rep.share (g : Same Hs Hs') : ∀ {v : V} {d : D} {m : Bud}, (∀ b, m b ≥ 1 -> H b ≠ none -> Hs' b = H b) -> Rep K H Hs v d m -> Rep K H Hs' v (shr d) (fun _ => 0)
 | _, _, _, _, .sc v _ => .sc v _
 | _, _, _, _, .hole v _ => .hole v _
 | _, _, m, k, .own (a := a) (m' := m') n r h => by
  have h1 : m a ≥ 1 := by have := h a; simp only [one, if_pos] at this; omega
  refine .shd (Za7.r (n.eq (k a h1 n.at))) (RepL.share g (fun b hb => k b ?_) r)
  have := h b
  omega
 | _, _, _, _, .shd n r => .shd (n.same g) (RepL.share g (fun b hb => absurd hb (by simp)) r)
theorem RepL.share (g : Same Hs Hs') : ∀ {vs : List V} {ds : List D} {m : Bud}, (∀ b, m b ≥ 1 -> H b ≠ none -> Hs' b = H b) -> RepL K H Hs vs ds m -> RepL K H Hs' vs (shrL ds) (fun _ => 0)
 | _, _, _, _, .nil _ => .nil _
 | _, _, m, k, .cons x y h => by
  refine .cons (Rep.share g (fun b hb => k b ?_) x) (RepL.share g (fun b hb => k b ?_) y) fun b => Nat.le_refl _
  . have := h b; omega
  . have := h b; omega
end
noncomputable def shH (H Hs : Hp) (m : Bud) : Hp := fun b => if m b ≥ 1 then H b else Hs b
theorem Zbt {M : Bud} {m : Bud} (g : Good H Hs M) (l : ∀ b, m b <= M b) : Same Hs (shH H Hs m) := fun b o e => by
 unfold shH
 split
 . exact g.sub b o e
 . exact e
theorem ZcU : ∀ b, m b ≥ 1 -> H b ≠ none -> shH H Hs m b = H b := fun b h _ => if_pos h
theorem Good.share {m M : Bud} (g : Good H Hs (fun b => m b + M b)) : Good H (shH H Hs m) M where
 sub := fun b o e => by
  unfold shH at e
  split at e
  . exact e
  . exact g.sub b o e
 le := fun b => by have : m b + M b <= 1 := g.le b; omega
 ne := fun b h => by
  have : m b + M b <= 1 := g.le b
  unfold shH
  rw [if_neg (by (try dsimp only at *); omega)]
  exact g.ne b (by show m b + M b = 1; omega)
 has := fun b h => by
  have : m b + M b <= 1 := g.le b
  exact g.has b (by show m b + M b = 1; omega)
theorem Stp.share {m M : Bud} (g : Good H Hs (fun b => m b + M b)) : Stp H Hs (fun b => m b + M b) H (shH H Hs m) M where
 keep := fun _ _ h _ => h
 own := fun b h => .inl (by have : m b + M b <= 1 := g.le b; show m b + M b = 1; omega)
 grow := Zbt g fun b => by (try dsimp only at *); omega
 shr := fun b h h' => by
  unfold shH at h'
  split at h'
  . have : m b + M b <= 1 := g.le b
    exact .inl (by show m b + M b = 1; omega)
  . exact absurd h h'
 stay := fun _ h => h
end
def RepO (K : Fg) (H Hs : Hp) (o : Option V) (d : D) (m : Bud) : Prop := d = .hole \/ ∃ v, o = some v /\ Rep K H Hs v d m
abbrev RepS (K : Fg) (H Hs : Hp) (σ : St) (δ : List D) (m : Bud) : Prop := Sep (RepO K H Hs) σ δ m
section
theorem RepO.frame (g : Same Hs Hs') (k : ∀ b, m b ≥ 1 -> H b ≠ none -> H' b = H b) (h : RepO K H Hs o d m) : RepO K H' Hs' o d m := by
 rcases h with h | ⟨v, e, r⟩
 . exact .inl h
 . exact .inr ⟨v, e, r.frame g k⟩
theorem RepS.frame (g : Same Hs Hs') (k : ∀ b, m b ≥ 1 -> H b ≠ none -> H' b = H b) (h : RepS K H Hs σ δ m) : RepS K H' Hs' σ δ m :=
 h.imp fun a d m' l r => RepO.frame g (fun b hb => k b (Nat.le_trans hb (l b))) r
theorem RepL.slots : ∀ {vs : List V} {ds : List D} {m : Bud}, RepL K H Hs vs ds m -> RepS K H Hs (vs.map some) ds m
 | _, _, _, .nil _ => .nil _
 | _, _, _, .cons x y c => .cons (.inr ⟨_, rfl, x⟩) (RepL.slots y) c
theorem holes (o : Nat -> Option V) : ∀ (n : Nat) (m : Bud) (σ : St), σ.length = n -> RepS K H Hs σ (List.replicate n .hole) m
 | 0, m, [], _ => .nil _
 | n + 1, m, o :: σ, h => .cons (m1 := fun _ => 0) (.inl rfl) (holes (fun _ => none) n m σ (by simpa using h)) fun b => by (try dsimp only at *); omega
inductive SlotI (K : Fg) (H Hs : Hp) (σ : St) (δ : List D) (m : Bud) (i : Nat) (d : D) : Prop
 | mk (v : V) (m1 m2 : Bud) (h0 : σ[i]? = some (some v)) (h1 : Rep K H Hs v d m1) (h2 : ∀ b, m1 b + m2 b <= m b) (h3 : ∀ (H' Hs' : Hp) (o : Option V) (d' : D) (m' : Bud), Same Hs Hs' -> (∀ b, m2 b ≥ 1 -> H b ≠ none -> H' b = H b) -> RepO K H' Hs' o d' m' -> RepS K H' Hs' (σ.set i o) (δ.set i d') (fun b => m' b + m2 b)) : SlotI K H Hs σ δ m i d
theorem RepS.slot (h : RepS K H Hs σ δ m) (e : δ[i]? = some d) (hd : d ≠ .hole) : SlotI K H Hs σ δ m i d := by
 obtain ⟨o, m1, m2, e1, r, l, f⟩ := h.focus e
 rcases r with r | ⟨v, rfl, r⟩
 . exact absurd r hd
 . exact ⟨v, m1, m2, e1, r, l, fun H' Hs' o d' m' g k x => f _ o d' m' (fun a d m'' l' q => RepO.frame g (fun b hb => k b (Nat.le_trans hb (l' b))) q) x⟩
theorem ZZ : ∀ {l : List α} {i : Nat} {a : α}, l[i]? = some a -> l.set i a = l
 | [], _, _, h => by simp at h
 | b :: l, 0, a, h => by simp at h; subst h; rfl
 | b :: l, i + 1, a, h => by rw [List.set_cons_succ, ZZ (by simpa using h)]
end
end T
namespace T
open PySem PySem.Spec L2
inductive BO {α β : Type} (c : M α) (f : α -> M β) (δ : List D) (r : β × List D) : Prop
 | mk (a : α) (δ' : List D) (h : c δ = .ok (a, δ')) (k : f a δ' = .ok r) : BO c f δ r
theorem Zb (h : c.bnd f δ = .ok r) : BO c f δ r := by
 unfold M.bnd at h
 split at h
 . rename_i a δ' e
   exact ⟨a, δ', e, h⟩
 . cases h
 . cases h
theorem Zf (h : M.ret a δ = .ok r) : r = (a, δ) := by
 unfold M.ret at h
 injection h with h
 exact h.symm
theorem ZM (h : lift o δ = .ok (a, δ')) : o = some a /\ δ' = δ := by
 cases o with
 | none => cases h
 | some x =>
  have := Zf h
  cases this
  exact ⟨rfl, rfl⟩
def RepP (K : Fg) (H Hs : Hp) (σ : St) (v : V) : Op -> Bud -> Prop
 | .late i, _ => σ[i]? = some (some v)
 | .tmp d, m => Rep K H Hs v d m
theorem RepP.frame (g : Same Hs Hs') (k : ∀ b, m b ≥ 1 -> H b ≠ none -> H' b = H b) (h : RepP K H Hs σ v p m) : RepP K H' Hs' σ v p m := by
 cases p with
 | late i => exact h
 | tmp d => exact Rep.frame g k h
inductive View (K : Fg) (H Hs : Hp) : V -> W -> Bud -> Prop
 | sc (v : V) (m : Bud) : View K H Hs v (.sc v) m
 | nd {a : Addr} {k : Kd} {vs : List V} {ds : List D} {m : Bud} : Zc5 K H a vs k -> RepL K H Hs vs ds m -> View K H Hs (.ref a) (.nd k ds) m
theorem View.frame (g : Same Hs Hs') (h : View K H Hs v w m) : View K H Hs' v w m := by
 cases h with
 | sc v m => exact .sc v m
 | nd n r => exact .nd n (r.frame g fun _ _ _ => rfl)
section
variable {K : Fg} {H Hs H' Hs' H1 Hs1 H2 Hs2 : Hp} {σ : St} {δ δ' : List D} {M M' B m : Bud}
theorem Good.re (g : Good H Hs M) (l : ∀ b, M' b <= M b := by intro b; (try dsimp only); omega) : Good H Hs M' := g.drop l
theorem Zaj (g : Good H Hs (fun b => B b + M b)) (s : RepS K H Hs σ δ M) (r : RepP K H Hs σ v p m) (e : view p δ = .ok (w, δ')) :
 ∃ Hs' M', Good H Hs' (fun b => B b + M' b) /\ Stp H Hs (fun b => B b + M b) H Hs' (fun b => B b + M' b) /\ View K H Hs' v w m /\ RepS K H Hs' σ δ' M' := by
 cases p with
 | tmp d =>
  cases d with
  | sc u =>
   have := Zf e
   cases this
   cases r
   exact ⟨Hs, M, g, Stp.refl _ _ _, .sc _ _, s⟩
  | hole => cases e
  | node k o ds =>
   have := Zf e
   cases this
   refine ⟨Hs, M, g, Stp.refl _ _ _, ?_, s⟩
   cases r with
   | own n q l => exact .nd n.r (q.mono fun b => by have := l b; omega)
   | shd n q => exact .nd (n.same g.sub) (q.mono fun b => Nat.zero_le _)
 | late i =>
  have r : σ[i]? = some (some v) := r
  unfold view at e
  dsimp only at e
  split at e
  . rename_i u hi
    cases e
    obtain ⟨v', m1, m2, e1, q, l, f⟩ := s.slot hi (by simp)
    rw [r] at e1
    cases e1
    cases q
    exact ⟨Hs, M, g, Stp.refl _ _ _, .sc _ _, s⟩
  . rename_i k ds hi
    cases e
    obtain ⟨v', m1, m2, e1, q, l, f⟩ := s.slot hi (by simp)
    rw [r] at e1
    cases e1
    cases q with
    | shd n q => exact ⟨Hs, M, g, Stp.refl _ _ _, .nd (n.same g.sub) (q.mono fun b => Nat.zero_le _), s⟩
  . rename_i k ds hi
    cases e
    obtain ⟨v', m1, m2, e1, q, l, f⟩ := s.slot hi (by simp)
    rw [r] at e1
    cases e1
    cases q with
    | @own a _ vs _ _ m' n q l' =>
     have g2 : Good H Hs (fun b => m' b + (B b + (one a b + m2 b))) := g.re fun b => by have := l b; have := l' b; omega
     have hsame := Zbt g2 (m := m') fun b => by omega
     have q2 := RepL.share hsame (ZcU (H := H) (Hs := Hs) (m := m')) q
     refine ⟨shH H Hs m', fun b => one a b + m2 b, g2.share, ?_, .nd n.r (q2.mono fun b => Nat.zero_le _), ?_⟩
     . have s1 := Stp.share g2
       exact ⟨fun b o h z => h, fun b h => by
        rcases s1.own b h with q | q
        . left
          have : B b + M b <= 1 := g.le b
          have h1 := l b
          have h2 := l' b
          have h3 : m' b + (B b + (one a b + m2 b)) = 1 := q
          show B b + M b = 1
          omega
        . exact .inr q, s1.grow, fun b h h' => by
        rcases s1.shr b h h' with q | q
        . left
          have : B b + M b <= 1 := g.le b
          have h1 := l b
          have h2 := l' b
          have h3 : m' b + (B b + (one a b + m2 b)) = 1 := q
          show B b + M b = 1
          omega
        . exact .inr q, fun b h => h⟩
     . have z := f H (shH H Hs m') (some (.ref a)) (.node k true (shrL ds)) (one a) hsame (fun _ _ _ => rfl) (.inr ⟨_, rfl, .own n q2 fun b => by simp⟩)
       rw [ZZ r] at z
       exact z
  . cases e
def Outs (K : Fg) (H Hs : Hp) (m : Bud) (d : D) (Q : VK) : Prop := ∀ (v : V) (H' : Hp) (m' : Bud), Same H H' -> (∀ b, m' b <= 1) -> (∀ b, m' b = 1 -> H' b ≠ none) -> (∀ b, H b ≠ none -> m' b <= m b) -> Rep K H' Hs v d m' -> Q v H'
theorem Outs.sc (h : Outs K H Hs m (.sc u) Q) : Q u H := h u H (fun _ => 0) (Same.refl _) (fun _ => Nat.zero_le _) (fun _ h => by simp at h) (fun _ _ => Nat.zero_le _) (.sc u _)
theorem ZcV (h : H p = none) : Same H (upd H p o) := fun b u e => by
 rw [Zj (ZV e h)]
 exact e
theorem Outs.new (h : Outs K H Hs m (.node k true ds) Q) (hm : ∀ b, m b <= 1) (hh : ∀ b, m b = 1 -> H b ≠ none) (hp : H p = none) (n : Za7 K (upd H p o) p vs k) (r : RepL K H Hs vs ds m) : Q (.ref p) (upd H p o) := by
 have hs := ZcV (o := o) hp
 have mp : m p = 0 := by
  have := hm p
  by_cases q : m p = 1
  . exact absurd hp (hh p q)
  . omega
 refine h (.ref p) (upd H p o) (fun b => one p b + m b) hs (fun b => ?_) (fun b q => ?_) (fun b q => ?_) (.own n (r.frame (Same.refl _) fun b hb hn => ?_) fun b => Nat.le_refl _)
 . unfold one
   have := hm b
   split
   . rename_i e; subst e; omega
   . omega
 . by_cases e : b = p
   . subst e; rw [Zi]; simp
   . rw [Zj e]
     exact hh b (by simp only [one, if_neg e] at q; omega)
 . have e : b ≠ p := fun e => by subst e; exact q hp
   simp only [one, if_neg e]
   omega
 . have e : b ≠ p := fun e => by subst e; exact hn hp
   rw [Zj e]
theorem Zbu (st : Stp H0 Hs0 M0 H Hs (fun b => B b + M b)) (g : Good H Hs (fun b => B b + M b)) (s : RepS K H Hs σ δ M)
 (q : ∀ (v : V) (H' Hs' : Hp) (m M' : Bud), Good H' Hs' (fun b => m b + M' b) -> Stp H0 Hs0 M0 H' Hs' (fun b => m b + M' b) -> Rep K H' Hs' v d m -> RepS K H' Hs' σ δ M' -> Q v H') : Outs K H Hs B d Q := by
 intro v H' m' hs h1 h2 h3 r
 have hz : ∀ b, H b = none -> M b = 0 /\ B b = 0 := fun b hb => by
  have := g.has b
  have l : B b + M b <= 1 := g.le b
  by_cases e : B b + M b = 1
  . exact absurd hb (this e)
  . omega
 have hst : ∀ b, H b ≠ none -> H' b ≠ none := fun b hb => by
  cases e : H b with
  | none => exact absurd e hb
  | some o => rw [hs b o e]; simp
 refine q v H' Hs m' M ⟨fun b o e => hs b o (g.sub b o e), fun b => ?_, fun b h => ?_, fun b h => ?_⟩ ⟨fun b o e z => hs b o (st.keep b o e z), fun b h => ?_, st.grow, st.shr, fun b h => hst b (st.stay b h)⟩ r (s.frame (Same.refl _) fun b hb hn => ?_)
 . have l : B b + M b <= 1 := g.le b
   have := h1 b
   by_cases e : H b = none
   . have := hz b e; show m' b + M b <= 1; omega
   . have := h3 b e; show m' b + M b <= 1; omega
 . have h : m' b + M b = 1 := h
   have l : B b + M b <= 1 := g.le b
   by_cases e : H b = none
   . cases q : Hs b with
     | none => rfl
     | some o => rw [g.sub b o q] at e; cases e
   . have := h3 b e
     exact g.ne b (by show B b + M b = 1; omega)
 . have h : m' b + M b = 1 := h
   have l : B b + M b <= 1 := g.le b
   by_cases e : m' b = 1
   . exact h2 b e
   . exact hst b (g.has b (by show B b + M b = 1; omega))
 . have h : m' b + M b = 1 := h
   have l : B b + M b <= 1 := g.le b
   by_cases e : H b = none
   . right
     cases w : H0 b with
     | none => rfl
     | some o => exact absurd e (st.stay b (by rw [w]; simp))
   . have := h3 b e
     exact st.own b (by show B b + M b = 1; omega)
 . cases e : H b with
   | none => exact absurd e hn
   | some o => exact hs b o e
theorem RepL.app (a : RepL K H Hs vs ds m1) (b : RepL K H Hs ws es m2) : RepL K H Hs (vs ++ ws) (ds ++ es) (fun b => m1 b + m2 b) := (a.sep.append b.sep).repL
theorem RepL.len (a : RepL K H Hs vs ds m) : vs.length = ds.length := a.sep.length
end
end T
namespace T
open PySem PySem.Spec L2
inductive tG {α : Type} (K : Fg) (c : M α) (R : Hp -> Hp -> St -> α -> V -> Bud -> Prop) (σ : St) (H : Hp) (Q : VK) : Prop
 | mk (δ : List D) (Hs : Hp) (M : Bud) (a : α) (δ' : List D) (h0 : Good H Hs M) (h1 : RepS K H Hs σ δ M) (h2 : c δ = .ok (a, δ')) (h3 : ∀ (v : V) (H' Hs' : Hp) (m M' : Bud), Good H' Hs' (fun b => m b + M' b) -> Stp H Hs M H' Hs' (fun b => m b + M' b) -> R H' Hs' σ a v m -> RepS K H' Hs' σ δ' M' -> Q v H') : tG K c R σ H Q
def tM (K : Fg) (c : M D) : TE := tG K c fun H Hs _ d v m => Rep K H Hs v d m
def tP (K : Fg) (c : M Op) : TE := tG K c fun H Hs σ p v m => RepP K H Hs σ v p m
inductive tT (K : Fg) (c : M Bool) (σ : St) (H : Hp) (Q : Bool -> Hp -> Prop) : Prop
 | mk (δ : List D) (Hs : Hp) (M : Bud) (b : Bool) (δ' : List D) (h0 : Good H Hs M) (h1 : RepS K H Hs σ δ M) (h2 : c δ = .ok (b, δ')) (h3 : ∀ (H' Hs' : Hp) (M' : Bud), Good H' Hs' M' -> Stp H Hs M H' Hs' M' -> RepS K H' Hs' σ δ' M' -> Q b H') : tT K c σ H Q
def ZaL (K : Fg) (H Hs : Hp) (σ : St) : List V -> List Op -> Bud -> Prop
 | [], [], _ => True
 | v :: vs, p :: ps, m => ∃ m1 m2 : Bud, RepP K H Hs σ v p m1 /\ ZaL K H Hs σ vs ps m2 /\ ∀ b, m1 b + m2 b <= m b
 | _, _, _ => False
theorem ZaL.frame (g : Same Hs Hs') : ∀ {vs : List V} {ps : List Op} {m : Bud}, (∀ b, m b ≥ 1 -> H b ≠ none -> H' b = H b) -> ZaL K H Hs σ vs ps m -> ZaL K H' Hs' σ vs ps m
 | [], [], _, _, h => h
 | v :: vs, p :: ps, m, k, ⟨m1, m2, a, b, l⟩ => ⟨m1, m2, a.frame g fun c hc => k c (by have := l c; omega), b.frame g fun c hc => k c (by have := l c; omega), l⟩
 | [], _ :: _, _, _, h => h.elim
 | _ :: _, [], _, _, h => h.elim
inductive tPs (K : Fg) (c : M (List Op)) (σ : St) (H : Hp) (Q : List V -> Hp -> Prop) : Prop
 | mk (δ : List D) (Hs : Hp) (M : Bud) (a : List Op) (δ' : List D) (h0 : Good H Hs M) (h1 : RepS K H Hs σ δ M) (h2 : c δ = .ok (a, δ')) (h3 : ∀ (vs : List V) (H' Hs' : Hp) (m M' : Bud), Good H' Hs' (fun b => m b + M' b) -> Stp H Hs M H' Hs' (fun b => m b + M' b) -> ZaL K H' Hs' σ vs a m -> RepS K H' Hs' σ δ' M' -> Q vs H') : tPs K c σ H Q
inductive tDs (K : Fg) (c : M (List D)) (σ : St) (H : Hp) (Q : List V -> Hp -> Prop) : Prop
 | mk (δ : List D) (Hs : Hp) (M : Bud) (a : List D) (δ' : List D) (h0 : Good H Hs M) (h1 : RepS K H Hs σ δ M) (h2 : c δ = .ok (a, δ')) (h3 : ∀ (vs : List V) (H' Hs' : Hp) (m M' : Bud), Good H' Hs' (fun b => m b + M' b) -> Stp H Hs M H' Hs' (fun b => m b + M' b) -> RepL K H' Hs' vs a m -> RepS K H' Hs' σ δ' M' -> Q vs H') : tDs K c σ H Q
section
variable {X : Cx} {e a b : Expr} {es : List Expr} {pos : Pos}
theorem PE.imp (h : PE X e t) (w : ∀ σ H Q, t' σ H Q -> t σ H Q) : PE X e t' := fun pins s σ H Q I q => h pins s σ H Q I (w σ H Q q)
theorem PT.imp (h : PT X e t) (w : ∀ σ H Q, t' σ H Q -> t σ H Q) : PT X e t' := fun pins s σ H Q I q => h pins s σ H Q I (w σ H Q q)
theorem PA.imp (h : PA X es t) (w : ∀ σ H Q, t' σ H Q -> t σ H Q) : PA X es t' := fun pos pins s σ H Q I q => h pos pins s σ H Q I (w σ H Q q)
theorem Zat {H Hs : Hp} {M : Bud} (g : Good H Hs M) : Good H Hs (fun b => (fun _ => 0) b + M b) := g.drop fun b => by simp
theorem stp0 (H Hs : Hp) (M : Bud) : Stp H Hs M H Hs (fun b => (fun _ => 0) b + M b) := by
 have e : (fun b => (fun _ => 0) b + M b) = M := by funext b; simp
 rw [e]
 exact Stp.refl H Hs M
theorem ok_k {v : V} (h : PE X e (tC v)) : PE X e (tM X.K (M.ret (.sc v))) := PE.imp h fun σ H Q z0 => by
 obtain ⟨δ, Hs, M, d, δ', g, r, e, q⟩ := z0
 have := Zf e
 cases this
 exact q v H Hs (fun _ => 0) M (Zat g) (stp0 H Hs M) (.sc v _) r
theorem Zg7 {i : Nat} (h : PE X e (tVar i)) : PE X e (tP X.K (ZB i)) := PE.imp h fun σ H Q z0 => by
 obtain ⟨δ, Hs, M, p, δ', g, r, e, q⟩ := z0
 have fin : ∀ {d : D}, δ[i]? = some d -> d ≠ .hole -> p = .late i -> δ' = δ -> tVar i σ H Q := fun hd hn e1 e2 => by
  subst e1 e2
  obtain ⟨v, m1, m2, e3, _⟩ := r.slot hd hn
  exact ⟨v, e3, q v H Hs (fun _ => 0) M (Zat g) (stp0 H Hs M) e3 r⟩
 unfold ZB at e
 split at e
 . rename_i hd
   injection e with e
   cases e
   exact fin hd (by simp) rfl rfl
 . rename_i hd
   injection e with e
   cases e
   exact fin hd (by simp) rfl rfl
 . cases e
theorem ok_v {i : Nat} (h : PE X e (tVar i)) : PE X e (tM X.K (valV i)) := PE.imp h fun σ H Q z0 => by
 obtain ⟨δ, Hs, M, d, δ', g, s, e, q⟩ := z0
 unfold valV at e
 split at e
 . rename_i u hd
   injection e with e
   cases e
   obtain ⟨v, m1, m2, e3, r, _⟩ := s.slot hd (by simp)
   cases r
   exact ⟨u, e3, q u H Hs (fun _ => 0) M (Zat g) (stp0 H Hs M) (.sc _ _) s⟩
 . rename_i k ds hd
   injection e with e
   cases e
   obtain ⟨v, m1, m2, e3, r, _⟩ := s.slot hd (by simp)
   cases r with
   | shd n r => exact ⟨_, e3, q _ H Hs (fun _ => 0) M (Zat g) (stp0 H Hs M) (.shd n r) s⟩
 . rename_i k ds hd
   injection e with e
   cases e
   obtain ⟨v, m1, m2, e3, r, l, f⟩ := s.slot hd (by simp)
   refine ⟨v, e3, ?_⟩
   have g2 : Good H Hs (fun b => m1 b + m2 b) := g.re fun b => by have := l b; omega
   have hsame := Zbt g2 (m := m1) fun b => by omega
   have r2 := Rep.share hsame (ZcU (H := H) (Hs := Hs) (m := m1)) r
   have st := Stp.share g2
   refine q v H (shH H Hs m1) (fun _ => 0) m2 (Zat g2.share) ⟨fun b o h _ => h, fun b h => ?_, st.grow, fun b h h' => ?_, fun b h => h⟩ r2 ?_
   . have h : (fun _ => 0) b + m2 b = 1 := h
     have := l b
     have := g.le b
     left; simp at h; omega
   . rcases st.shr b h h' with z | z
     . have z : m1 b + m2 b = 1 := z
       have := l b
       have := g.le b
       left; omega
     . exact .inr z
   . have z := f H (shH H Hs m1) (some v) (.node k false (shrL ds)) (fun _ => 0) hsame (fun _ _ _ => rfl) (.inr ⟨v, rfl, r2⟩)
     rw [ZZ e3] at z
     exact z.mono fun b => by simp
 . cases e
theorem Za (h : PE X e (tM X.K c)) : PE X e (tP X.K (c.bnd fun d => M.ret (.tmp d))) := PE.imp h fun σ H Q z0 => by
 obtain ⟨δ, Hs, M, p, δ', g, s, e, q⟩ := z0
 obtain ⟨d, δ1, e1, e2⟩ := Zb e
 have := Zf e2
 cases this
 exact ⟨δ, Hs, M, d, _, g, s, e1, fun v H' Hs' m M' g' st r s' => q v H' Hs' m M' g' st r s'⟩
theorem seq2 {K : Fg} {ca cb : M Op} {σ : St} {H Hs : Hp} {M : Bud} {δ δ1 δ2 : List D} {p q : Op} {R : V -> V -> Hp -> Prop} (g : Good H Hs M) (s : RepS K H Hs σ δ M) (e1 : ca δ = .ok (p, δ1)) (e2 : cb δ1 = .ok (q, δ2))
 (h : ∀ (x y : V) (H2 Hs2 : Hp) (m1 m2 M2 : Bud), Good H2 Hs2 (fun b => (m1 b + m2 b) + M2 b) -> Stp H Hs M H2 Hs2 (fun b => (m1 b + m2 b) + M2 b) -> RepP K H2 Hs2 σ x p m1 -> RepP K H2 Hs2 σ y q m2 -> RepS K H2 Hs2 σ δ2 M2 -> R x y H2) :
 tP K ca σ H fun x H1 => tP K cb σ H1 fun y H2 => R x y H2 := by
 refine ⟨δ, Hs, M, p, δ1, g, s, e1, fun x H1 Hs1 m1 M1 g1 st1 r1 s1 => ⟨δ1, Hs1, M1, q, δ2, g1.re, s1, e2, fun y H2 Hs2 m2 M2 g2 st2 r2 s2 => ?_⟩⟩
 obtain ⟨G, S, k⟩ := Zr g g1 st1 g2 st2
 have le : ∀ b, m1 b + (m2 b + M2 b) <= 1 := G.le
 exact h x y H2 Hs2 m1 m2 M2 G.re (S.drop (fun b => by omega) le) (r1.frame st2.grow k) r2 s2
theorem ZoC {K : Fg} {σ : St} {H Hs : Hp} {m1 m2 M : Bud} {δ δ1 δ2 : List D} {p q : Op} {x y : V} {w1 w2 : W} (g : Good H Hs (fun b => (m1 b + m2 b) + M b)) (s : RepS K H Hs σ δ M) (r1 : RepP K H Hs σ x p m1) (r2 : RepP K H Hs σ y q m2)
 (e1 : view p δ = .ok (w1, δ1)) (e2 : view q δ1 = .ok (w2, δ2)) : ∃ Hs' M', Good H Hs' (fun b => (m1 b + m2 b) + M' b) /\ Stp H Hs (fun b => (m1 b + m2 b) + M b) H Hs' (fun b => (m1 b + m2 b) + M' b) /\ View K H Hs' x w1 m1 /\ View K H Hs' y w2 m2 /\ RepS K H Hs' σ δ2 M' := by
 obtain ⟨Hs1, M1, g1, st1, v1, s1⟩ := Zaj (B := fun b => m1 b + m2 b) g s r1 e1
 obtain ⟨Hs2, M2, g2, st2, v2, s2⟩ := Zaj (B := fun b => m1 b + m2 b) g1 s1 (r2.frame st1.grow fun _ _ _ => rfl) e2
 refine ⟨Hs2, M2, g2, ?_, v1.frame st2.grow, v2, s2⟩
 have z := Zr (m1 := fun _ => 0) g (g1.re fun b => by simp) (st1.drop (fun b => by simp) g1.le) g2 st2
 exact z.2.1.drop (fun b => by simp) z.1.le
inductive r2W (K : Fg) (f : W -> W -> Option D) (x y : V) (H : Hp) (Q : VK) : Prop
 | mk (Hs : Hp) (w1 w2 : W) (m1 m2 : Bud) (d : D) (h0 : Same Hs H) (h1 : (∀ b, m1 b + m2 b <= 1)) (h2 : (∀ b, m1 b + m2 b = 1 -> H b ≠ none)) (h3 : View K H Hs x w1 m1) (h4 : View K H Hs y w2 m2) (h5 : f w1 w2 = some d) (h6 : Outs K H Hs (fun b => m1 b + m2 b) d Q) : r2W K f x y H Q
theorem op2 (h : tM K (ca.bnd fun p => cb.bnd fun q => (view p).bnd fun x => (view q).bnd fun y => lift (f x y)) σ H Q) : tOp (r2W K f) (tP K ca) (tP K cb) σ H Q := by
 obtain ⟨δ, Hs, M, d, δ', g, s, e, q⟩ := h
 obtain ⟨p, δ1, e1, e⟩ := Zb e
 obtain ⟨p2, δ2, e2, e⟩ := Zb e
 obtain ⟨w1, δ3, e3, e⟩ := Zb e
 obtain ⟨w2, δ4, e4, e⟩ := Zb e
 obtain ⟨e5, rfl⟩ := ZM e
 refine seq2 g s e1 e2 fun x y H2 Hs2 m1 m2 M2 g2 st2 r1 r2 s2 => ?_
 obtain ⟨Hs3, M3, g3, st3, v1, v2, s3⟩ := ZoC g2 s2 r1 r2 e3 e4
 have z := Zr (m1 := fun _ => 0) g (g2.re fun b => by simp) (st2.drop (fun b => by simp) g2.le) g3 st3
 have st : Stp H Hs M H2 Hs3 (fun b => (m1 b + m2 b) + M3 b) := z.2.1.drop (fun b => by simp) z.1.le
 exact ⟨Hs3, w1, w2, m1, m2, d, g3.sub, fun b => by have : (m1 b + m2 b) + M3 b <= 1 := g3.le b; omega, fun b hb => g3.has b (by have : (m1 b + m2 b) + M3 b <= 1 := g3.le b; show (m1 b + m2 b) + M3 b = 1; omega), v1, v2, e5, Zbu st g3 s3 q⟩
theorem Zm3 (ho : OpR X (binaryOp op) (r2W X.K (binW op))) (ha : PE X a (tP X.K ca)) (hb : PE X b (tP X.K cb)) :
 PE X (.BinOp a op b pos) (tM X.K (ca.bnd fun p => cb.bnd fun q => (view p).bnd fun x => (view q).bnd fun y => lift (binW op x y))) := PE.imp (Zoh ho ha hb) fun σ H Q h => op2 h
theorem ZeT : ∀ {ds : List D} {us vs : List V} {m : Bud}, RepL K H Hs us ds m -> scals ds = some vs -> us = vs
 | [], _, _, _, .nil _, e => by cases e; rfl
 | .sc v :: ds, _, vs, _, .cons r t _, e => by
  simp only [scals, Option.map_eq_some_iff] at e
  obtain ⟨ws, e, rfl⟩ := e
  cases r
  rw [ZeT t e]
 | .hole :: _, _, _, _, _, e => by simp [scals] at e
 | .node _ _ _ :: _, _, _, _, _, e => by simp [scals] at e
theorem Zf8 : ∀ (l : List V), RepL K H Hs l (l.map D.sc) (fun _ => 0)
 | [] => .nil _
 | _ :: l => .cons (m1 := fun _ => 0) (m2 := fun _ => 0) (.sc _ _) (Zf8 l) fun b => by simp
theorem Zm4 (op : Operator) : OpR X (binaryOp op) (r2W X.K (binW op)) := by
 intro pins s σ H x y v u Q I rx ry h
 obtain ⟨Hs, w1, w2, m1, m2, d, hs, h1, h2, v1, v2, e, o⟩ := h
 cases op with
 | Add =>
  replace e : addW w1 w2 = some d := e
  unfold addW at e
  split at e
  . cases e; cases v1; cases v2; exact ZlV pins s σ H _ _ v u Q I rx ry ⟨_, _, rfl, rfl, o.sc⟩
  . split at e
    . rename_i hc; cases e; cases v1; cases v2; exact ZgQ pins s σ H _ _ v u Q I rx ry ⟨_, _, rfl, rfl, hc, o.sc⟩
    . cases e
  . unfold newL at e
    split at e
    . rename_i hc
      cases e
      cases v1 with
      | nd n1 r1 => cases v2 with
       | nd n2 r2 =>
        have l1 := r1.len
        have l2 := r2.len
        rw [List.length_append] at hc
        exact Zmh pins s σ H _ _ v u Q I rx ry ⟨_, _, _, _, rfl, rfl, n1, n2, by omega, fun p hp => o.new h1 h2 hp (show upd H p _ p = _ from Zi) (r1.app r2)⟩
    . cases e
  . cases e
 | Sub =>
  obtain ⟨i, j, rfl, rfl, e'⟩ := Zc6 e
  cases e'; cases v1; cases v2; exact ZlW pins s σ H _ _ v u Q I rx ry ⟨_, _, rfl, rfl, o.sc⟩
 | Mult =>
  replace e : mulW w1 w2 = some d := e
  unfold mulW at e
  split at e
  . split at e
    . rename_i hc; cases e; cases v1; cases v2; exact ZlX pins s σ H _ _ v u Q I rx ry ⟨_, _, rfl, rfl, hc, o.sc⟩
    . cases e
  . split at e
    . rename_i hc
      simp only [Option.map_eq_some_iff] at e
      obtain ⟨is, ei, rfl⟩ := e
      cases v1 with
      | nd n1 r1 =>
       cases v2
       have hl := r1.len
       have ex := ZeT r1 ei
       subst ex
       refine Zmi pins s σ H _ _ v u Q I rx ry ⟨_, _, _, rfl, rfl, n1, hc.1, hc.2.1, by rw [hl]; exact hc.2.2, fun p hp => o.new h1 h2 hp (show upd H p _ p = _ from Zi) ?_⟩
       exact (Zf8 _).mono fun b => Nat.zero_le _
    . cases e
  . cases e
 | FloorDiv =>
  obtain ⟨i, j, rfl, rfl, e'⟩ := Zc6 e
  split at e'
  . rename_i hc; cases e'; cases v1; cases v2; exact Zkj pins s σ H _ _ v u Q I rx ry ⟨_, _, rfl, rfl, hc, o.sc⟩
  . cases e'
 | Mod =>
  obtain ⟨i, j, rfl, rfl, e'⟩ := Zc6 e
  split at e'
  . rename_i hc; cases e'; cases v1; cases v2; exact ZlY pins s σ H _ _ v u Q I rx ry ⟨_, _, rfl, rfl, hc, o.sc⟩
  . cases e'
 | Pow =>
  obtain ⟨i, j, rfl, rfl, e'⟩ := Zc6 e
  split at e'
  . rename_i hc; cases e'; cases v1; cases v2; exact ZlZ pins s σ H _ _ v u Q I rx ry ⟨_, _, rfl, rfl, hc, o.sc⟩
  . cases e'
 | _ => cases e
end
end T
namespace T
open PySem PySem.Spec L2
mutual
theorem Rep.den (g : Same Hs H) : ∀ {v : V} {d : D} {m : Bud} {a : PyData}, Rep K H Hs v d m -> py d = some a -> Den K H v a
 | _, _, _, _, .sc .non _, h => by simp only [py, Option.some.injEq] at h; subst h; exact .non
 | _, _, _, _, .sc (.bl b) _, h => by simp only [py, Option.some.injEq] at h; subst h; exact .bl b
 | _, _, _, _, .sc (.int b) _, h => by simp only [py, Option.some.injEq] at h; subst h; exact .int b
 | _, _, _, _, .sc (.str b) _, h => by simp only [py, Option.some.injEq] at h; subst h; exact .str b
 | _, _, _, _, .sc (.byt b) _, h => by simp [py] at h
 | _, _, _, _, .sc (.flt b) _, h => by simp [py] at h
 | _, _, _, _, .sc (.ref b) _, h => by simp [py] at h
 | _, _, _, _, .sc (.ty b) _, h => by simp [py] at h
 | _, _, _, _, .hole v _, h => by simp [py] at h
 | _, _, _, _, .own (k := .lst) n r _, h => by
  simp only [py, Option.map_eq_some_iff] at h
  obtain ⟨x, h, rfl⟩ := h
  exact .lst (.inl (.inl n)) (RepL.den g r h)
 | _, _, _, _, .own (k := .frl) n r _, h => n.elim
 | _, _, _, _, .own (k := .tup) n r _, h => by
  simp only [py, Option.map_eq_some_iff] at h
  obtain ⟨x, h, rfl⟩ := h
  exact .tup (.inl (.inl n)) (RepL.den g r h)
 | _, _, _, _, .own (k := .ftp) n r _, h => n.elim
 | _, _, _, _, .own (k := .dic _) n r _, h => by simp [py] at h
 | _, _, _, _, .own (k := .ins _ _) n r _, h => by simp [py] at h
 | _, _, _, _, .own (k := .exc _ _ _) n r _, h => by simp [py] at h
 | _, _, _, _, .shd (k := .lst) n r, h => by
  simp only [py, Option.map_eq_some_iff] at h
  obtain ⟨x, h, rfl⟩ := h
  exact .lst (.inl (.inl (g _ _ n))) (RepL.den g r h)
 | _, _, _, _, .shd (k := .frl) n r, h => by
  simp only [py, Option.map_eq_some_iff] at h
  obtain ⟨x, h, rfl⟩ := h
  exact .lst (g.seq n) (RepL.den g r h)
 | _, _, _, _, .shd (k := .tup) n r, h => by
  simp only [py, Option.map_eq_some_iff] at h
  obtain ⟨x, h, rfl⟩ := h
  exact .tup (.inl (.inl (g _ _ n))) (RepL.den g r h)
 | _, _, _, _, .shd (k := .ftp) n r, h => by
  simp only [py, Option.map_eq_some_iff] at h
  obtain ⟨x, h, rfl⟩ := h
  exact .tup (Same.tupq' g n) (RepL.den g r h)
 | _, _, _, _, .shd (k := .dic _) n r, h => by simp [py] at h
 | _, _, _, _, .shd (k := .ins _ _) n r, h => by simp [py] at h
 | _, _, _, _, .shd (k := .exc _ _ _) n r, h => by simp [py] at h
theorem RepL.den (g : Same Hs H) : ∀ {vs : List V} {ds : List D} {m : Bud} {as : List PyData}, RepL K H Hs vs ds m -> pyL ds = some as -> DenL K H vs as
 | _, _, _, _, .nil _, h => by simp only [pyL, Option.some.injEq] at h; subst h; exact .nil
 | _, _, _, _, .cons x y _, h => by
  simp only [pyL, Option.bind_eq_some_iff, Option.map_eq_some_iff] at h
  obtain ⟨a, h1, as, h2, rfl⟩ := h
  exact .cons (Rep.den g x h1) (RepL.den g y h2)
end
theorem View.den (g : Same Hs H) (h : View K H Hs v w m) (e : py (toD w) = some a) : Den K H v a := by
 cases h with
 | sc v m => exact Rep.den g (.sc v m) e
 | @nd ad k vs ds m n r =>
  cases k with
  | lst =>
   simp only [toD, py, Option.map_eq_some_iff] at e
   obtain ⟨x, e, rfl⟩ := e
   exact .lst (.inl (.inl n)) (r.den g e)
  | frl =>
   simp only [toD, py, Option.map_eq_some_iff] at e
   obtain ⟨x, e, rfl⟩ := e
   exact .lst n (r.den g e)
  | tup =>
   simp only [toD, py, Option.map_eq_some_iff] at e
   obtain ⟨x, e, rfl⟩ := e
   exact .tup (.inl (.inl n)) (r.den g e)
  | ftp =>
   simp only [toD, py, Option.map_eq_some_iff] at e
   obtain ⟨x, e, rfl⟩ := e
   exact .tup n (r.den g e)
  | dic ks => simp [toD, py] at e
  | ins C fs => simp [toD, py] at e
  | exc ns fr fs => simp [toD, py] at e
section
variable {X : Cx} {e a b c : Expr} {es rest : List Expr} {pos : Pos}
theorem ZkD {a b : PyData} {t : Bool} (h : eqPy a b = some t) : SeqAt.shaped a = true /\ SeqAt.shaped b = true /\ PyData.eqv a b = t := by
 unfold eqPy at h
 split at h
 . rename_i q
   exact ⟨q.1, q.2, Option.some.inj h⟩
 . cases h
theorem Zia {K : Fg} {H Hs : Hp} (g : Same Hs H) {x y : V} {w1 w2 : W} {m1 m2 : Bud} {t : Bool} (v1 : View K H Hs x w1 m1) (v2 : View K H Hs y w2 m2) (h : eqW w1 w2 = some t) :
 (scal x y = true /\ decide (x = y) = t) \/ ∃ d e, Den K H x d /\ Den K H y e /\ SeqAt.shaped d = true /\ SeqAt.shaped e = true /\ PyData.eqv d e = t := by
 have go : ((py (toD w1)).bind fun a => (py (toD w2)).bind fun b => eqPy a b) = some t -> ∃ d e, Den K H x d /\ Den K H y e /\ SeqAt.shaped d = true /\ SeqAt.shaped e = true /\ PyData.eqv d e = t := fun q => by
  simp only [Option.bind_eq_some_iff] at q
  obtain ⟨d, q1, e, q2, q3⟩ := q
  obtain ⟨s1, s2, s3⟩ := ZkD q3
  exact ⟨d, e, v1.den g q1, v2.den g q2, s1, s2, s3⟩
 cases v1 with
 | sc u _ => cases v2 with
  | sc v _ =>
   have h : (if scal x y = true then some (decide (x = y)) else (py (.sc x)).bind fun a => (py (.sc y)).bind fun b => eqPy a b) = some t := h
   by_cases q : scal x y = true
   . rw [if_pos q] at h
     exact .inl ⟨q, Option.some.inj h⟩
   . rw [if_neg q] at h
     exact .inr (go h)
  | nd n r => exact .inr (go h)
 | nd n r => exact .inr (go h)
theorem ZiX {c : M D} {δ : List D} {r : Bool × List D} (h : ZbI c δ = .ok r) : c δ = .ok (.sc (.bl r.1), r.2) := by
 obtain ⟨d, δ1, e1, e2⟩ := Zb h
 obtain ⟨b, δ2⟩ := r
 obtain ⟨e3, rfl⟩ := ZM e2
 cases d with
 | sc v => cases v with
  | bl t => cases e3; exact e1
  | _ => cases e3
 | _ => cases e3
theorem Zg8 {c : M D} {σ : St} {H : Hp} {Q : Bool -> Hp -> Prop} {K : Fg} (h : tT K (ZbI c) σ H Q) : tM K c σ H fun x H' => ∃ k, x = .bl k /\ Q k H' := by
 obtain ⟨δ, Hs, M, b, δ', g, s, e, q⟩ := h
 refine ⟨δ, Hs, M, .sc (.bl b), δ', g, s, ZiX e, fun v H' Hs' m M' g' st r s' => ?_⟩
 cases r
 exact ⟨b, rfl, q H' Hs' M' g'.re (st.drop (fun b => by omega) g'.le) s'⟩
theorem op1 {K : Fg} {ca : M Op} {f : W -> Option D} {σ : St} {H : Hp} {Q : VK} {r : V -> Hp -> VK -> Prop} (h : tM K ((ca.bnd view).bnd fun x => lift (f x)) σ H Q)
 (hr : ∀ (x : V) (H Hs : Hp) (w : W) (m : Bud) (d : D), Same Hs H -> (∀ b, m b <= 1) -> (∀ b, m b = 1 -> H b ≠ none) -> View K H Hs x w m -> f w = some d -> Outs K H Hs m d Q -> r x H Q) : tUn r (tP K ca) σ H Q := by
 obtain ⟨δ, Hs, M, d, δ', g, s, e, q⟩ := h
 obtain ⟨w, δ2, e, e5⟩ := Zb e
 obtain ⟨p, δ1, e1, e3⟩ := Zb e
 obtain ⟨e6, rfl⟩ := ZM e5
 refine ⟨δ, Hs, M, p, δ1, g, s, e1, fun x H2 Hs2 m1 M2 g2 st2 r1 s2 => ?_⟩
 obtain ⟨Hs3, M3, g3, st3, v1, s3⟩ := Zaj (B := m1) g2 s2 r1 e3
 have z := Zr (m1 := fun _ => 0) g (g2.re fun b => by simp) (st2.drop (fun b => by simp) g2.le) g3 st3
 have st : Stp H Hs M H2 Hs3 (fun b => m1 b + M3 b) := z.2.1.drop (fun b => by simp) z.1.le
 exact hr x H2 Hs3 w m1 d g3.sub (fun b => by have : m1 b + M3 b <= 1 := g3.le b; omega) (fun b hb => g3.has b (by have : m1 b + M3 b <= 1 := g3.le b; show m1 b + M3 b = 1; omega)) v1 e6 (Zbu st g3 s3 q)
theorem Zm5 (ha : PE X a (tP X.K ca)) : PE X (.UnaryOp .USub a pos) (tM X.K ((ca.bnd view).bnd fun x => lift (negW x))) :=
 PE.imp (Zoi Zma ha) fun σ H Q h => op1 h fun x H Hs w m d g h1 h2 v e o => by
  unfold negW at e
  split at e
  . cases e; cases v; exact ⟨_, rfl, o.sc⟩
  . cases e
theorem Zm6 (h : View K H Hs v w m) (e : truW w = some t) : TruV K v H t := by
 cases h with
 | sc v m =>
  cases v with
  | bl b => cases e; rfl
  | int i => cases e; show decide (i ≠ 0) = (i != 0); rw [Bool.eq_iff_iff]; simp
  | str x =>
   have e : (if x.length <= sizeLine then some (decide (x.length ≠ 0)) else none) = some t := e
   split at e
   . rename_i q
     cases e
     exact ⟨q, by rw [Bool.eq_iff_iff]; simp⟩
   . cases e
  | non => cases e; rfl
  | _ => cases e
 | @nd a k vs ds m n r =>
  have l : (!vs.isEmpty) = !ds.isEmpty := by
   have := r.len
   cases vs <;> cases ds <;> simp at this ⊢
  cases k with
  | lst => cases e; exact .inl ⟨vs, .inl (.inl n), by rw [l]⟩
  | frl => cases e; exact .inl ⟨vs, n, by rw [l]⟩
  | tup => cases e; exact .inr (.inl ⟨vs, .inl (.inl n), by rw [l]⟩)
  | ftp => cases e; exact .inr (.inl ⟨vs, n, by rw [l]⟩)
  | dic ks =>
   cases e
   obtain ⟨hl, n⟩ := n
   refine .inr (.inr ⟨_, n, ?_⟩)
   rw [<- l]
   cases ks <;> cases vs <;> simp at hl ⊢
  | ins C fs => cases e
  | exc ns fr fs => cases e
theorem ZbU (ha : PE X e (tP X.K ca)) (he : ∀ whole, isTrue e X.env whole = (do let v <- whole; standAt e.pos; holding [v] (truthy v)) := by intro _; rfl) :
 PT X e (tT X.K (ca.bnd fun p => (view p).bnd fun w => lift (truW w))) := PT.imp (Zi4 ha he) fun σ H Q h => by
 obtain ⟨δ, Hs, M, t, δ', g, s, e, q⟩ := h
 obtain ⟨p, δ1, e1, e⟩ := Zb e
 obtain ⟨w, δ2, e3, e5⟩ := Zb e
 obtain ⟨e6, rfl⟩ := ZM e5
 refine ⟨δ, Hs, M, p, δ1, g, s, e1, fun x H2 Hs2 m1 M2 g2 st2 r1 s2 => ?_⟩
 obtain ⟨Hs3, M3, g3, st3, v1, s3⟩ := Zaj (B := m1) g2 s2 r1 e3
 have z := Zr (m1 := fun _ => 0) g (g2.re fun b => by simp) (st2.drop (fun b => by simp) g2.le) g3 st3
 exact ⟨t, Zm6 v1 e6, q H2 Hs3 M3 g3.re (z.2.1.drop (fun b => by simp) z.1.le) s3⟩
end
end T
namespace T
open PySem PySem.Spec L2
section
variable {X : Cx} {e a b c : Expr} {es rest : List Expr} {pos : Pos}
theorem PW.imp (h : PW X e t) (w : ∀ σ H Q, t' σ H Q -> t σ H Q) : PW X e t' := fun wh pins s σ H Q I q => h wh pins s σ H Q I (w σ H Q q)
theorem Zf9 (h : tT K (ca.bnd f) σ H Q) : tT K ca σ H fun t H1 => tT K (f t) σ H1 Q := by
 obtain ⟨δ, Hs, M, b, δ', g, s, e, q⟩ := h
 obtain ⟨t, δ1, e1, e2⟩ := Zb e
 refine ⟨δ, Hs, M, t, δ1, g, s, e1, fun H1 Hs1 M1 g1 st1 s1 => ⟨δ1, Hs1, M1, b, δ', g1, s1, e2, fun H2 Hs2 M2 g2 st2 s2 => ?_⟩⟩
 have z := Zr (m1 := fun _ => 0) g (g1.re fun b => by simp) (st1.drop (fun b => by simp) g1.le) g2 st2
 exact q H2 Hs2 M2 g2 (z.2.1.drop (fun b => by simp) z.1.le) s2
theorem Zeb (h : tT K (M.ret t) σ H Q) : Q t H := by
 obtain ⟨δ, Hs, M, b, δ', g, s, e, q⟩ := h
 have := Zf e
 cases this
 exact q H Hs M g (Stp.refl _ _ _) s
theorem ZkE (ha : PT X a (tT X.K ca)) : PW X (.BoolOp .And [a] pos) (tT X.K ca) := Zkf ha
theorem Zcq (ha : PT X a (tT X.K ca)) : PW X (.BoolOp .Or [a] pos) (tT X.K ca) := ZlK ha
theorem ZkF (ha : PT X a (tT X.K ca)) (hb : PW X (.BoolOp .And (b :: rest) pos) (tT X.K cb)) : PW X (.BoolOp .And (a :: b :: rest) pos) (tT X.K (ca.bnd fun t => if t then cb else M.ret false)) :=
 PW.imp (ZlL ha hb) fun σ H Q h => by
  obtain ⟨δ, Hs, M, t, δ', g, s, e, q⟩ := Zf9 h
  refine ⟨δ, Hs, M, t, δ', g, s, e, fun H' Hs' M' g' st s' => ?_⟩
  have z := q H' Hs' M' g' st s'
  cases t with
  | true => exact z
  | false => exact Zeb z
theorem ZbV (ha : PT X a (tT X.K ca)) (hb : PW X (.BoolOp .Or (b :: rest) pos) (tT X.K cb)) : PW X (.BoolOp .Or (a :: b :: rest) pos) (tT X.K (ca.bnd fun t => if t then M.ret true else cb)) :=
 PW.imp (ZnY ha hb) fun σ H Q h => by
  obtain ⟨δ, Hs, M, t, δ', g, s, e, q⟩ := Zf9 h
  refine ⟨δ, Hs, M, t, δ', g, s, e, fun H' Hs' M' g' st s' => ?_⟩
  have z := q H' Hs' M' g' st s'
  cases t with
  | false => exact z
  | true => exact Zeb z
theorem ZbN (ha : PT X a (tT X.K ca)) : PT X (.UnaryOp .Not a pos) (tT X.K (ca.bnd fun t => M.ret (!t))) :=
 PT.imp (ZlM ha) fun σ H Q h => by
  obtain ⟨δ, Hs, M, t, δ', g, s, e, q⟩ := Zf9 h
  exact ⟨δ, Hs, M, t, δ', g, s, e, fun H' Hs' M' g' st s' => Zeb (q H' Hs' M' g' st s')⟩
theorem Zib (h : tM K ((ca.bnd view).bnd f) σ H Q) : tP K ca σ H fun x H1 => ∃ (Hs : Hp) (w : W) (m : Bud), View K H1 Hs x w m /\ tM K (f w) σ H1 Q := by
 obtain ⟨δ, Hs, M, d, δ', g, s, e, q⟩ := h
 obtain ⟨w, δ2, e, e5⟩ := Zb e
 obtain ⟨p, δ1, e1, e3⟩ := Zb e
 refine ⟨δ, Hs, M, p, δ1, g, s, e1, fun x H2 Hs2 m1 M2 g2 st2 r1 s2 => ?_⟩
 obtain ⟨Hs3, M3, g3, st3, v1, s3⟩ := Zaj (B := m1) g2 s2 r1 e3
 refine ⟨Hs3, w, m1, v1, δ2, Hs3, M3, d, δ', g3.re, s3, e5, fun v H4 Hs4 m4 M4 g4 st4 r4 s4 => ?_⟩
 have z := Zr (m1 := fun _ => 0) g (g2.re fun b => by simp) (st2.drop (fun b => by simp) g2.le) g3 st3
 have st : Stp H Hs M H2 Hs3 (fun b => m1 b + M3 b) := z.2.1.drop (fun b => by simp) z.1.le
 have z := Zr (m1 := m1) (M1 := M3) g g3 st g4 st4
 exact q v H4 Hs4 m4 M4 g4 (z.2.1.drop (fun b => by omega) z.1.le) r4 s4
theorem Zic (h : tM K (M.ret (.sc v)) σ H Q) : Q v H := by
 obtain ⟨δ, Hs, M, b, δ', g, s, e, q⟩ := h
 have := Zf e
 cases this
 exact q v H Hs (fun _ => 0) M (Zat g) (stp0 _ _ _) (.sc v _) s
theorem Zec (h : tM K stk σ H Q) : False := by
 obtain ⟨δ, Hs, M, b, δ', g, s, e, q⟩ := h
 cases e
theorem Zm7 {op} (ha : PE X a (tM X.K ca)) : PE X (.BoolOp op [a] pos) (tM X.K ca) := ZlN ha
theorem ZkG (ha : PE X a (tP X.K ca)) (hb : PE X (.BoolOp .And (b :: rest) pos) (tM X.K cb)) : PE X (.BoolOp .And (a :: b :: rest) pos) (tM X.K ((ca.bnd view).bnd (andM cb))) :=
 PE.imp (ZlO ha hb) fun σ H Q h => by
  obtain ⟨δ, Hs, M, t, δ', g, s, e, q⟩ := Zib h
  refine ⟨δ, Hs, M, t, δ', g, s, e, fun v H' Hs' m M' g' st r s' => ?_⟩
  obtain ⟨Hs2, w, m2, v2, z⟩ := q v H' Hs' m M' g' st r s'
  cases v2 with
  | sc u _ => cases v with
   | bl t => cases t with
    | true => exact ⟨true, rfl, z⟩
    | false => exact ⟨false, rfl, Zic z⟩
   | _ => exact (Zec z).elim
  | nd n r => exact (Zec z).elim
theorem ZkH (ha : PE X a (tP X.K ca)) : PE X (.UnaryOp .Not a pos) (tM X.K ((ca.bnd view).bnd fun w => lift (notW w))) :=
 PE.imp (ZlP ha) fun σ H Q h => by
  obtain ⟨δ, Hs, M, t, δ', g, s, e, q⟩ := Zib h
  refine ⟨δ, Hs, M, t, δ', g, s, e, fun v H' Hs' m M' g' st r s' => ?_⟩
  obtain ⟨Hs2, w, m2, v2, z⟩ := q v H' Hs' m M' g' st r s'
  cases v2 with
  | sc u _ => cases v with
   | bl t => exact ⟨t, rfl, Zic z⟩
   | _ => exact (Zec z).elim
  | nd n r => exact (Zec z).elim
theorem RepL.at {K : Fg} {H Hs : Hp} {vs : List V} {ds : List D} {m : Bud} {j : Nat} {d : D} (r : RepL K H Hs vs ds m) (e : ds[j]? = some d) : ∃ (v : V) (m1 : Bud), vs[j]? = some v /\ Rep K H Hs v d m1 /\ ∀ b, m1 b <= m b := r.sep.get e
theorem Outs.part (h : Outs K H Hs m d Q) (hm : ∀ b, m b <= 1) (hh : ∀ b, m b = 1 -> H b ≠ none) (l : ∀ b, m1 b <= m b) (r : Rep K H Hs v d m1) : Q v H :=
 h v H m1 (Same.refl _) (fun b => Nat.le_trans (l b) (hm b)) (fun b e => hh b (by have := l b; have := hm b; omega)) (fun b _ => l b) r
theorem Zm8 (n : Nat) (i : Int) : ixN' n i = ixN n i := rfl
theorem ZoD : IxR X (r2W X.K ixW) := by
 intro value slice pins s σ H x y v u Q I rx ry h hsl
 obtain ⟨Hs, w1, w2, m1, m2, d, hs, h1, h2, v1, v2, e, o⟩ := h
 have fin : ∀ {ds : List D} {vs : List V} {i : Int}, RepL X.K H Hs vs ds m1 -> ((ixN' ds.length i).bind fun j => ds[j]?) = some d -> ∃ z, atI vs i = some z /\ Q z H := fun {ds vs i} r e => by
  simp only [Option.bind_eq_some_iff] at e
  obtain ⟨j, e1, e2⟩ := e
  obtain ⟨z, m3, e3, rz, l⟩ := r.at e2
  refine ⟨z, ?_, o.part h1 h2 (fun b => by have := l b; omega) rz⟩
  unfold atI
  rw [r.len, <- Zm8, e1]
  exact e3
 unfold ixW at e
 split at e
 . cases v1 with
   | nd n r => cases v2; obtain ⟨z, e1, q⟩ := fin r e; exact Zg4 value slice pins s σ H _ _ v u Q I rx ry ⟨_, _, _, z, rfl, rfl, .inl (.inl n), e1, q⟩ hsl
 . cases v1 with
   | nd n r => cases v2; obtain ⟨z, e1, q⟩ := fin r e; exact Zg4 value slice pins s σ H _ _ v u Q I rx ry ⟨_, _, _, z, rfl, rfl, n, e1, q⟩ hsl
 . cases v1 with
   | nd n r => cases v2; obtain ⟨z, e1, q⟩ := fin r e; exact ZhN value slice pins s σ H _ _ v u Q I rx ry ⟨_, _, _, z, rfl, rfl, .inl (.inl n), e1, q⟩ hsl
 . cases v1 with
   | nd n r => cases v2; obtain ⟨z, e1, q⟩ := fin r e; exact ZhN value slice pins s σ H _ _ v u Q I rx ry ⟨_, _, _, z, rfl, rfl, n, e1, q⟩ hsl
 . split at e
   . rename_i z i hz
     cases v1; cases v2
     simp only [Option.map_eq_some_iff] at e
     obtain ⟨c, e, rfl⟩ := e
     exact Zmf value slice pins s σ H _ _ v u Q I rx ry ⟨_, _, c, rfl, rfl, hz, e, o.sc⟩ hsl
   . cases e
 . cases e
end
end T
namespace T
open PySem PySem.Spec L2
section
variable {X : Cx} {e a b c : Expr} {es rest : List Expr} {pos : Pos}
theorem tG.mono {α : Type} {K : Fg} {c : M α} {R : Hp -> Hp -> St -> α -> V -> Bud -> Prop} {σ : St} {H : Hp} {Q Q' : VK} (h : tG K c R σ H Q) (w : ∀ v H', Q v H' -> Q' v H') : tG K c R σ H Q' := by
 obtain ⟨δ, Hs, M, a, δ', g, s, e, q⟩ := h
 exact ⟨δ, Hs, M, a, δ', g, s, e, fun v H' Hs' m M' g' st r s' => w v H' (q v H' Hs' m M' g' st r s')⟩
theorem RepL.take (r : RepL K H Hs vs ds m) (n : Nat) : RepL K H Hs (vs.take n) (ds.take n) m := (r.sep.take n).repL
theorem RepL.drop (r : RepL K H Hs vs ds m) (n : Nat) : RepL K H Hs (vs.drop n) (ds.drop n) m := (r.sep.drop n).repL
def rSlW (K : Fg) : V -> Option Int -> Option Int -> Hp -> VK -> Prop := fun x lo hi H Q => ∃ (Hs : Hp) (w : W) (m : Bud) (d : D), Same Hs H /\ (∀ b, m b <= 1) /\ (∀ b, m b = 1 -> H b ≠ none) /\ View K H Hs x w m /\ slD w lo hi = some d /\ Outs K H Hs m d Q
theorem ZoE : SlR X (rSlW X.K) := by
 intro pins s σ H x v vl vu lo hi sl Q I rx hsl pl pu h
 obtain ⟨Hs, w, m, d, hs, h1, h2, v1, e, o⟩ := h
 have go : ∀ {a : Addr} {vs : List V} {ds : List D}, RepL X.K H Hs vs ds m -> d = .node .lst true (cutD ds lo hi) -> ∀ p, H p = none -> Q (.ref p) (upd H p (.lst (cutV vs lo hi))) := fun {a vs ds} r e p hp => by
  subst e
  refine o.new h1 h2 hp (vs := cutV vs lo hi) Zi ?_
  unfold cutV cutD
  rw [r.len]
  exact (r.drop _).take _
 unfold slD at e
 split at e
 . cases v1 with
   | nd n r => exact Zg5 pins s σ H _ v vl vu lo hi sl Q I rx hsl pl pu ⟨_, _, rfl, .inl (.inl n), go (a := 0) r (Option.some.inj e).symm⟩
 . cases v1 with
   | nd n r => exact Zg5 pins s σ H _ v vl vu lo hi sl Q I rx hsl pl pu ⟨_, _, rfl, n, go (a := 0) r (Option.some.inj e).symm⟩
 . split at e
   . rename_i hz
     cases e
     cases v1
     exact Zmx pins s σ H _ v vl vu lo hi sl Q I rx hsl pl pu ⟨_, rfl, hz, o.sc⟩
   . cases e
 . cases e
inductive tW (K : Fg) (c : M (Option Int)) (σ : St) (H : Hp) (Q : Option Int -> Hp -> Prop) : Prop
 | mk (δ : List D) (Hs : Hp) (M : Bud) (l : Option Int) (δ' : List D) (h0 : Good H Hs M) (h1 : RepS K H Hs σ δ M) (h2 : c δ = .ok (l, δ')) (h3 : ∀ (H' Hs' : Hp) (M' : Bud), Good H' Hs' M' -> Stp H Hs M H' Hs' M' -> RepS K H' Hs' σ δ' M' -> Q l H') : tW K c σ H Q
theorem PO.imp (h : PO X o t) (w : ∀ σ H Q, t' σ H Q -> t σ H Q) : PO X o t' := fun pins s σ H Q I q => h pins s σ H Q I (w σ H Q q)
theorem ZbJ : PO X none (tW X.K (M.ret none)) := PO.imp Zkr fun σ H Q h => by
 obtain ⟨δ, Hs, M, b, δ', g, s, e, q⟩ := h
 have := Zf e
 cases this
 exact q H Hs M g (Stp.refl _ _ _) s
theorem Zax (ha : PE X a (tP X.K ca)) : PO X (some a) (tW X.K ((ca.bnd view).bnd fun w => lift (intP w))) := PO.imp (Zks ha) fun σ H Q h => by
 obtain ⟨δ, Hs, M, l, δ', g, s, e, q⟩ := h
 obtain ⟨w, δ2, e, e5⟩ := Zb e
 obtain ⟨p, δ1, e1, e3⟩ := Zb e
 obtain ⟨e6, rfl⟩ := ZM e5
 refine ⟨δ, Hs, M, p, δ1, g, s, e1, fun x H2 Hs2 m1 M2 g2 st2 r1 s2 => ?_⟩
 obtain ⟨Hs3, M3, g3, st3, v1, s3⟩ := Zaj (B := m1) g2 s2 r1 e3
 have z := Zr (m1 := fun _ => 0) g (g2.re fun b => by simp) (st2.drop (fun b => by simp) g2.le) g3 st3
 have fin := q H2 Hs3 M3 g3.re (z.2.1.drop (fun b => by simp) z.1.le) s3
 cases v1 with
 | sc u _ => cases x with
  | int i => cases e6; exact ⟨i, rfl, fin⟩
  | _ => cases e6
 | nd n r => cases e6
variable {lo hi : Option Expr} {ca : M Op} {cl ch : M (Option Int)} {p2 : Pos}
theorem Zb1 (ha : PE X a (tP X.K ca)) (hl : PO X lo (tW X.K cl)) (hh : PO X hi (tW X.K ch)) :
 PE X (.Subscript a (.Slice lo hi none p2) pos) (tM X.K (ca.bnd fun p => cl.bnd fun l => ch.bnd fun h => (view p).bnd fun x => lift (slD x l h))) :=
 PE.imp (Zi8 ZoE ha hl hh) fun σ H Q h => by
  obtain ⟨δ, Hs, M, d, δ', g, s, e, q⟩ := h
  obtain ⟨p, δ1, e1, e⟩ := Zb e
  obtain ⟨l, δ2, e2, e⟩ := Zb e
  obtain ⟨u, δ3, e3, e⟩ := Zb e
  obtain ⟨w, δ4, e4, e⟩ := Zb e
  obtain ⟨e7, rfl⟩ := ZM e
  refine ⟨δ, Hs, M, p, δ1, g, s, e1, fun x H1 Hs1 m1 M1 g1 st1 r1 s1 => ⟨δ1, Hs1, M1, l, δ2, g1.re, s1, e2, fun H2 Hs2 M2 g2 st2 s2 => ⟨δ2, Hs2, M2, u, δ3, g2, s2, e3, fun H3 Hs3 M3 g3 st3 s3 => ?_⟩⟩⟩
  obtain ⟨G2, S2, k2⟩ := Zr g g1 st1 g2 st2
  obtain ⟨G3, S3, k3⟩ := Zr g G2 S2 g3 st3
  have r2 := RepP.frame st2.grow k2 r1
  have r3 := RepP.frame st3.grow (fun b hb hn => k3 b hb hn) r2
  obtain ⟨Hs4, M4, g4, st4, v4, s4⟩ := Zaj (B := m1) G3 s3 r3 e4
  have z := Zr (m1 := fun _ => 0) g (G3.re fun b => by simp) (S3.drop (fun b => by simp) G3.le) g4 st4
  have S4 : Stp H Hs M H3 Hs4 (fun b => m1 b + M4 b) := z.2.1.drop (fun b => by simp) z.1.le
  have le : ∀ b, m1 b + M4 b <= 1 := g4.le
  exact ⟨Hs4, w, m1, d, g4.sub, fun b => by have := le b; omega, fun b hb => g4.has b (by have := le b; show m1 b + M4 b = 1; omega), v4, e7, Zbu S4 g4 s4 q⟩
theorem Ze2 : ∀ {fs : List Str} {vs : List V} {ds : List D} {m : Bud} {d : D}, RepL K H Hs vs ds m -> fs.length = vs.length -> Zce f fs ds = some d -> ∃ (v : V) (m1 : Bud), (fs.zip vs).lookup f = some v /\ Rep K H Hs v d m1 /\ ∀ b, m1 b <= m b
 | [], _, _, _, _, _, _, h => by simp [Zce] at h
 | _ :: _, _, _, _, _, .nil _, hl, h => by simp at hl
 | g :: fs, v :: vs, d' :: ds, m, d, .cons (m1 := m1) (m2 := m2) x y c, hl, h => by
  simp only [Zce] at h
  by_cases e : g = f
  . rw [if_pos e] at h
    cases h
    refine ⟨v, m1, ?_, x, fun b => by have := c b; omega⟩
    subst e
    simp [List.lookup]
  . rw [if_neg e] at h
    obtain ⟨v', m', h1, h2, h3⟩ := Ze2 y (by simpa using hl) h
    refine ⟨v', m', ?_, h2, fun b => by have := c b; have := h3 b; omega⟩
    rw [List.zip_cons_cons]
    have hb : (f == g) = false := beq_eq_false_iff_ne.mpr (fun q => e q.symm)
    simp only [List.lookup, hb]
    exact h1
theorem Zid (hf : ∀ C f, ok C f = true -> Cls X.K C /\ ZD X.K C f) (ha : PE X a (tP X.K ca)) (hb : attributeBase a f X.env (eval a X.env) = eval a X.env := by rfl) :
 PE X (.Attribute a f pos) (tM X.K ((ca.bnd view).bnd fun x => lift (fldW ok f x))) :=
 PE.imp (Zmc ha hb) fun σ H Q h => op1 (r := fun x H1 Q => ∃ a C dx fs v, x = .ref a /\ H1 a = some (.ins C dx fs) /\ Cls X.K C /\ ZD X.K C f /\ fs.lookup f = some v /\ Q v H1) h fun x H Hs w m d g h1 h2 v e o => by
  unfold fldW at e
  split at e
  . split at e
    . rename_i C fs ds hok
      cases v with
      | nd n r =>
       obtain ⟨hl, dx, n⟩ := n
       obtain ⟨z, m1, e1, rz, l⟩ := Ze2 r hl e
       exact ⟨_, C, dx, _, z, rfl, n, (hf C f hok).1, (hf C f hok).2, e1, o.part h1 h2 l rz⟩
    . cases e
  . cases e
theorem Zg : PA X [] (tPs X.K (M.ret [])) := PA.imp Zb5 fun σ H Q h => by
 obtain ⟨δ, Hs, M, b, δ', g, s, e, q⟩ := h
 have := Zf e
 cases this
 exact q [] H Hs (fun _ => 0) M (Zat g) (stp0 _ _ _) trivial s
theorem Ze (ha : PE X e (tP X.K ca)) (hr : PA X es (tPs X.K cs)) (hs : starEach (e :: es) X.env = (false, eval e X.env) :: starEach es X.env := by rfl) :
 PA X (e :: es) (tPs X.K (ca.bnd fun p => cs.bnd fun ps => M.ret (p :: ps))) := PA.imp (Zai ha hr hs) fun σ H Q h => by
 obtain ⟨δ, Hs, M, b, δ', g, s, e, q⟩ := h
 obtain ⟨p, δ1, e1, e⟩ := Zb e
 obtain ⟨ps, δ2, e2, e⟩ := Zb e
 have := Zf e
 cases this
 refine ⟨δ, Hs, M, p, δ1, g, s, e1, fun x H1 Hs1 m1 M1 g1 st1 r1 s1 => ⟨δ1, Hs1, M1, ps, _, g1.re, s1, e2, fun xs H2 Hs2 m2 M2 g2 st2 r2 s2 => ?_⟩⟩
 obtain ⟨G2, S2, k2⟩ := Zr g g1 st1 g2 st2
 exact q (x :: xs) H2 Hs2 (fun b => m1 b + m2 b) M2 (G2.re fun b => by omega) (S2.drop (fun b => by omega) G2.le) ⟨m1, m2, r1.frame st2.grow k2, r2, fun b => Nat.le_refl _⟩ s2
theorem Z4 : PA X [] (tDs X.K (M.ret [])) := PA.imp Zb5 fun σ H Q h => by
 obtain ⟨δ, Hs, M, b, δ', g, s, e, q⟩ := h
 have := Zf e
 cases this
 exact q [] H Hs (fun _ => 0) M (Zat g) (stp0 _ _ _) (.nil _) s
theorem Zm {c : M D} {cs : M (List D)} (ha : PE X e (tM X.K c)) (hr : PA X es (tDs X.K cs)) (hs : starEach (e :: es) X.env = (false, eval e X.env) :: starEach es X.env := by rfl) :
 PA X (e :: es) (tDs X.K (c.bnd fun p => cs.bnd fun ps => M.ret (p :: ps))) := PA.imp (Zai ha hr hs) fun σ H Q h => by
 obtain ⟨δ, Hs, M, b, δ', g, s, e, q⟩ := h
 obtain ⟨p, δ1, e1, e⟩ := Zb e
 obtain ⟨ps, δ2, e2, e⟩ := Zb e
 have := Zf e
 cases this
 refine ⟨δ, Hs, M, p, δ1, g, s, e1, fun x H1 Hs1 m1 M1 g1 st1 r1 s1 => ⟨δ1, Hs1, M1, ps, _, g1.re, s1, e2, fun xs H2 Hs2 m2 M2 g2 st2 r2 s2 => ?_⟩⟩
 obtain ⟨G2, S2, k2⟩ := Zr g g1 st1 g2 st2
 exact q (x :: xs) H2 Hs2 (fun b => m1 b + m2 b) M2 (G2.re fun b => by omega) (S2.drop (fun b => by omega) G2.le) (.cons (r1.frame st2.grow k2) r2 fun b => Nat.le_refl _) s2
theorem Zg9 {K : Fg} {cs : M (List D)} {f : List D -> Option D} {σ : St} {H : Hp} {Q : VK} (h : tM K (cs.bnd fun ds => lift (f ds)) σ H Q) : tDs K cs σ H fun vs H1 => ∃ (Hs : Hp) (m : Bud) (ds : List D) (d : D), (∀ b, m b <= 1) /\ (∀ b, m b = 1 -> H1 b ≠ none) /\ RepL K H1 Hs vs ds m /\ f ds = some d /\ Outs K H1 Hs m d Q := by
 obtain ⟨δ, Hs, M, b, δ', g, s, e, q⟩ := h
 obtain ⟨ds, δ1, e1, e⟩ := Zb e
 obtain ⟨e2, rfl⟩ := ZM e
 refine ⟨δ, Hs, M, ds, _, g, s, e1, fun vs H1 Hs1 m1 M1 g1 st1 r1 s1 => ⟨Hs1, m1, ds, b, fun b => by have : m1 b + M1 b <= 1 := g1.le b; omega, fun b hb => g1.has b (by have : m1 b + M1 b <= 1 := g1.le b; show m1 b + M1 b = 1; omega), r1, e2, Zbu st1 g1 s1 q⟩⟩
theorem ZP (h : PA X es (tDs X.K cs)) : PE X (.List es pos) (tM X.K (cs.bnd fun ds => lift (newL ds))) := PE.imp (ZhK h) fun σ H Q hq => by
 obtain ⟨δ, Hs, M, ds, δ', g, s, e, q⟩ := Zg9 hq
 refine ⟨δ, Hs, M, ds, δ', g, s, e, fun vs H1 Hs1 m1 M1 g1 st1 r1 s1 => ?_⟩
 obtain ⟨Hs2, m, ds, d, h1, h2, r, e, o⟩ := q vs H1 Hs1 m1 M1 g1 st1 r1 s1
 unfold newL at e
 split at e
 . rename_i hl
   cases e
   exact ⟨by rw [r.len]; exact hl, fun p hp => o.new h1 h2 hp (vs := vs) Zi r⟩
 . cases e
theorem ZbW (h : PA X es (tDs X.K cs)) : PE X (.Tuple es k pos) (tM X.K (cs.bnd fun ds => lift (newT ds))) := PE.imp (Zme h) fun σ H Q hq => by
 obtain ⟨δ, Hs, M, ds, δ', g, s, e, q⟩ := Zg9 hq
 refine ⟨δ, Hs, M, ds, δ', g, s, e, fun vs H1 Hs1 m1 M1 g1 st1 r1 s1 => ?_⟩
 obtain ⟨Hs2, m, ds, d, h1, h2, r, e, o⟩ := q vs H1 Hs1 m1 M1 g1 st1 r1 s1
 unfold newT at e
 split at e
 . rename_i hl
   cases e
   exact ⟨by rw [r.len]; exact hl, fun p hp => o.new h1 h2 hp (vs := vs) Zi r⟩
 . cases e
end
end T
namespace T
open PySem PySem.Spec L2
def Views (K : Fg) (H Hs : Hp) : List V -> List W -> Bud -> Prop
 | [], [], _ => True
 | v :: vs, w :: ws, m => ∃ m1 m2 : Bud, View K H Hs v w m1 /\ Views K H Hs vs ws m2 /\ ∀ b, m1 b + m2 b <= m b
 | _, _, _ => False
theorem ZfA {K : Fg} {H : Hp} {σ : St} {B : Bud} : ∀ {ps : List Op} {vs : List V} {Hs : Hp} {δ δ' : List D} {M m : Bud} {ws : List W}, Good H Hs (fun b => B b + M b) -> RepS K H Hs σ δ M -> ZaL K H Hs σ vs ps m -> views ps δ = .ok (ws, δ') ->
 ∃ Hs' M', Good H Hs' (fun b => B b + M' b) /\ Stp H Hs (fun b => B b + M b) H Hs' (fun b => B b + M' b) /\ Views K H Hs' vs ws m /\ RepS K H Hs' σ δ' M'
 | [], [], Hs, δ, δ', M, m, ws, g, s, r, e => by
  have := Zf e
  cases this
  exact ⟨Hs, M, g, Stp.refl _ _ _, trivial, s⟩
 | [], _ :: _, _, _, _, _, _, _, _, _, r, _ => r.elim
 | _ :: _, [], _, _, _, _, _, _, _, _, r, _ => r.elim
 | p :: ps, v :: vs, Hs, δ, δ', M, m, ws, g, s, ⟨m1, m2, r1, r2, l⟩, e => by
  obtain ⟨w, δ1, e1, e⟩ := Zb e
  obtain ⟨ws', δ2, e2, e⟩ := Zb e
  have := Zf e
  cases this
  obtain ⟨Hs1, M1, g1, st1, v1, s1⟩ := Zaj g s r1 e1
  obtain ⟨Hs2, M2, g2, st2, v2, s2⟩ := ZfA g1 s1 (r2.frame st1.grow fun _ _ _ => rfl) e2
  have z := Zr (m1 := fun _ => 0) g (g1.re fun b => by simp) (st1.drop (fun b => by simp) g1.le) g2 st2
  exact ⟨Hs2, M2, g2, z.2.1.drop (fun b => by simp) z.1.le, ⟨m1, m2, v1.frame st2.grow, v2, l⟩, s2⟩
inductive rNW (K : Fg) (f : List W -> Option D) (vs : List V) (H : Hp) (Q : VK) : Prop
 | mk (Hs : Hp) (ws : List W) (m : Bud) (d : D) (h0 : Same Hs H) (h1 : (∀ b, m b <= 1)) (h2 : (∀ b, m b = 1 -> H b ≠ none)) (h3 : Views K H Hs vs ws m) (h4 : f ws = some d) (h5 : Outs K H Hs m d Q) : rNW K f vs H Q
theorem opN (h : tM K (cs.bnd fun ps => (views ps).bnd fun ws => lift (f ws)) σ H Q) : tPs K cs σ H fun vs H1 => rNW K f vs H1 Q := by
 obtain ⟨δ, Hs, M, d, δ', g, s, e, q⟩ := h
 obtain ⟨ps, δ1, e1, e⟩ := Zb e
 obtain ⟨ws, δ2, e2, e⟩ := Zb e
 obtain ⟨e3, rfl⟩ := ZM e
 refine ⟨δ, Hs, M, ps, δ1, g, s, e1, fun vs H1 Hs1 m1 M1 g1 st1 r1 s1 => ?_⟩
 obtain ⟨Hs2, M2, g2, st2, v2, s2⟩ := ZfA (B := m1) g1 s1 r1 e2
 have z := Zr (m1 := fun _ => 0) g (g1.re fun b => by simp) (st1.drop (fun b => by simp) g1.le) g2 st2
 have S : Stp H Hs M H1 Hs2 (fun b => m1 b + M2 b) := z.2.1.drop (fun b => by simp) z.1.le
 have le : ∀ b, m1 b + M2 b <= 1 := g2.le
 exact ⟨Hs2, ws, m1, d, g2.sub, fun b => by have := le b; omega, fun b hb => g2.has b (by have := le b; show m1 b + M2 b = 1; omega), v2, e3, Zbu S g2 s2 q⟩
theorem Views.one (h : Views K H Hs vs [w] m) : ∃ (v : V) (m1 : Bud), vs = [v] /\ View K H Hs v w m1 /\ ∀ b, m1 b <= m b := by
 cases vs with
 | nil => exact h.elim
 | cons v vs =>
  obtain ⟨m1, m2, h1, h2, l⟩ := h
  cases vs with
  | nil => exact ⟨v, m1, rfl, h1, fun b => by have := l b; omega⟩
  | cons _ _ => exact h2.elim
theorem Views.two (h : Views K H Hs vs [w, w'] m) : ∃ (v v' : V) (m1 m2 : Bud), vs = [v, v'] /\ View K H Hs v w m1 /\ View K H Hs v' w' m2 /\ ∀ b, m1 b + m2 b <= m b := by
 cases vs with
 | nil => exact h.elim
 | cons v vs =>
  obtain ⟨m1, m2, h1, h2, l⟩ := h
  obtain ⟨v', m3, rfl, h3, l'⟩ := Views.one h2
  exact ⟨v, v', m1, m3, rfl, h1, h3, fun b => by have := l b; have := l' b; omega⟩
section
variable {X : Cx} {e : Expr} {es : List Expr} {pos p : Pos} {x : Str} {id ty : String} {f : BF} {cs : M (List Op)}
theorem ZQ (hc : Zag X (.builtin id) (rNW X.K (bfW f))) (hm : X.mg x = none) (hv : bootBuiltins x = some (.builtin id)) (ha : PA X (e :: es) (tPs X.K cs)) (hz : glOk X.env.scope x = true := by kernel_rfl) (he : starEach (e :: es) X.env = (false, eval e X.env) :: starEach es X.env := by rfl) (hpl : (backTo pos (starEach es X.env)).any (·.1) = false := by rfl) :
 PE X (.Call (.Name x p) (e :: es) [] pos) (tM X.K (cs.bnd fun ps => (views ps).bnd fun ws => lift (bfW f ws))) := PE.imp (Zc1 hc (glk hz) hm hv ha (nmk hz) (dbk hz) he hpl) fun σ H Q h => opN h
theorem Zak (hc : Zag X (.type ty) (rNW X.K (bfW f))) (hm : X.mg x = none) (hv : bootBuiltins x = some (.type ty)) (ha : PA X (e :: es) (tPs X.K cs)) (hz : glOk X.env.scope x = true := by kernel_rfl) (he : starEach (e :: es) X.env = (false, eval e X.env) :: starEach es X.env := by rfl) (hpl : (backTo pos (starEach es X.env)).any (·.1) = false := by rfl) :
 PE X (.Call (.Name x p) (e :: es) [] pos) (tM X.K (cs.bnd fun ps => (views ps).bnd fun ws => lift (bfW f ws))) := PE.imp (ZhM hc (glk hz) hm hv ha (nmk hz) (dbk hz) he hpl) fun σ H Q h => opN h
theorem Zad : Zag X (.builtin "len") (rNW X.K (bfW .len)) := by
 intro pins s σ H xs us Q I r h
 obtain ⟨Hs, ws, m, d, hs, h1, h2, v, e, o⟩ := h
 replace e : lenB _ = _ := e
 unfold lenB at e
 split at e <;> first | (rename_i z; cases z; done) | skip
 all_goals first
  | (obtain ⟨y, m1, rfl, v, l⟩ := v.one
     cases v with
     | nd n r' =>
      have hl := r'.len
      cases e
      first
      | exact ZaZ pins s σ H _ us Q I r ⟨_, _, rfl, .inl (.inl (.inl n)), by rw [hl]; exact o.sc⟩
      | exact ZaZ pins s σ H _ us Q I r ⟨_, _, rfl, .inl n, by rw [hl]; exact o.sc⟩
      | exact ZaZ pins s σ H _ us Q I r ⟨_, _, rfl, .inr n, by rw [hl]; exact o.sc⟩
      | exact ZaZ pins s σ H _ us Q I r ⟨_, _, rfl, .inr (.inl (.inl n)), by rw [hl]; exact o.sc⟩
      | (obtain ⟨n1, n2⟩ := n
         exact ZhT pins s σ H _ us Q I r ⟨_, _, rfl, n2, by rw [List.length_zip, n1, Nat.min_self, hl]; exact o.sc⟩))
  | (obtain ⟨y, m1, rfl, v, l⟩ := v.one
     split at e
     . rename_i hz
       cases e
       cases v
       exact Zfw pins s σ H _ us Q I r ⟨_, rfl, hz, o.sc⟩
     . cases e)
  | cases e
theorem Zal : Zag X (.type "str") (rNW X.K (bfW .str)) := by
 intro pins s σ H xs us Q I r h
 obtain ⟨Hs, ws, m, d, hs, h1, h2, v, e, o⟩ := h
 replace e : strB _ = _ := e
 unfold strB at e
 split at e <;> first | (rename_i z; cases z; done) | skip
 all_goals first
  | (obtain ⟨y, m1, rfl, v, l⟩ := v.one
     split at e
     . rename_i hz
       cases v
       cases e
       exact Zfs pins s σ H _ us Q I r ⟨_, rfl, hz, o.sc⟩
     . cases e)
  | cases e
theorem ZcW : ∀ {ds : List D} {vs : List V} {m : Bud} {is : List Bool}, RepL K H Hs vs ds m -> ZaH ds = some is -> vs = is.map V.bl
 | [], _, _, is, .nil _, h => by simp only [ZaH, Option.some.injEq] at h; subst h; rfl
 | d :: ds, _, _, is, .cons x y _, h => by
  unfold ZaH at h
  split at h
  . rename_i hh; cases hh
  . rename_i i r hh
    injection hh with h1 h2
    subst h1 h2
    (simp only [Option.map_eq_some_iff] at h)
    obtain ⟨js, h, rfl⟩ := h
    cases x
    rw [ZcW y h]
    rfl
  . cases h
theorem Zm9 (hc : X.calm = true) : Zag X (.builtin "all") (rNW X.K (bfW .all)) := by
 intro pins s σ H xs us Q I r h
 obtain ⟨Hs, ws, m, d, hs, h1, h2, v, e, o⟩ := h
 replace e : allB _ = _ := e
 unfold allB at e
 split at e <;> first | (rename_i z; cases z; done) | skip
 all_goals first
  | (obtain ⟨y, m1, rfl, v, l⟩ := v.one
     cases v with
     | nd n r' =>
      simp only [Option.map_eq_some_iff] at e
      obtain ⟨is, e, rfl⟩ := e
      have ei := ZcW r' e
      subst ei
      exact ZiS hc pins s σ H _ us Q I r ⟨_, _, rfl, .inl (.inl n), o.sc⟩)
  | cases e
theorem ZmA (hc : X.calm = true) : Zag X (.builtin "any") (rNW X.K (bfW .any)) := by
 intro pins s σ H xs us Q I r h
 obtain ⟨Hs, ws, m, d, hs, h1, h2, v, e, o⟩ := h
 replace e : anyB _ = _ := e
 unfold anyB at e
 split at e <;> first | (rename_i z; cases z; done) | skip
 all_goals first
  | (obtain ⟨y, m1, rfl, v, l⟩ := v.one
     cases v with
     | nd n r' =>
      simp only [Option.map_eq_some_iff] at e
      obtain ⟨is, e, rfl⟩ := e
      have ei := ZcW r' e
      subst ei
      exact ZiT hc pins s σ H _ us Q I r ⟨_, _, rfl, .inl (.inl n), o.sc⟩)
  | cases e
theorem ZmB (hc : X.calm = true) : Zag X (.builtin "min") (rNW X.K (bfW .min)) := by
 intro pins s σ H xs us Q I r h
 obtain ⟨Hs, ws, m, d, hs, h1, h2, v, e, o⟩ := h
 replace e : minB _ = _ := e
 unfold minB at e
 split at e <;> first | (rename_i z; cases z; done) | skip
 all_goals first
  | (obtain ⟨y, y', m1, m2, rfl, v, v', l⟩ := v.two
     cases v
     cases v'
     cases e
     exact ZhI hc pins s σ H _ us Q I r ⟨_, _, rfl, o.sc⟩)
  | cases e
end
end T
namespace T
open PySem PySem.Spec L2
noncomputable def kitB (a b : String) : Option Bool := if (Value.type a == Value.type b) = true then some true else if PySem.W.kitMeta b = true then (PySem.fastBuiltinMro a).map (·.contains (.type b)) else none
theorem Zbv (K : Fg) (a b : String) : PySem.W.kitOne K (.type a) (.type b) = kitB a b := rfl
noncomputable def tyS : Ty -> Option String
 | .int => some "int" | .bool => some "bool" | .str => some "str" | .list => some "list" | .tuple => some "tuple" | .dict => some "dict" | .own _ => none
theorem ZoF : kitB "int" "int" = some true := by decide +kernel
theorem ZoG : kitB "bool" "int" = some true := by decide +kernel
theorem ZoH : kitB "str" "int" = some false := by decide +kernel
theorem ZoI : kitB "NoneType" "int" = some false := by decide +kernel
theorem ZoJ : kitB "list" "int" = some false := by decide +kernel
theorem ZoK : kitB "tuple" "int" = some false := by decide +kernel
theorem ZoL : kitB "bool" "bool" = some true := by decide +kernel
theorem ZoM : kitB "int" "bool" = some false := by decide +kernel
theorem ZoN : kitB "str" "bool" = some false := by decide +kernel
theorem ZoO : kitB "NoneType" "bool" = some false := by decide +kernel
theorem ZoP : kitB "list" "bool" = some false := by decide +kernel
theorem ZoQ : kitB "tuple" "bool" = some false := by decide +kernel
theorem ZoR : kitB "str" "str" = some true := by decide +kernel
theorem ZoS : kitB "int" "str" = some false := by decide +kernel
theorem ZoT : kitB "bool" "str" = some false := by decide +kernel
theorem ZoU : kitB "NoneType" "str" = some false := by decide +kernel
theorem ZoV : kitB "list" "str" = some false := by decide +kernel
theorem ZoW : kitB "dict" "str" = some false := by decide +kernel
theorem ZoX : kitB "tuple" "str" = some false := by decide +kernel
theorem ZoY : kitB "list" "list" = some true := by decide +kernel
theorem ZoZ : kitB "tuple" "list" = some false := by decide +kernel
theorem Zpa : kitB "int" "list" = some false := by decide +kernel
theorem Zpb : kitB "bool" "list" = some false := by decide +kernel
theorem Zpc : kitB "str" "list" = some false := by decide +kernel
theorem Zpd : kitB "NoneType" "list" = some false := by decide +kernel
theorem Zpe : kitB "tuple" "tuple" = some true := by decide +kernel
theorem Zpf : kitB "list" "tuple" = some false := by decide +kernel
theorem Zpg : kitB "int" "tuple" = some false := by decide +kernel
theorem Zph : kitB "bool" "tuple" = some false := by decide +kernel
theorem Zpi : kitB "str" "tuple" = some false := by decide +kernel
theorem Zpj : kitB "NoneType" "tuple" = some false := by decide +kernel
theorem Zpk (hn : tyS t = some n) (hv : View K H Hs v w m) (h : tyW t w = some b) : ∃ tv, TyOf K H v tv /\ PySem.W.kitOne K tv (.type n) = some b := by
 cases hv with
 | sc v _ =>
  cases t <;> cases hn <;> cases v <;> cases h <;> first
   | exact ⟨_, .int _, by rw [Zbv]; first | exact ZoF | exact ZoM | exact ZoS | exact Zpa | exact Zpg⟩
   | exact ⟨_, .bl _, by rw [Zbv]; first | exact ZoG | exact ZoL | exact ZoT | exact Zpb | exact Zph⟩
   | exact ⟨_, .str _, by rw [Zbv]; first | exact ZoH | exact ZoN | exact ZoR | exact Zpc | exact Zpi⟩
   | exact ⟨_, .non, by rw [Zbv]; first | exact ZoI | exact ZoO | exact ZoU | exact Zpd | exact Zpj⟩
 | @nd a k vs ds m n r =>
  cases t <;> cases hn <;> cases k <;> cases h <;> first
   | exact ⟨_, .lst n, by rw [Zbv]; first | exact ZoJ | exact ZoP | exact ZoV | exact ZoY | exact Zpf⟩
   | exact ⟨_, .dK n.2, by rw [Zbv]; exact ZoW⟩
   | exact ⟨_, .tup n, by rw [Zbv]; first | exact ZoK | exact ZoQ | exact ZoX | exact ZoZ | exact Zpe⟩
section
theorem ZmC (hn : tyS t = some n) (hg : Gl X "isinstance") (hm : X.mg "isinstance" = none) (ha : PE X a (tP X.K ca)) (hc : PE X c (tC (.ty n))) (hs : starEach [a, c] X.env = [(false, eval a X.env), (false, eval c X.env)] := by rfl)
 (hs1 : starEach [c] X.env = [(false, eval c X.env)] := by rfl) :
 PE X (.Call (.Name "isinstance" p) [a, c] [] pos) (tM X.K ((ca.bnd fun p => (M.ret ([] : List Op)).bnd fun ps => M.ret (p :: ps)).bnd fun ps => (views ps).bnd fun ws => lift (bfW (.isi t) ws))) :=
 PE.imp (Zc1 (ZiR (.ty n) (.type n) rfl fun u h => h) hg hm ZbT (Zai ha (Zai hc Zb5 (by rw [hs1]; rfl)) (by rw [hs, hs1])) (by decide) (by decide) (by rw [hs, hs1]) (by rw [hs1]; rfl)) fun σ H Q h => by
  have h2 : tM X.K ((ca.bnd view).bnd fun w => lift (bfW (.isi t) [w])) σ H Q := by
   obtain ⟨δ, Hs, M, d, δ', g, s, e, q⟩ := h
   refine ⟨δ, Hs, M, d, δ', g, s, ?_, q⟩
   obtain ⟨ps, δ1, e1, e⟩ := Zb e
   obtain ⟨pp, δ2, e2, e3⟩ := Zb e1
   obtain ⟨z, δ3, e4, e5⟩ := Zb e3
   have := Zf e4
   cases this
   have := Zf e5
   cases this
   obtain ⟨ws, δ4, e6, e⟩ := Zb e
   obtain ⟨w, δ5, e7, e8⟩ := Zb e6
   obtain ⟨z, δ6, e9, e10⟩ := Zb e8
   have := Zf e9
   cases this
   have := Zf e10
   cases this
   show T.M.bnd (ca.bnd view) _ δ = _
   unfold T.M.bnd
   rw [e2]
   dsimp only
   rw [e7]
   exact e
  refine op1 (r := fun x H1 Q => ∃ x' t' b, [x, V.ty n] = [x', V.ty n] /\ TyOf X.K H1 x' t' /\ PySem.W.kitOne X.K t' (.type n) = some b /\ Q (.bl b) H1) h2 fun x H Hs w m d g h1 h2 v e o => ?_
  simp only [bfW, isiB, Option.map_eq_some_iff] at e
  obtain ⟨b, e, rfl⟩ := e
  obtain ⟨tv, h3, h4⟩ := Zpk hn v e
  exact ⟨x, tv, b, rfl, h3, h4, o.sc⟩
end
inductive spF (K : Fg) (F : List D -> Rs (D × List D)) (vs : List V) (H : Hp) (Q : VK) (E : XK) : Prop
 | mk (ds : List D) (Hs : Hp) (m : Bud) (d : D) (ds' : List D) (h0 : Good H Hs m) (h1 : RepL K H Hs vs ds m) (h2 : F ds = .ok (d, ds')) (h3 : ∀ (v : V) (H' Hs' : Hp) (m1 m' : Bud), Good H' Hs' (fun b => m1 b + m' b) -> Stp H Hs m H' Hs' (fun b => m1 b + m' b) -> Rep K H' Hs' v d m1 -> RepL K H' Hs' vs ds' m' -> Q v H') : spF K F vs H Q E
theorem ZkI {K : Fg} {H Hs : Hp} {σ : St} {B m M : Bud} {δ δ' : List D} {lend : Bool} {p : Op} {v : V} {d : D} (g : Good H Hs (fun b => B b + (m b + M b))) (s : RepS K H Hs σ δ M) (r : RepP K H Hs σ v p m) (e : takeA lend p δ = .ok (d, δ')) :
 ∃ Hs' m' M', Good H Hs' (fun b => B b + (m' b + M' b)) /\ Stp H Hs (fun b => B b + (m b + M b)) H Hs' (fun b => B b + (m' b + M' b)) /\ Rep K H Hs' v d m' /\ RepS K H Hs' σ δ' M' /\ ∀ b, m' b + M' b <= m b + M b := by
 cases p with
 | tmp d' =>
  have := Zf e
  cases this
  exact ⟨Hs, m, M, g, Stp.refl _ _ _, r, s, fun b => Nat.le_refl _⟩
 | late i =>
  have r : σ[i]? = some (some v) := r
  have same : ∀ {d : D}, δ[i]? = some d -> d ≠ .hole -> (∀ m1, Rep K H Hs v d m1 -> Rep K H Hs v d (fun _ => 0)) -> ∃ Hs' m' M', Good H Hs' (fun b => B b + (m' b + M' b)) /\ Stp H Hs (fun b => B b + (m b + M b)) H Hs' (fun b => B b + (m' b + M' b)) /\ Rep K H Hs' v d m' /\ RepS K H Hs' σ δ M' /\ ∀ b, m' b + M' b <= m b + M b := fun {d} hi hn hz => by
   obtain ⟨v', m1, m2, e1, q, l, f⟩ := s.slot hi hn
   rw [r] at e1
   cases e1
   exact ⟨Hs, fun _ => 0, M, g.re fun b => by (try simp); (try omega), (Stp.refl H Hs _).drop (fun b => by (try simp); (try omega)) g.le, hz _ q, s, fun b => by (try simp); (try omega)⟩
  unfold takeA at e
  dsimp only at e
  split at e
  . rename_i u hi
    cases e
    exact same hi (by simp) fun m1 q => by cases q; exact .sc _ _
  . rename_i k ds hi
    cases e
    exact same hi (by simp) fun m1 q => by cases q with | shd n q => exact .shd n q
  . rename_i k ds hi
    obtain ⟨v', m1, m2, e1, q, l, f⟩ := s.slot hi (by simp)
    rw [r] at e1
    cases e1
    split at e
    . cases e
      refine ⟨Hs, m1, m2, g.re fun b => by have := l b; omega, (Stp.refl H Hs _).drop (fun b => by have := l b; omega) g.le, q, ?_, fun b => by have := l b; omega⟩
      have z := f H Hs (some v) .hole (fun _ => 0) (Same.refl _) (fun _ _ _ => rfl) (.inl rfl)
      rw [ZZ r] at z
      exact z.mono fun b => by simp
    . cases e
      have g2 : Good H Hs (fun b => m1 b + (B b + m2 b)) := g.re fun b => by have := l b; omega
      have hsame := Zbt g2 (m := m1) fun b => by omega
      have r2 := Rep.share hsame (ZcU (H := H) (Hs := Hs) (m := m1)) q
      have st := Stp.share g2
      refine ⟨shH H Hs m1, fun _ => 0, m2, g2.share.re fun b => by simp, ⟨fun b o h _ => h, fun b h => ?_, st.grow, fun b h h' => ?_, fun b h => h⟩, r2, ?_, fun b => by have := l b; simp; omega⟩
      . have h : B b + (0 + m2 b) = 1 := h
        have l0 : B b + (m b + M b) <= 1 := g.le b
        have := l b
        left
        show B b + (m b + M b) = 1
        omega
      . rcases st.shr b h h' with z | z
        . have z : m1 b + (B b + m2 b) = 1 := z
          have l0 : B b + (m b + M b) <= 1 := g.le b
          have := l b
          left
          show B b + (m b + M b) = 1
          omega
        . exact .inr z
      . have z := f H (shH H Hs m1) (some v) (.node k false (shrL ds)) (fun _ => 0) hsame (fun _ _ _ => rfl) (.inr ⟨v, rfl, r2⟩)
        rw [ZZ r] at z
        exact z.mono fun b => by simp
  . cases e
theorem Zbw {K : Fg} {H : Hp} {σ : St} {lend : Bool} : ∀ {ps : List Op} {vs : List V} {Hs : Hp} {δ δ' : List D} {B M m : Bud} {ds : List D}, Good H Hs (fun b => B b + (m b + M b)) -> RepS K H Hs σ δ M -> ZaL K H Hs σ vs ps m -> ZI lend ps δ = .ok (ds, δ') ->
 ∃ Hs' m' M', Good H Hs' (fun b => B b + (m' b + M' b)) /\ Stp H Hs (fun b => B b + (m b + M b)) H Hs' (fun b => B b + (m' b + M' b)) /\ RepL K H Hs' vs ds m' /\ RepS K H Hs' σ δ' M'
 | [], [], Hs, δ, δ', B, M, m, ds, g, s, r, e => by
  have := Zf e
  cases this
  exact ⟨Hs, m, M, g, Stp.refl _ _ _, .nil _, s⟩
 | [], _ :: _, _, _, _, _, _, _, _, _, _, r, _ => r.elim
 | _ :: _, [], _, _, _, _, _, _, _, _, _, r, _ => r.elim
 | p :: ps, v :: vs, Hs, δ, δ', B, M, m, ds, g, s, ⟨n1, n2, r1, r2, l⟩, e => by
  obtain ⟨d, δ1, e1, e⟩ := Zb e
  obtain ⟨ds', δ2, e2, e⟩ := Zb e
  have := Zf e
  cases this
  have g0 : Good H Hs (fun b => (B b + n2 b) + (n1 b + M b)) := g.re fun b => by have := l b; omega
  obtain ⟨Hs1, m1, M1, g1, st1, q1, s1, l1⟩ := ZkI g0 s r1 e1
  have g1' : Good H Hs1 (fun b => (B b + m1 b) + (n2 b + M1 b)) := g1.re fun b => by omega
  obtain ⟨Hs2, m2, M2, g2, st2, q2, s2⟩ := Zbw g1' s1 (r2.frame st1.grow fun _ _ _ => rfl) e2
  have S0 : Stp H Hs (fun b => B b + (m b + M b)) H Hs1 (fun b => (B b + m1 b) + (n2 b + M1 b)) := by
   refine ⟨fun b o h _ => h, fun b h => ?_, st1.grow, fun b h h' => ?_, fun b h => h⟩
   . have h : (B b + m1 b) + (n2 b + M1 b) = 1 := h
     rcases st1.own b (show (B b + n2 b) + (m1 b + M1 b) = 1 by omega) with z | z
     . have z : (B b + n2 b) + (n1 b + M b) = 1 := z
       have l0 : B b + (m b + M b) <= 1 := g.le b
       have := l b
       left
       show B b + (m b + M b) = 1
       omega
     . exact .inr z
   . rcases st1.shr b h h' with z | z
     . have z : (B b + n2 b) + (n1 b + M b) = 1 := z
       have l0 : B b + (m b + M b) <= 1 := g.le b
       have := l b
       left
       show B b + (m b + M b) = 1
       omega
     . exact .inr z
  have z := Zr (m1 := fun _ => 0) g (g1'.re fun b => by simp) (S0.drop (fun b => by simp) g1'.le) g2 st2
  have S : Stp H Hs (fun b => B b + (m b + M b)) H Hs2 (fun b => (B b + m1 b) + (m2 b + M2 b)) := z.2.1.drop (fun b => by simp) z.1.le
  exact ⟨Hs2, fun b => m1 b + m2 b, M2, g2.re fun b => by dsimp only; omega, S.drop (fun b => by dsimp only; omega) g2.le, .cons (q1.frame st2.grow fun _ _ _ => rfl) q2 fun b => Nat.le_refl _, s2⟩
theorem ZaA : ∀ {ps : List Op} {vs : List V} {δ δ' : List D} {M m : Bud} {ds : List D} {u : Unit}, RepS K H Hs σ δ M -> RepL K H Hs vs ds m -> (∀ i v, (.late i, v) ∈ ps.zip vs -> σ[i]? = some (some v)) -> Z0 ps ds δ = .ok (u, δ') -> RepS K H Hs σ δ' (fun b => m b + M b)
 | [], vs, δ, δ', M, m, ds, u, s, r, hl, e => by
  have := Zf (show T.M.ret () δ = Rs.ok (u, δ') by unfold Z0 at e; exact e)
  cases this
  exact s.mono fun b => by omega
 | p :: ps, [], δ, δ', M, m, ds, u, s, r, hl, e => by
  cases r
  have := Zf (show T.M.ret () δ = Rs.ok (u, δ') by unfold Z0 at e; exact e)
  cases this
  exact s.mono fun b => by omega
 | p :: ps, v :: vs, δ, δ', M, m, ds, u, s, r, hl, e => by
  cases r with
  | @cons _ d _ ds' m1 m2 _ x y l =>
   unfold Z0 at e
   obtain ⟨_, δ1, e1, e2⟩ := Zb e
   have hl' : ∀ i v, (.late i, v) ∈ ps.zip vs -> σ[i]? = some (some v) := fun i v h => hl i v (by rw [List.zip_cons_cons]; exact List.mem_cons_of_mem _ h)
   have go : ∀ {M1 : Bud}, RepS K H Hs σ δ1 M1 -> (∀ b, M1 b <= m1 b + M b) -> RepS K H Hs σ δ' (fun b => m b + M b) := fun {M1} s1 l1 =>
    (ZaA s1 y hl' e2).mono fun b => by have := l b; have := l1 b; omega
   cases p with
   | tmp d' =>
    have := Zf e1
    cases this
    exact go s fun b => by omega
   | late i =>
    have hi := hl i v (by rw [List.zip_cons_cons]; exact List.mem_cons_self)
    unfold giveA at e1
    dsimp only at e1
    split at e1
    . rename_i hh
      cases e1
      obtain ⟨o, n1, n2, q1, q2, q3, f⟩ := s.focus hh
      have z := f (RepO K H Hs) (some v) d m1 (fun a d m' _ q => q) (.inr ⟨v, rfl, x⟩)
      rw [ZZ hi] at z
      exact go z fun b => by have := q3 b; omega
    . cases e1
      exact go s fun b => by omega
theorem lates : ∀ {ps : List Op} {vs : List V} {m : Bud}, ZaL K H Hs σ vs ps m -> ∀ i v, (.late i, v) ∈ ps.zip vs -> σ[i]? = some (some v)
 | [], [], _, _, i, v, h => by simp at h
 | [], _ :: _, _, r, _, _, _ => r.elim
 | _ :: _, [], _, r, _, _, _ => r.elim
 | p :: ps, w :: vs, _, ⟨m1, m2, r1, r2, _⟩, i, v, h => by
  rw [List.zip_cons_cons] at h
  rcases List.mem_cons.mp h with e | e
  . injection e with e1 e2
    subst e1 e2
    exact r1
  . exact lates r2 i v e
theorem ZfB {K : Fg} {fi : FI} {σ : St} {H H1 Hs Hs1 : Hp} {M m1 M1 : Bud} {δ1 δ' : List D} {d : D} {ps : List Op} {vs : List V} {Q : VK} {E : XK} (g : Good H Hs M) (g1 : Good H1 Hs1 (fun b => m1 b + M1 b)) (st1 : Stp H Hs M H1 Hs1 (fun b => m1 b + M1 b))
 (r1 : ZaL K H1 Hs1 σ vs ps m1) (s1 : RepS K H1 Hs1 σ δ1 M1) (e : ZaI fi ps δ1 = .ok (d, δ'))
 (q : ∀ (v : V) (H' Hs' : Hp) (m M' : Bud), Good H' Hs' (fun b => m b + M' b) -> Stp H Hs M H' Hs' (fun b => m b + M' b) -> Rep K H' Hs' v d m -> RepS K H' Hs' σ δ' M' -> Q v H') : spF K fi.run vs H1 Q E := by
 unfold ZaI at e
 obtain ⟨ds, δ2, e2, e⟩ := Zb e
 cases hF : fi.run ds with
 | ok r =>
  obtain ⟨d', ds'⟩ := r
  rw [hF] at e
  dsimp only at e
  obtain ⟨u, δ3, e3, e⟩ := Zb e
  have := Zf e
  cases this
  obtain ⟨Hs2, m2, M2, g2, st2, q2, s2⟩ := Zbw (B := fun _ => 0) (g1.re fun b => by simp) s1 r1 e2
  have z0 := Zr (m1 := fun _ => 0) g (g1.re fun b => by simp) (st1.drop (fun b => by simp) g1.le) (g2.re fun b => by simp) (M1 := fun b => m1 b + M1 b) (M2 := fun b => m2 b + M2 b) (by
   have := st2
   exact ⟨fun b o h z => this.keep b o h (by simpa using z), fun b h => by have := this.own b (by simpa using h); simpa using this, this.grow, fun b h h' => by have := this.shr b h h'; simpa using this, this.stay⟩)
  have G2 : Good H1 Hs2 (fun b => M2 b + m2 b) := g2.re fun b => by simp; omega
  have S2 : Stp H Hs M H1 Hs2 (fun b => M2 b + m2 b) := z0.2.1.drop (fun b => by simp; omega) z0.1.le
  refine ⟨ds, Hs2, m2, _, ds', G2.re fun b => by omega, q2, hF, fun v H3 Hs3 n1 n2 g3 st3 r3 r4 => ?_⟩
  obtain ⟨G, S, k⟩ := Zr g G2 S2 g3 st3
  have s3 := RepS.frame st3.grow k s2
  have fin := ZaA s3 r4 (lates r1) e3
  exact q v H3 Hs3 n1 (fun b => n2 b + M2 b) (G.re fun b => by (try dsimp only); omega) (S.drop (fun b => by (try dsimp only); omega) G.le) r3 fin
 | exc x y => rw [hF] at e; cases e
 | stuck => rw [hF] at e; cases e
theorem ZkJ {K : Fg} {fi : FI} {cs : M (List Op)} {σ : St} {H : Hp} {Q : VK} {E : XK} (h : tM K (cs.bnd fun ps => ZaI fi ps) σ H Q) : tPs K cs σ H fun vs H1 => spF K fi.run vs H1 Q E := by
 obtain ⟨δ, Hs, M, d, δ', g, s, e, q⟩ := h
 obtain ⟨ps, δ1, e1, e⟩ := Zb e
 exact ⟨δ, Hs, M, ps, δ1, g, s, e1, fun vs H1 Hs1 m1 M1 g1 st1 r1 s1 => ZfB g g1 st1 r1 s1 e q⟩
section
variable {X : Cx} {a e c : Expr} {es : List Expr} {pos p : Pos} {x : Str} {j n : Nat} {fi : FI} {ps : List Str} {cs : M (List Op)}
theorem ZG (G : FnAt X.prog X.w X.K X.mg X.base x j ps (spF X.K fi.run)) (hr : Room n X.A) (ha : PA X (e :: es) (tPs X.K cs)) (hj : j <= n := by decide) (hz : glOk X.env.scope x = true := by kernel_rfl) (he : starEach (e :: es) X.env = (false, eval e X.env) :: starEach es X.env := by rfl) (hpl : (backTo pos (starEach es X.env)).any (·.1) = false := by rfl) :
 PE X (.Call (.Name x p) (e :: es) [] pos) (tM X.K (cs.bnd fun ps => ZaI fi ps)) := PE.imp (Zo5 G hr ha hj (glk hz) (dbk hz) he hpl) fun σ H Q h => by
 obtain ⟨δ, Hs, M, a, δ', g, s, e, q⟩ := ZkJ (E := E0) h
 refine ⟨δ, Hs, M, a, δ', g, s, e, fun vs H' Hs' m M' g' st r s' => ?_⟩
 show spF X.K fi.run (vs ++ []) H' Q E0
 rw [List.append_nil]
 exact q vs H' Hs' m M' g' st r s'
end
end T
namespace T
open PySem PySem.Spec L2
theorem modL {K : Fg} {H Hs : Hp} {σ : St} {B M : Bud} {δ : List D} {i : Nat} {k : Kd} {ds : List D} (g : Good H Hs (fun b => B b + M b)) (s : RepS K H Hs σ δ M) (hi : δ[i]? = some (.node k true ds)) :
 ∃ (p : Addr) (vs : List V) (m' m2 : Bud), σ[i]? = some (some (.ref p)) /\ Za7 K H p vs k /\ RepL K H Hs vs ds m' /\ (∀ b, one p b + m' b + m2 b <= M b) /\
  ∀ (o' : HO) (k' : Kd) (vs' : List V) (ds' : List D) (n' nr : Bud) (rv : V) (r : D), (∀ b, n' b + nr b <= m' b + B b) -> Za7 K (upd H p o') p vs' k' -> RepL K H Hs vs' ds' n' -> Rep K H Hs rv r nr ->
   Good (upd H p o') Hs (fun b => nr b + (one p b + n' b + m2 b)) /\ Stp H Hs (fun b => B b + M b) (upd H p o') Hs (fun b => nr b + (one p b + n' b + m2 b)) /\ Rep K (upd H p o') Hs rv r nr /\
   RepS K (upd H p o') Hs σ (δ.set i (.node k' true ds')) (fun b => one p b + n' b + m2 b) := by
 obtain ⟨v, m1, m2, e1, q, l, f⟩ := s.slot hi (by simp)
 cases q with
 | @own p _ vs _ _ m' n r l' =>
  have le : ∀ b, one p b + m' b + m2 b <= M b := fun b => by have := l b; have := l' b; omega
  refine ⟨p, vs, m', m2, e1, n, r, le, fun o' k' vs' ds' n' nr rv rd h1 hn hr hq => ?_⟩
  have one_p : one p p = 1 := by simp [one]
  have tot : ∀ b, nr b + (one p b + n' b + m2 b) <= B b + M b := fun b => by have := le b; have := h1 b; omega
  have zp : m' p = 0 /\ B p = 0 /\ m2 p = 0 := by
   have := le p
   have := g.le p
   try dsimp only at this
   omega
  have zp2 : n' p = 0 /\ nr p = 0 := by have := h1 p; omega
  have Hp : H p ≠ none := n.at
  have eqH : ∀ b, b ≠ p -> upd H p o' b = H b := fun b hb => Zj hb
  have hs2 : Hs p = none := g.ne p (by have := le p; have := g.le p; (try dsimp only at this ⊢); omega)
  refine ⟨⟨fun b o e => ?_, fun b => ?_, fun b h => ?_, fun b h => ?_⟩, ⟨fun b o e z => ?_, fun b h => ?_, Same.refl _, fun b h h' => absurd h h', fun b h => ?_⟩, ?_, ?_⟩
  . have hb : b ≠ p := fun q => by subst q; rw [hs2] at e; cases e
    rw [eqH b hb]
    exact g.sub b o e
  . have := g.le b
    have := tot b
    (try dsimp only at *)
    omega
  . have := g.le b
    have := tot b
    exact g.ne b (by (try dsimp only at *); omega)
  . by_cases hb : b = p
    . subst hb; rw [Zi]; simp
    . rw [eqH b hb]
      have := g.le b
      have := tot b
      exact g.has b (by (try dsimp only at *); omega)
  . have hb : b ≠ p := fun q => by
     subst q
     have := le b
     have := g.le b
     (try dsimp only at *)
     omega
    rw [eqH b hb]
    exact e
  . have := g.le b
    have := tot b
    left
    (try dsimp only at *)
    omega
  . by_cases hb : b = p
    . subst hb; rw [Zi]; simp
    . rw [eqH b hb]; exact h
  . exact hq.frame (Same.refl _) fun b hb hn' => eqH b fun q => by subst q; omega
  . have r' : RepL K (upd H p o') Hs vs' ds' n' := hr.frame (Same.refl _) fun b hb hn' => eqH b fun q => by subst q; omega
    have z := f (upd H p o') Hs (some (.ref p)) (.node k' true ds') (fun b => one p b + n' b) (Same.refl _) (fun b hb hn' => eqH b fun q => by subst q; omega) (.inr ⟨_, rfl, .own hn r' fun b => Nat.le_refl _⟩)
    rw [ZZ e1] at z
    exact z.mono fun b => by (try dsimp only); omega
theorem Zcr (h : modS i f δ = .ok (d, δ')) : ∃ k ds k' ds', δ[i]? = some (.node k true ds) /\ f k ds = some (d, k', ds') /\ δ' = δ.set i (.node k' true ds') := by
 unfold modS at h
 split at h
 . rename_i k ds hi
   split at h
   . rename_i r k' ds' hf
     cases h
     exact ⟨k, ds, k', ds', hi, hf, rfl⟩
   . cases h
 . cases h
section
variable {X : Cx} {o e : Expr} {es : List Expr} {cpos apos : Pos} {i : Nat} {name : Str} {id : String}
theorem ZmD {K : Fg} {H Hs : Hp} {σ : St} {M : Bud} {δ δ' : List D} {u : Unit} (g : Good H Hs M) (s : RepS K H Hs σ δ M) (h : chkL i δ = .ok (u, δ')) : δ' = δ /\ ∃ p, σ[i]? = some (some (.ref p)) /\ tyV K "list" (.ref p) H := by
 unfold chkL at h
 split at h
 . rename_i oo ds hi
   cases h
   obtain ⟨v, m1, m2, e1, q, l, f⟩ := s.slot hi (by simp)
   refine ⟨rfl, ?_⟩
   cases q with
   | own n r _ => exact ⟨_, e1, .inl ⟨rfl, _, .inl (.inl n)⟩⟩
   | shd n r => exact ⟨_, e1, .inl ⟨rfl, _, .inl (.inl (g.sub _ _ n))⟩⟩
 . cases h
theorem ZcX (ho : PE X o (tVar i)) (ha : PA X [e] (tDs X.K cs))
 (hbase : attributeBase o "append" X.env (eval o X.env) = eval o X.env := by rfl)
 (hfew : ((backTo cpos (starEach [e] X.env)).all (fun x => !x.1) && (backToKw cpos (keywordEach [] X.env)).all (fun x => x.1.isSome)
  && decide ([e].length + ([] : List Keyword).length + (if ([] : List Keyword).isEmpty then 0 else 1) < 30)) = true := by rfl)
 (hline : (apos.endLine == cpos.line) = true := by rfl) (hs : starEach [e] X.env = (false, eval e X.env) :: starEach [] X.env := by rfl) (hplain : (backTo cpos (starEach [] X.env)).any (·.1) = false := by rfl) :
 PE X (.Call (.Attribute o "append" apos) [e] [] cpos) (tM X.K ((chkL i).bnd fun _ => cs.bnd fun ds => appM i ds)) :=
 PE.imp (ZgW PySem.F.plainAttrs_list PySem.F.slot_list_append PySem.F.type_list_append ZeN ho ha hbase hfew hline hs hplain) fun σ H Q h => by
  obtain ⟨δ, Hs, M, d, δ', g, s, ea, q⟩ := h
  obtain ⟨u, δ0, e0, eb⟩ := Zb ea
  obtain ⟨ds, δ1, e1, ec⟩ := Zb eb
  obtain ⟨rfl, p0, h1, h2⟩ := ZmD g s e0
  refine ⟨_, h1, h2, δ0, Hs, M, ds, δ1, g, s, e1, fun vs H1 Hs1 m1 M1 g1 st1 r1 s1 => ?_⟩
  unfold appM at ec
  split at ec
  . rename_i x
    obtain ⟨k, ds0, k', ds', hi, hf, rfl⟩ := Zcr ec
    unfold appD at hf
    split at hf
    . split at hf
      . rename_i hl
        cases hf
        cases r1 with
        | @cons y _ _ _ a1 a2 _ rx r2 la =>
         cases r2
         obtain ⟨p, ws, m', m2, e2, n, rl, le, fin⟩ := modL g1 s1 hi
         have e3 : some (some (V.ref p)) = some (some (V.ref p0)) := by rw [<- e2, h1]
         cases e3
         obtain ⟨G, S, R, SS⟩ := fin (.lst (ws ++ [y])) .lst (ws ++ [y]) (ds0 ++ [x]) (fun b => m' b + a1 b) (fun _ => 0) .non (.sc .non) (fun b => by have := la b; (try dsimp only); omega) Zi (rl.app (.cons rx (.nil (fun _ => 0)) fun b => by simp)) (.sc _ _)
         have z := Zr (m1 := fun _ => 0) g (g1.re fun b => by simp) (st1.drop (fun b => by simp) g1.le) G S
         exact ⟨_, ws, y, rfl, rfl, n, by rw [rl.len]; exact hl, q _ _ Hs1 _ _ G (z.2.1.drop (fun b => by simp) z.1.le) R SS⟩
      . cases hf
    . cases hf
  . cases ec
end
end T
namespace L2
open PySem PySem.Spec PyProof.Rows
section
theorem ZjO (ne : a ≠ it) : ∀ (m j : Nat) (s : Shared) (Q : List Value -> Shared -> Prop), s.heap.IsListIter it a j -> s.heap.IsList a us -> j + m <= us.size ->
 (∀ g, Heap.IsListIter g it a (j + m) -> Heap.SameBut it s.heap g -> Q ((us.toList.drop j).take m) { s with heap := g }) -> wpAny (model prog w) A (draw (.ref it) m) Q E s
 | 0, j, s, Q, st, _, _, q => wpAny_pure (by simpa using q s.heap st (Heap.SameBut.refl ..))
 | m + 1, j, s, Q, st, hl, le, q => by
  have lt : j < us.size := by omega
  refine wpAny_bind (wpAny_pyNext_list_item st hl (x := us[j]) (by simp [lt]) fun g1 st1 k1 => ?_)
  refine wpAny_bind (wpAny_holding (ZjO ne m (j + 1) _ _ st1 (hl.extBut k1.extBut ne) (by omega) fun g2 st2 k2 => wpAny_pure ?_))
  have z := q g2 (by rw [show j + (m + 1) = j + 1 + m by omega]; exact st2) (k1.trans k2)
  rw [show us.toList.drop j = us[j] :: us.toList.drop (j + 1) by simp [List.drop_eq_getElem_cons, lt], List.take_succ_cons] at z
  exact z
theorem ZkK (hh : A.handled = none) (hl : s.heap.IsList a us)
 (q : ∀ g, Heap.ExtBut s.heap.objs.size s.heap g -> Q us.toList { s with heap := g }) : wpAny (model prog w) A (unpackItems (.ref a) us.size none) Q E s := by
 have ne : a ≠ s.heap.objs.size := Nat.ne_of_lt (by obtain ⟨o, e, _⟩ := hl; exact Heap.lt_size e)
 unfold unpackItems
 refine wpAny_bind (?_ : wpAny _ _ _ _ _ _)
 unfold notIterableAtAll
 refine wpAny_bind (wpAny_specialOf hl.typeIs slot_list_iter.lookup (wpAny_pure ?_))
 simp only [if_false, Bool.false_eq_true]
 refine wpAny_bind (wpAny_holding (wpAny_pyIter_list hl (wpAny_bind (wpAny_holding (ZjO ne us.size 0 _ _ ⟨_, Heap.get?_push_size _ rfl, rfl, rfl⟩ (hl.push _) (by omega) fun g1 st1 k1 => ?_)))))
 rw [show List.take us.size (List.drop 0 us.toList) = us.toList from by rw [List.drop_zero, List.take_of_length_le (by simp)], if_neg (by simp)]
 refine wpAny_bind (wpAny_holding (wpAny_pyNext_list_end hh st1 ((hl.push _).extBut k1.extBut ne) (by simp) fun g2 k2 => ?_))
 simp only [if_false, Bool.false_eq_true, Option.isSome_none]
 exact wpAny_pure (q g2 fun b o hb e => k2 b o hb (k1.extBut b o hb (Heap.get?_push_of_some _ e)))
theorem ZkL (hh : A.handled = none) (hl : s.heap.IsList a us) (hn : (assignEach es env).length = us.size) (hst : (assignEach es env).findIdx? (·.1) = none)
 (q : ∀ g, Heap.ExtBut s.heap.objs.size s.heap g -> wpAny (model prog w) A (assignInOrder ((assignEach es env).map (·.2)) us.toList) Q E { s with heap := g }) : wpAny (model prog w) A (assign (.Tuple es k p) env (.ref a)) Q E s := by
 rw [assign_Tuple]
 refine wpAny_bind (wpAny_standAt ?_)
 unfold unpack
 rw [hn, hst]
 exact wpAny_bind (wpAny_holding (ZkK hh hl q))
end
noncomputable def gSeq (K : Fg) (n : Nat) (t : TGs) : TG := fun v σ H Q => ∃ a xs, v = .ref a /\ (SqT K H a xs \/ SqL K H a xs) /\ xs.length = n /\ t xs σ H Q
theorem ZmE (hc : X.calm = true) (h : PGs X es t)
 (hn : (assignEach es X.env).length = n := by rfl) (hst : (assignEach es X.env).findIdx? (·.1) = none := by rfl) : PG X (.Tuple es k pos) (gSeq X.K n t) := by
 intro pins s σ H v u Q I r hw
 obtain ⟨a, xs, e1, hq, hl, hw⟩ := hw
 rcases hq with hq | hq
 . exact ZlR hc h hn hst pins s σ H v u Q I r ⟨a, xs, e1, hq, hl, hw⟩
 . subst e1
   cases r
   obtain ⟨its, rv, ht, hz⟩ := I.list hq
   refine ZkL (I.ok.hd hc) ht.isList (by simp [hn, <- hl, rv.length]) hst fun h' hx => ?_
   have I1 : Inv X pins σ H { s with heap := h' } := I.kept (t' := s.toks) fun b o e => hx b o (Nat.ne_of_lt (Heap.lt_size e)) e
   exact h pins _ σ H xs _ Q I1 (by simpa using rv) hw
end L2
namespace T
open PySem PySem.Spec L2
def Keeps (lk : Nat -> Bool) (σ σ' : St) : Prop := ∀ i, lk i = true -> σ'[i]? = σ[i]?
theorem Keeps.refl (lk : Nat -> Bool) (σ : St) : Keeps lk σ σ := fun _ _ => rfl
theorem Keeps.trans (a : Keeps lk σ σ1) (b : Keeps lk σ1 σ2) : Keeps lk σ σ2 := fun i h => (b i h).trans (a i h)
def Post (K : Fg) (lk : Nat -> Bool) (E : Ends) (σ : St) (H Hs : Hp) (M : Bud) (f : Fl) (δ' : List D) : Prop := match f with
 | .nx => ∀ (σ' : St) (H' Hs' : Hp) (M' : Bud), Keeps lk σ σ' -> Good H' Hs' M' -> Stp H Hs M H' Hs' M' -> RepS K H' Hs' σ' δ' M' -> E.nx σ' H'
 | .bk => ∀ (σ' : St) (H' Hs' : Hp) (M' : Bud), Keeps lk σ σ' -> Good H' Hs' M' -> Stp H Hs M H' Hs' M' -> RepS K H' Hs' σ' δ' M' -> E.bk σ' H'
 | .ct => ∀ (σ' : St) (H' Hs' : Hp) (M' : Bud), Keeps lk σ σ' -> Good H' Hs' M' -> Stp H Hs M H' Hs' M' -> RepS K H' Hs' σ' δ' M' -> E.ct σ' H'
 | .rt d => ∀ (v : V) (σ' : St) (H' Hs' : Hp) (m M' : Bud), Keeps lk σ σ' -> Good H' Hs' (fun b => m b + M' b) -> Stp H Hs M H' Hs' (fun b => m b + M' b) -> Rep K H' Hs' v d m -> RepS K H' Hs' σ' δ' M' -> E.rt v H'
inductive tS (K : Fg) (lk : Nat -> Bool) (c : M Fl) (E : Ends) (σ : St) (H : Hp) : Prop
 | mk (δ : List D) (Hs : Hp) (M : Bud) (f : Fl) (δ' : List D) (h0 : Good H Hs M) (h1 : RepS K H Hs σ δ M) (h2 : c δ = .ok (f, δ')) (h3 : Post K lk E σ H Hs M f δ') : tS K lk c E σ H
theorem Post.ahead {K : Fg} {lk : Nat -> Bool} {E : Ends} {σ σ1 : St} {H Hs H1 Hs1 : Hp} {M M1 : Bud} {f : Fl} {δ' : List D} (k : Keeps lk σ σ1) (g : Good H Hs M) (g1 : Good H1 Hs1 M1) (st : Stp H Hs M H1 Hs1 M1) (h : Post K lk E σ H Hs M f δ') : Post K lk E σ1 H1 Hs1 M1 f δ' := by
 have tr : ∀ {H' Hs' : Hp} {M' : Bud}, Good H' Hs' M' -> Stp H1 Hs1 M1 H' Hs' M' -> Stp H Hs M H' Hs' M' := fun {H' Hs' M'} g' st' => by
  have z := Zr (m1 := fun _ => 0) g (g1.re fun b => by simp) (st.drop (fun b => by simp) g1.le) g' st'
  exact z.2.1.drop (fun b => by simp) z.1.le
 cases f with
 | nx => exact fun σ' H' Hs' M' k' g' st' r => h σ' H' Hs' M' (k.trans k') g' (tr g' st') r
 | bk => exact fun σ' H' Hs' M' k' g' st' r => h σ' H' Hs' M' (k.trans k') g' (tr g' st') r
 | ct => exact fun σ' H' Hs' M' k' g' st' r => h σ' H' Hs' M' (k.trans k') g' (tr g' st') r
 | rt d => exact fun v σ' H' Hs' m M' k' g' st' rv r => h v σ' H' Hs' m M' (k.trans k') g' (tr g' st') rv r
section
variable {X : Cx} {e a b c o : Expr} {st : Stmt} {rest : List Stmt} {pos pos' : Pos} {lk : Nat -> Bool} {i : Nat} {x : Str}
theorem PS.imp (h : PS X st t) (w : ∀ E σ H, t' E σ H -> t E σ H) : PS X st t' := fun pins s σ H E I q => h pins s σ H E I (w E σ H q)
theorem PSs.imp (h : PSs X rest t) (w : ∀ E σ H, t' E σ H -> t E σ H) : PSs X rest t' := fun pins s σ H E I q => h pins s σ H E I (w E σ H q)
theorem Zo : PSs X [] (tS X.K lk (M.ret .nx)) := PSs.imp Zkg fun E σ H h => by
 obtain ⟨δ, Hs, M, f, δ', g, s, e, q⟩ := h
 have := Zf e
 cases this
 exact q σ H Hs M (Keeps.refl _ _) g (Stp.refl _ _ _) s
theorem Zd {c r : M Fl} (h1 : PS X st (tS X.K lk c)) (h2 : PSs X rest (tS X.K lk r)) : PSs X (st :: rest) (tS X.K lk (seqL c r)) := PSs.imp (Zi2 h1 h2) fun E σ H h => by
 obtain ⟨δ, Hs, M, f, δ', g, s, e, q⟩ := h
 obtain ⟨f1, δ1, e1, e2⟩ := Zb e
 refine ⟨δ, Hs, M, f1, δ1, g, s, e1, ?_⟩
 cases f1 with
 | nx => exact fun σ' H' Hs' M' k g' st' r => ⟨δ1, Hs', M', f, δ', g', r, e2, q.ahead k g g' st'⟩
 | bk => have := Zf e2; cases this; exact q
 | ct => have := Zf e2; cases this; exact q
 | rt d => have := Zf e2; cases this; exact q
theorem Zdy {c : M D} (he : PE X e (tM X.K c)) (hs : swapsWith e none pos.line X.env = pure false := by rfl) : PS X (.Expr e pos) (tS X.K lk (c.bnd fun _ => M.ret .nx)) := PS.imp (Zkh he hs) fun E σ H h => by
 obtain ⟨δ, Hs, M, f, δ', g, s, e, q⟩ := h
 obtain ⟨d, δ1, e1, e2⟩ := Zb e
 have := Zf e2
 cases this
 exact ⟨δ, Hs, M, d, _, g, s, e1, fun v H' Hs' m M' g' st' r s' => q σ H' Hs' M' (Keeps.refl _ _) g'.re (st'.drop (fun b => by omega) g'.le) s'⟩
theorem Z1 {c : M D} (he : PE X e (tM X.K c)) : PS X (.Return (some e) pos) (tS X.K lk (c.bnd fun d => M.ret (.rt d))) := PS.imp (ZlQ he) fun E σ H h => by
 obtain ⟨δ, Hs, M, f, δ', g, s, e, q⟩ := h
 obtain ⟨d, δ1, e1, e2⟩ := Zb e
 have := Zf e2
 cases this
 exact ⟨δ, Hs, M, d, _, g, s, e1, fun v H' Hs' m M' g' st' r s' => q v σ H' Hs' m M' (Keeps.refl _ _) g' st' r s'⟩
theorem ZcY (h : PE X e (tVar i)) : PE X e (tM X.K (movV i)) := PE.imp h fun σ H Q z0 => by
 obtain ⟨δ, Hs, M, d, δ', g, s, e, q⟩ := z0
 unfold movV at e
 split at e
 . rename_i u hd
   cases e
   obtain ⟨v, m1, m2, e3, r, _⟩ := s.slot hd (by simp)
   cases r
   exact ⟨u, e3, q u H Hs (fun _ => 0) M (Zat g) (stp0 H Hs M) (.sc _ _) s⟩
 . rename_i k oo ds hd
   cases e
   obtain ⟨v, m1, m2, e3, r, l, f⟩ := s.slot hd (by simp)
   have z := f H Hs (some v) .hole (fun _ => 0) (Same.refl _) (fun _ _ _ => rfl) (.inl rfl)
   rw [ZZ e3] at z
   exact ⟨v, e3, q v H Hs m1 m2 (g.re fun b => by have := l b; omega) ((Stp.refl H Hs M).drop (fun b => by have := l b; omega) g.le) r (z.mono fun b => by simp)⟩
 . cases e
theorem Zau (hc : PT X c (tT X.K cc)) (ha : PSs X A (tS X.K lk ca)) (hb : PSs X B (tS X.K lk cb)) : PS X (.If c A B pos) (tS X.K lk (cc.bnd fun t => if t then ca else cb)) := PS.imp (Zod hc ha hb) fun E σ H h => by
 obtain ⟨δ, Hs, M, f, δ', g, s, e, q⟩ := h
 obtain ⟨t, δ1, e1, e2⟩ := Zb e
 refine ⟨δ, Hs, M, t, δ1, g, s, e1, fun H' Hs' M' g' st' s' => ?_⟩
 cases t with
 | true => exact ⟨δ1, Hs', M', f, δ', g', s', e2, q.ahead (Keeps.refl _ _) g g' st'⟩
 | false => exact ⟨δ1, Hs', M', f, δ', g', s', e2, q.ahead (Keeps.refl _ _) g g' st'⟩
theorem ZaU {K : Fg} {H Hs : Hp} {σ : St} {δ : List D} {m M : Bud} {v : V} {d : D} (s : RepS K H Hs σ δ M) (hi : i < δ.length) (r : Rep K H Hs v d m) : RepS K H Hs (σ.set i (some v)) (δ.set i d) (fun b => m b + M b) := by
 obtain ⟨o, m1, m2, e1, q, l, f⟩ := s.focus (List.getElem?_eq_getElem hi)
 exact (f (RepO K H Hs) (some v) d m (fun a d m' _ q => q) (.inr ⟨v, rfl, r⟩)).mono fun b => by have := l b; (try dsimp only); omega
theorem Zcs (h : asgN lk i d δ = .ok (u, δ')) : i < δ.length /\ lk i = false /\ δ' = δ.set i d := by
 unfold asgN at h
 split at h
 . rename_i hc
   simp only [Bool.and_eq_true, decide_eq_true_eq, Bool.not_eq_true'] at hc
   cases h
   exact ⟨hc.1, hc.2, rfl⟩
 . cases h
theorem ZaB (h : lk i = false) : Keeps lk σ (σ.set i v) := fun j hj => by
 have : i ≠ j := fun q => by subst q; rw [h] at hj; cases hj
 rw [List.getElem?_set_ne this]
theorem ZmF {c : M D} (hN : X.N.Nodup) (hi : X.N[i]? = some x) (hx : Loc X.env.scope x) (he : PE X e (tM X.K c)) (hs : swapsWith e (some (.Name x pos')) pos.line X.env = pure false := by rfl)
 (hf : X.fn x = true \/ X.env.scope.names.lookup x = some .local := by first | exact .inl rfl | exact .inr rfl | assumption) :
 PS X (.Assign [.Name x pos'] e pos) (tS X.K lk (c.bnd fun d => (asgN lk i d).bnd fun _ => M.ret .nx)) := PS.imp (ZlT hN hi hx he hs hf) fun E σ H h => by
 obtain ⟨δ, Hs, M, f, δ', g, s, e, q⟩ := h
 obtain ⟨d, δ1, e1, e2⟩ := Zb e
 obtain ⟨u, δ2, e3, e4⟩ := Zb e2
 have := Zf e4
 cases this
 obtain ⟨h1, h2, rfl⟩ := Zcs e3
 exact ⟨δ, Hs, M, d, δ1, g, s, e1, fun v H' Hs' m M' g' st' r s' => q _ H' Hs' _ (ZaB h2) g' st' (ZaU s' h1 r)⟩
end
end T
namespace T
open PySem PySem.Spec L2
noncomputable def gNs : List Nat -> TGs
 | [] => gNil
 | i :: is => ZjC (Zca i) (gNs is)
theorem Zdz : ∀ {is : List Nat} {ds : List D} {vs : List V} {σ : St} {δ δ' : List D} {m M : Bud} {u : Unit} {Q : St -> Hp -> Prop}, Zbb lk is ds δ = .ok (u, δ') -> RepL K H Hs vs ds m -> RepS K H Hs σ δ M ->
 (∀ σ', Keeps lk σ σ' -> RepS K H Hs σ' δ' (fun b => m b + M b) -> Q σ' H) -> vs.length = is.length /\ gNs is vs σ H Q
 | [], [], _, σ, δ, δ', m, M, u, Q, e, .nil _, s, q => by
  have := Zf e
  cases this
  exact ⟨rfl, rfl, q σ (Keeps.refl _ _) (s.mono fun b => by omega)⟩
 | [], _ :: _, _, _, _, _, _, _, _, _, e, _, _, _ => by cases e
 | _ :: _, [], _, _, _, _, _, _, _, _, e, _, _, _ => by cases e
 | i :: is, d :: ds, _, σ, δ, δ', m, M, u, Q, e, .cons (v := v) (vs := vs) (m1 := m1) (m2 := m2) x y l, s, q => by
  obtain ⟨u1, δ1, e1, e2⟩ := Zb e
  obtain ⟨h1, h2, rfl⟩ := Zcs e1
  obtain ⟨hl, hq⟩ := Zdz (Q := Q) e2 y (ZaU s h1 x) fun σ' k r => q σ' ((ZaB h2).trans k) (r.mono fun b => by have := l b; (try dsimp only); omega)
  exact ⟨by rw [List.length_cons, List.length_cons, hl], v, vs, rfl, hq⟩
section
variable {X : Cx} {e o k : Expr} {es : List Expr} {pos pos' : Pos} {lk : Nat -> Bool} {i j : Nat} {is : List Nat} {x : Str}
theorem Zpl : PGs X [] (gNs []) := Zki
theorem ok_g (hN : X.N.Nodup) (hi : X.N[i]? = some x) (hx : Loc X.env.scope x) (hr : PGs X es (gNs is)) (hf : X.fn x = true \/ X.env.scope.names.lookup x = some .local := by first | exact .inl rfl | exact .inr rfl | assumption)
 (hs : (assignEach (.Name x pos :: es) X.env).map (·.2) = assign (.Name x pos) X.env :: (assignEach es X.env).map (·.2) := by rfl) : PGs X (.Name x pos :: es) (gNs (i :: is)) := Zi3 (Zgv hN hi hx hf) hr hs
theorem ZkM {K : Fg} {H Hs : Hp} {σ : St} {δ δ' : List D} {m M : Bud} {x : V} {w : W} {u : Unit} {Q : St -> Hp -> Prop} (v : View K H Hs x w m) (s : RepS K H Hs σ δ M) (e : unpM lk is w δ = .ok (u, δ'))
 (q : ∀ σ', Keeps lk σ σ' -> RepS K H Hs σ' δ' (fun b => m b + M b) -> Q σ' H) : gSeq K is.length (gNs is) x σ H Q := by
 unfold unpM at e
 split at e
 . cases v with
   | nd n r =>
    obtain ⟨hl, hq⟩ := Zdz e r s q
    exact ⟨_, _, rfl, .inl (.inl (.inl n)), hl, hq⟩
 . cases v with
   | nd n r =>
    obtain ⟨hl, hq⟩ := Zdz e r s q
    exact ⟨_, _, rfl, .inr (.inl (.inl n)), hl, hq⟩
 . cases e
theorem ZmG (hc : X.calm = true) (he : PE X e (tP X.K ca)) (hg : PGs X es (gNs is)) (hn : (assignEach es X.env).length = is.length := by rfl) (hst : (assignEach es X.env).findIdx? (·.1) = none := by rfl)
 (hs : swapsWithSole [.Tuple es j pos'] e pos.line X.env = pure false := by rfl) (hw : swappedStores [.Tuple es j pos'] e X.env = pure none := by rfl)
 (h1 : (assignEach [.Tuple es j pos'] X.env).map (·.2) = [assign (.Tuple es j pos') X.env] := by rfl) :
 PS X (.Assign [.Tuple es j pos'] e pos) (tS X.K lk ((ca.bnd view).bnd fun w => (unpM lk is w).bnd fun _ => M.ret .nx)) := PS.imp (ZhB he (ZmE hc hg hn hst) hs hw h1) fun E σ H h => by
 obtain ⟨δ, Hs, M, f, δ', g, s, ea, q⟩ := h
 obtain ⟨w, δ2, eb, ec⟩ := Zb ea
 obtain ⟨p, δ1, e1, e2⟩ := Zb eb
 obtain ⟨u, δ3, e3, e4⟩ := Zb ec
 have := Zf e4
 cases this
 refine ⟨δ, Hs, M, p, δ1, g, s, e1, fun x H2 Hs2 m1 M2 g2 st2 r1 s2 => ?_⟩
 obtain ⟨Hs3, M3, g3, st3, v1, s3⟩ := Zaj (B := m1) g2 s2 r1 e2
 have z := Zr (m1 := fun _ => 0) g (g2.re fun b => by simp) (st2.drop (fun b => by simp) g2.le) g3 st3
 exact ZkM v1 s3 e3 fun σ' kk r => q σ' H2 Hs3 _ kk g3 (z.2.1.drop (fun b => by simp) z.1.le) r
theorem RepL.set (r : RepL K H Hs vs ds m) (hn : ds[n]? = some d0) (x : Rep K H Hs v d m1) : RepL K H Hs (vs.set n v) (ds.set n d) (fun b => m b + m1 b) := by
 obtain ⟨a, n1, n2, e1, q, l, f⟩ := r.sep.focus hn
 exact ((f (Rep K H Hs) v d m1 (fun a d m' _ q => q) x).mono fun b => by have := l b; (try dsimp only); omega).repL
theorem Zd0 {K : Fg} {H Hs : Hp} {σ : St} {δ δ' : List D} {M : Bud} {p : Op} (s : RepS K H Hs σ δ M) (h : ZB i δ = .ok (p, δ')) : δ' = δ /\ ∃ v, σ[i]? = some (some v) := by
 unfold ZB at h
 split at h
 . rename_i hd
   cases h
   obtain ⟨v, _, _, e, _⟩ := s.slot hd (by simp)
   exact ⟨rfl, v, e⟩
 . rename_i hd
   cases h
   obtain ⟨v, _, _, e, _⟩ := s.slot hd (by simp)
   exact ⟨rfl, v, e⟩
 . cases h
end
end T
namespace T
open PySem PySem.Spec L2
structure WalkV (J : It) (vs : List V) (B : Bud) (Pp : Hp -> Hp -> Prop) : Prop where
 stay : ∀ {H Hs H' Hs' : Hp}, Pp H Hs -> Same Hs Hs' -> (∀ b, B b ≥ 1 -> H b ≠ none -> H' b = H b) -> Pp H' Hs'
 go : ∀ {H Hs : Hp} {i : Nat} {v : V}, Same Hs H -> Pp H Hs -> vs[i]? = some v -> J.go i H
 yld : ∀ {H Hs H' : Hp} {i : Nat} {x v : V}, Same Hs H -> Pp H Hs -> vs[i]? = some v -> J.yld i H x H' -> H' = H /\ x = v
 stop : ∀ {H Hs : Hp} {i : Nat}, Same Hs H -> Pp H Hs -> vs.length <= i -> J.stop i H
def Grow (H Hs H' Hs' : Hp) : Prop := (H' = H /\ Hs' = Hs) \/ ∃ A o, H A = none /\ H' = upd H A o /\ Hs' = upd Hs A o
theorem Grow.same (w : Grow H Hs H' Hs') (g : Same Hs H) : Same Hs Hs' /\ (∀ b, H b ≠ none -> H' b = H b) /\ Same Hs' H' := by
 rcases w with ⟨rfl, rfl⟩ | ⟨A, o, h, rfl, rfl⟩
 . exact ⟨Same.refl _, fun _ _ => rfl, g⟩
 . have hs : Hs A = none := by
    cases q : Hs A with
    | none => rfl
    | some u => rw [g A u q] at h; cases h
   have ne : ∀ b u, Hs b = some u -> b ≠ A := fun b u e z => by subst z; rw [hs] at e; cases e
   refine ⟨fun b u e => ?_, fun b n => Zj fun z => n (by rw [z]; exact h), fun b u e => ?_⟩
   . rw [Zj (ne b u e)]; exact e
   . by_cases z : b = A
     . subst z; rw [Zi] at e ⊢; exact e
     . rw [Zj z] at e ⊢; exact g b u e
theorem Grow.good {H Hs H' Hs' : Hp} {M : Bud} (w : Grow H Hs H' Hs') (g : Good H Hs M) : Good H' Hs' M := by
 obtain ⟨s1, s2, s3⟩ := w.same g.sub
 refine ⟨s3, g.le, fun b h => ?_, fun b h => ?_⟩
 . rcases w with ⟨rfl, rfl⟩ | ⟨A, o, n, rfl, rfl⟩
   . exact g.ne b h
   . rw [Zj fun z => g.has b h (by rw [z]; exact n)]; exact g.ne b h
 . rw [s2 b (g.has b h)]; exact g.has b h
theorem Grow.stp {H Hs H' Hs' H0 Hs0 : Hp} {M M0 : Bud} (w : Grow H Hs H' Hs') (g : Good H Hs M) (t : Stp H0 Hs0 M0 H Hs M) : Stp H0 Hs0 M0 H' Hs' M := by
 obtain ⟨s1, s2, s3⟩ := w.same g.sub
 refine ⟨fun b o e z => ?_, t.own, t.grow.trans s1, fun b n n' => ?_, fun b n => ?_⟩
 . have e1 := t.keep b o e z
   rw [s2 b (by rw [e1]; simp)]; exact e1
 . by_cases q : Hs b = none
   . rcases w with ⟨rfl, rfl⟩ | ⟨A, o, h, rfl, rfl⟩
     . exact absurd q n'
     . by_cases z : b = A
       . subst z
         cases y : H0 b with
         | none => exact .inr rfl
         | some u => exact absurd h (t.stay b (by rw [y]; simp))
       . rw [Zj z] at n'; exact absurd q n'
   . exact t.shr b n q
 . have := t.stay b n
   rw [s2 b this]; exact this
structure Walk (K : Fg) (J : It) (items : List D) (B : Bud) (Pp : Hp -> Hp -> Prop) : Prop where
 stay : ∀ {H Hs H' Hs' : Hp}, Pp H Hs -> Same Hs Hs' -> (∀ b, B b ≥ 1 -> H b ≠ none -> H' b = H b) -> Pp H' Hs'
 go : ∀ {H Hs : Hp} {i : Nat}, Same Hs H -> Pp H Hs -> i < items.length -> J.go i H
 yld : ∀ {H Hs H' : Hp} {i : Nat} {x : V} {d : D}, Same Hs H -> Pp H Hs -> items[i]? = some d -> J.yld i H x H' -> ∃ Hs', Grow H Hs H' Hs' /\ Rep K H' Hs' x d (fun _ => 0)
 stop : ∀ {H Hs : Hp} {i : Nat}, Same Hs H -> Pp H Hs -> items.length <= i -> J.stop i H
theorem WalkV.w (w : WalkV J vs B Pp) : Walk K J items B (fun H Hs => Pp H Hs /\ RepL K H Hs vs items (fun _ => 0)) where
 stay := fun h g k => ⟨w.stay h.1 g k, h.2.frame g fun b hb => absurd hb (by simp)⟩
 go := fun {H Hs i} g h l => by
  have e := h.2.len
  exact w.go g h.1 (List.getElem?_eq_getElem (show i < vs.length by omega))
 yld := fun {H Hs H' i x d} g h e y => by
  obtain ⟨v, m1, ev, rv, lv⟩ := h.2.at e
  obtain ⟨rfl, rfl⟩ := w.yld g h.1 ev y
  exact ⟨Hs, .inl ⟨rfl, rfl⟩, rv.mono lv⟩
 stop := fun {H Hs i} g h l => w.stop g h.1 (by have := h.2.len; omega)
def Held (K : Fg) (H Hs : Hp) (σ : St) : List (Nat × D) -> Bud -> Prop
 | [], _ => True
 | (i, d) :: r, m => ∃ (v : V) (m1 m2 : Bud), σ[i]? = some (some v) /\ Rep K H Hs v d m1 /\ Held K H Hs σ r m2 /\ ∀ b, m1 b + m2 b <= m b
theorem Held.frame (g : Same Hs Hs') : ∀ {hs : List (Nat × D)} {m : Bud}, (∀ b, m b ≥ 1 -> H b ≠ none -> H' b = H b) -> Held K H Hs σ hs m -> Held K H' Hs' σ hs m
 | [], _, _, h => h
 | (i, d) :: r, m, k, ⟨v, m1, m2, e, x, y, l⟩ => ⟨v, m1, m2, e, x.frame g fun b hb => k b (by have := l b; omega), y.frame g fun b hb => k b (by have := l b; omega), l⟩
theorem Held.keeps (k : Keeps lk σ σ') : ∀ {hs : List (Nat × D)} {m : Bud}, (∀ p ∈ hs, lk p.1 = true) -> Held K H Hs σ hs m -> Held K H Hs σ' hs m
 | [], _, _, h => h
 | (i, d) :: r, m, hl, ⟨v, m1, m2, e, x, y, l⟩ => ⟨v, m1, m2, (k i (hl (i, d) List.mem_cons_self)).trans e, x, y.keeps k fun p hp => hl p (List.mem_cons_of_mem _ hp), l⟩
theorem ZaC : ∀ {hs : List (Nat × D)} {m M : Bud} {δ δ' : List D} {u : Unit}, ZA hs δ = .ok (u, δ') -> Held K H Hs σ hs m -> RepS K H Hs σ δ M -> RepS K H Hs σ δ' (fun b => m b + M b)
 | [], m, M, δ, δ', u, e, h, s => by
  have := Zf e
  cases this
  exact s.mono fun b => by omega
 | (i, d) :: r, m, M, δ, δ', u, e, ⟨v, m1, m2, e1, x, y, l⟩, s => by
  have hi : i < δ.length := by
   have := s.length
   have := (List.getElem?_eq_some_iff.mp e1).1
   omega
  have z := ZaU s hi x
  rw [ZZ e1] at z
  exact (ZaC (show ZA r (δ.set i d) = _ from e) y z).mono fun b => by have := l b; (try dsimp only); omega
inductive tI (K : Fg) (ik : IK) (cs : M (List Op)) (σ : St) (H : Hp) (R : It -> Hp -> Prop) : Prop
 | mk (δ : List D) (Hs : Hp) (M : Bud) (h : List W × List (Nat × D)) (items : List D) (δ' : List D) (h0 : Good H Hs M) (h1 : RepS K H Hs σ δ M) (h2 : (cs.bnd Zw) δ = .ok (h, δ')) (h3 : itW ik h.1 = some items) (h4 : ∀ (J : It) (Pp : Hp -> Hp -> Prop) (H' Hs' : Hp) (B M' : Bud), Good H' Hs' (fun b => B b + M' b) -> Stp H Hs M H' Hs' (fun b => B b + M' b) -> RepS K H' Hs' σ δ' M' -> Held K H' Hs' σ h.2 B -> Walk K J items B Pp -> Pp H' Hs' -> R J H') : tI K ik cs σ H R
theorem PI.imp (h : PI X tg it w) (q : ∀ σ H R, w' σ H R -> w σ H R) : PI X tg it w' := fun pins s σ H R I z => h pins s σ H R I (q σ H R z)
def HW (K : Fg) (H Hs : Hp) (B : Bud) (v : V) : W -> Prop
 | .sc u => v = u
 | .nd k ds => ∃ a vs, v = .ref a /\ RepL K H Hs vs ds (fun _ => 0) /\ (Zc5 K Hs a vs k \/ (Za7 K H a vs k /\ B a ≥ 1))
theorem Zd1 {K : Fg} {H Hs : Hp} {σ : St} {δ δ' : List D} {m M : Bud} {p : Op} {v : V} {w : W × Option (Nat × D)} (g : Good H Hs (fun b => m b + M b)) (s : RepS K H Hs σ δ M) (r : RepP K H Hs σ v p m) (e : holdV p δ = .ok (w, δ')) :
 ∃ Hs' B M', Good H Hs' (fun b => B b + M' b) /\ Stp H Hs (fun b => m b + M b) H Hs' (fun b => B b + M' b) /\ RepS K H Hs' σ δ' M' /\ Held K H Hs' σ w.2.toList B /\ HW K H Hs' B v w.1 := by
 have dropM : ∀ {Hs' : Hp} {M' : Bud}, Good H Hs' M' -> Good H Hs' (fun b => (fun _ => 0) b + M' b) := fun g => g.re fun b => by simp
 cases p with
 | tmp d =>
  cases d with
  | hole => cases e
  | sc u =>
   have := Zf e
   cases this
   cases r
   exact ⟨Hs, fun _ => 0, M, g.re fun b => by simp, (Stp.refl H Hs _).drop (fun b => by simp) g.le, s, trivial, rfl⟩
  | node k o ds =>
   have := Zf e
   cases this
   have hsame := Zbt g (m := m) fun b => by omega
   have r2 := Rep.share hsame (ZcU (H := H) (Hs := Hs) (m := m)) r
   refine ⟨shH H Hs m, fun _ => 0, M, dropM g.share, (Stp.share g).drop (fun b => by simp) g.share.le, s.frame hsame fun _ _ _ => rfl, trivial, ?_⟩
   simp only [shr] at r2
   cases r2 with
   | shd n r3 => exact ⟨_, _, rfl, r3, .inl n⟩
 | late i =>
  have r : σ[i]? = some (some v) := r
  unfold holdV at e
  dsimp only at e
  split at e
  . rename_i u hi
    cases e
    obtain ⟨v', m1, m2, e1, q, l, f⟩ := s.slot hi (by simp)
    rw [r] at e1
    cases e1
    cases q
    exact ⟨Hs, fun _ => 0, M, g.re fun b => by simp, (Stp.refl H Hs _).drop (fun b => by simp) g.le, s, trivial, rfl⟩
  . rename_i k ds hi
    cases e
    obtain ⟨v', m1, m2, e1, q, l, f⟩ := s.slot hi (by simp)
    rw [r] at e1
    cases e1
    cases q with
    | shd n q => exact ⟨Hs, fun _ => 0, M, g.re fun b => by simp, (Stp.refl H Hs _).drop (fun b => by simp) g.le, s, trivial, _, _, rfl, q, .inl n⟩
  . rename_i k ds hi
    cases e
    obtain ⟨v', m1, m2, e1, q, l, f⟩ := s.slot hi (by simp)
    rw [r] at e1
    cases e1
    cases q with
    | @own a _ vs _ _ m' n q l' =>
     have g2 : Good H Hs (fun b => m' b + (one a b + m2 b)) := g.re fun b => by have := l b; have := l' b; omega
     have hsame := Zbt g2 (m := m') fun b => by omega
     have q2 := RepL.share hsame (ZcU (H := H) (Hs := Hs) (m := m')) q
     have st := Stp.share g2
     have z := f H (shH H Hs m') (some (.ref a)) .hole (fun _ => 0) hsame (fun _ _ _ => rfl) (.inl rfl)
     rw [ZZ r] at z
     refine ⟨shH H Hs m', one a, m2, g2.share, ⟨fun b o h _ => h, fun b h => ?_, st.grow, fun b h h' => ?_, fun b h => h⟩, z.mono fun b => by simp, ⟨_, one a, fun _ => 0, r, .own n q2 fun b => by simp, trivial, fun b => by simp⟩, _, _, rfl, q2, .inr ⟨n, by simp [one]⟩⟩
     . have h : one a b + m2 b = 1 := h
       have l0 : m b + M b <= 1 := g.le b
       have := l b
       have := l' b
       left
       show m b + M b = 1
       omega
     . rcases st.shr b h h' with z | z
       . have z : m' b + (one a b + m2 b) = 1 := z
         have l0 : m b + M b <= 1 := g.le b
         have := l b
         have := l' b
         left
         show m b + M b = 1
         omega
       . exact .inr z
  . cases e
theorem Zed (lo : Int) (n : Nat) (B : Bud) : WalkV (Itr lo n) ((List.range n).map fun (k : Nat) => V.int (lo + k)) B (fun _ _ => True) where
 stay := fun _ _ _ => trivial
 go := fun {H Hs i v} _ _ h => by
  have := (List.getElem?_eq_some_iff.mp h).1
  simp only [List.length_map, List.length_range] at this
  exact this
 yld := fun {H Hs H' i x v} _ _ h y => by
  obtain ⟨e, y⟩ := y
  have := (List.getElem?_eq_some_iff.mp h).1
  simp only [List.length_map, List.length_range] at this
  rw [List.getElem?_map, List.getElem?_range this] at h
  simp only [Option.map_some, Option.some.injEq] at h
  exact ⟨e, y.trans h⟩
 stop := fun {H Hs i} _ _ h => by
  simp only [List.length_map, List.length_range] at h
  exact h
theorem ZeU : WalkV (Itl K a) vs B (fun H Hs => SqL K Hs a vs \/ (H a = some (.lst vs) /\ B a ≥ 1)) := by
 have sq : ∀ {H Hs : Hp}, Same Hs H -> (SqL K Hs a vs \/ (H a = some (.lst vs) /\ B a ≥ 1)) -> SqL K H a vs := fun g h => by
  rcases h with h | h
  . exact g.seq h
  . exact .inl (.inl h.1)
 refine ⟨fun h g k => ?_, fun g h e => ⟨vs, _, sq g h, e⟩, fun g h e y => ?_, fun g h e => ⟨vs, sq g h, e⟩⟩
 . rcases h with h | ⟨h, hb⟩
   . exact .inl (g.seq h)
   . exact .inr ⟨(k a hb (by rw [h]; simp)).trans h, hb⟩
 . obtain ⟨e1, y⟩ := y
   have := y vs (sq g h)
   rw [e] at this
   exact ⟨e1, (Option.some.inj this).symm⟩
theorem ZfC : WalkV (Itt K a) vs B (fun H Hs => SqT K Hs a vs \/ (H a = some (.tup vs) /\ B a ≥ 1)) := by
 have sq : ∀ {H Hs : Hp}, Same Hs H -> (SqT K Hs a vs \/ (H a = some (.tup vs) /\ B a ≥ 1)) -> SqT K H a vs := fun g h => by
  rcases h with h | h
  . exact Same.tupq' g h
  . exact .inl (.inl h.1)
 refine ⟨fun h g k => ?_, fun g h e => ⟨vs, _, sq g h, e⟩, fun g h e y => ?_, fun g h e => ⟨vs, sq g h, e⟩⟩
 . rcases h with h | ⟨h, hb⟩
   . exact .inl (Same.tupq' g h)
   . exact .inr ⟨(k a hb (by rw [h]; simp)).trans h, hb⟩
 . obtain ⟨e1, y⟩ := y
   have := y vs (sq g h)
   rw [e] at this
   exact ⟨e1, (Option.some.inj this).symm⟩
section
variable {X : Cx} {tg a b l : Expr} {ca cb : M Op} {pos p : Pos}
theorem Zhm {c : M Op} {δ δ' : List D} {h : List W × List (Nat × D)} (e : ((c.bnd fun p => (M.ret ([] : List Op)).bnd fun ps => M.ret (p :: ps)).bnd Zw) δ = .ok (h, δ')) : ∃ p δ1 w, c δ = .ok (p, δ1) /\ holdV p δ1 = .ok (w, δ') /\ h = ([w.1], w.2.toList) := by
 obtain ⟨ps, δ1, e1, e2⟩ := Zb e
 obtain ⟨p, δ2, e3, e4⟩ := Zb e1
 obtain ⟨z, δ3, e5, e6⟩ := Zb e4
 have := Zf e5
 cases this
 have := Zf e6
 cases this
 obtain ⟨w, δ4, e7, e8⟩ := Zb e2
 obtain ⟨z, δ5, e9, e10⟩ := Zb e8
 have := Zf e9
 cases this
 have := Zf e10
 cases this
 exact ⟨p, δ1, w, e3, e7, by simp⟩
theorem ZcZ : ∀ (l : List Int), RepL K H Hs (l.map V.int) (l.map fun i => D.sc (.int i)) (fun _ => 0)
 | [] => .nil _
 | i :: l => .cons (m1 := fun _ => 0) (m2 := fun _ => 0) (.sc _ _) (ZcZ l) fun b => by simp
theorem ZgA (lo hi : Int) : RepL K H Hs ((List.range (hi - lo).toNat).map fun (k : Nat) => V.int (lo + k)) (rng lo hi) (fun _ => 0) := by
 have z := ZcZ (K := K) (H := H) (Hs := Hs) ((List.range (hi - lo).toNat).map fun (k : Nat) => lo + k)
 rw [List.map_map, List.map_map] at z
 exact z
theorem Zd2 (hm : X.mg "range" = none) (ha : PE X a (tP X.K ca)) (hz : glOk X.env.scope "range" = true := by kernel_rfl) (hs : starEach [a] X.env = [(false, eval a X.env)] := by rfl) :
 PI X tg (.Call (.Name "range" p) [a] [] pos) (tI X.K .rng1 (ca.bnd fun p => (M.ret ([] : List Op)).bnd fun ps => M.ret (p :: ps))) := PI.imp (ZhE (glk hz) hm (Zai ha Zb5 (by rw [hs]; rfl)) hs) fun σ H R h => by
 obtain ⟨δ, Hs, M, h, items, δ', g, s, e, ei, q⟩ := h
 obtain ⟨p, δ1, w, e1, e2, rfl⟩ := Zhm e
 refine ⟨δ, Hs, M, p, δ1, g, s, e1, fun x H2 Hs2 m1 M2 g2 st2 r1 s2 => ?_⟩
 obtain ⟨Hs3, B, M3, g3, st3, s3, hh, hw⟩ := Zd1 g2 s2 r1 e2
 have z := Zr (m1 := fun _ => 0) g (g2.re fun b => by simp) (st2.drop (fun b => by simp) g2.le) g3 st3
 obtain ⟨w1, w2⟩ := w
 replace ei : Zhj _ = _ := ei
 unfold Zhj at ei
 split at ei
 rotate_left
 . cases ei
 rename_i n hx
 cases hx
 split at ei
 . rename_i hok
   cases ei
   obtain rfl := hw
   simp only [okR, Bool.and_eq_true, decide_eq_true_eq] at hok
   have hz : (n - 0).toNat = n.toNat := by omega
   refine ⟨n, rfl, hok.1, hok.2, ?_⟩
   have := ZgA (K := X.K) (H := H2) (Hs := Hs3) 0 n
   rw [hz] at this
   exact q _ _ H2 Hs3 B M3 g3 (z.2.1.drop (fun b => by simp) z.1.le) s3 hh (Zed 0 n.toNat B).w ⟨trivial, this⟩
 . cases ei
theorem Zpm (e : ((ca.bnd fun p => (cb.bnd fun p => (M.ret ([] : List Op)).bnd fun ps => M.ret (p :: ps)).bnd fun ps => M.ret (p :: ps)).bnd Zw) δ = .ok (h, δ')) : ∃ p1 δ1 p2 δ2 w1 δ3 w2, ca δ = .ok (p1, δ1) /\ cb δ1 = .ok (p2, δ2) /\ holdV p1 δ2 = .ok (w1, δ3) /\ holdV p2 δ3 = .ok (w2, δ') /\ h = ([w1.1, w2.1], w1.2.toList ++ (w2.2.toList ++ [])) := by
 obtain ⟨ps, δ1, e1, e2⟩ := Zb e
 obtain ⟨p1, δ2, e3, e4⟩ := Zb e1
 obtain ⟨qs, δ3, e5, e6⟩ := Zb e4
 obtain ⟨p2, δ4, e7, e8⟩ := Zb e5
 obtain ⟨z, δ5, e9, e10⟩ := Zb e8
 clear e e1 e4 e5 e8
 have := Zf e9
 cases this
 have := Zf e10
 cases this
 have := Zf e6
 cases this
 obtain ⟨w1, δ6, e11, e12⟩ := Zb e2
 obtain ⟨ws, δ7, e13, e14⟩ := Zb e12
 obtain ⟨w2, δ8, e15, e16⟩ := Zb e13
 obtain ⟨z, δ9, e17, e18⟩ := Zb e16
 clear e2 e12 e13 e16
 have := Zf e17
 cases this
 have := Zf e18
 cases this
 have := Zf e14
 cases this
 exact ⟨p1, δ2, p2, _, w1, _, w2, e3, e7, e11, e15, rfl⟩
theorem ZgB {p : Op} {δ δ' : List D} {v : V} {h : Option (Nat × D)} (e : holdV p δ = .ok ((.sc v, h), δ')) : h = none := by
 cases p with
 | tmp d => cases d with
  | sc u => cases e; rfl
  | hole => cases e
  | node k o ds => cases e
 | late i =>
  unfold holdV at e
  dsimp only at e
  split at e <;> cases e
  rfl
theorem ZkN (hm : X.mg "range" = none) (ha : PE X a (tP X.K ca)) (hb : PE X b (tP X.K cb)) (hz : glOk X.env.scope "range" = true := by kernel_rfl) (hs : starEach [a, b] X.env = [(false, eval a X.env), (false, eval b X.env)] := by rfl) (hs2 : starEach [b] X.env = [(false, eval b X.env)] := by rfl) :
 PI X tg (.Call (.Name "range" p) [a, b] [] pos) (tI X.K .rng2 (ca.bnd fun p => (cb.bnd fun p => (M.ret ([] : List Op)).bnd fun ps => M.ret (p :: ps)).bnd fun ps => M.ret (p :: ps))) := PI.imp (ZhF (glk hz) hm (Zai ha (Zai hb Zb5 (by rw [hs2]; rfl)) (by rw [hs, hs2])) hs hs2) fun σ H R h => by
 obtain ⟨δ, Hs, M, h, items, δ', g, s, e, ei, q⟩ := h
 obtain ⟨p1, δ2, p2, δ4, w1, δ6, w2, e3, e7, e11, e15, rfl⟩ := Zpm e
 obtain ⟨w1, h1⟩ := w1
 obtain ⟨w2, h2⟩ := w2
 replace ei : Zhk _ = _ := ei
 unfold Zhk at ei
 split at ei
 rotate_left
 . cases ei
 rename_i lo hi hx
 cases hx
 split at ei
 . rename_i hok
   cases ei
   simp only [okR, Bool.and_eq_true, decide_eq_true_eq] at hok
   refine ⟨δ, Hs, M, p1, δ2, g, s, e3, fun x H1 Hs1 m1 M1 g1 st1 r1 s1 => ⟨δ2, Hs1, M1, p2, _, g1.re, s1, e7, fun y H2 Hs2 m2 M2 g2 st2 r2 s2 => ?_⟩⟩
   obtain ⟨G2, S2, k2⟩ := Zr g g1 st1 g2 st2
   have r1' := RepP.frame st2.grow k2 r1
   have r2b : RepP X.K H2 Hs2 σ x p1 (fun b => m1 b + m2 b) := by
    cases p1 with
    | late i => exact r1'
    | tmp d => exact Rep.mono r1' fun b => by omega
   obtain ⟨Hs3, B3, M3, g3, st3, s3, hh3, hw3⟩ := Zd1 (m := fun b => m1 b + m2 b) (G2.re fun b => by (try dsimp only); omega) s2 r2b e11
   obtain rfl := hw3
   have r2' : RepP X.K H2 Hs3 σ y p2 (fun _ => 0) := by
    cases p2 with
    | late i => exact r2
    | tmp d =>
     cases d with
     | sc u => cases r2; exact .sc _ _
     | hole => cases e15
     | node k o ds => cases e15
   have nh1 : h1 = none := ZgB e11
   have nh2 : h2 = none := ZgB e15
   subst nh1 nh2
   obtain ⟨Hs4, B4, M4, g4, st4, s4, hh4, hw4⟩ := Zd1 (m := fun _ => 0) (g3.re fun b => by simp) s3 r2' e15
   obtain rfl := hw4
   have S2' : Stp H Hs M H2 Hs2 (fun b => m1 b + m2 b + M2 b) := S2.drop (fun b => by omega) G2.le
   have G2' : Good H2 Hs2 (fun b => m1 b + m2 b + M2 b) := G2.re fun b => by omega
   have z3 := Zr (m1 := fun _ => 0) g (G2'.re fun b => by simp) (S2'.drop (fun b => by simp) G2'.le) g3 st3
   have S3 : Stp H Hs M H2 Hs3 (fun b => B3 b + M3 b) := z3.2.1.drop (fun b => by simp) z3.1.le
   have st4' : Stp H2 Hs3 (fun b => B3 b + M3 b) H2 Hs4 (fun b => B4 b + M4 b) := ⟨fun b o h _ => h, fun b h => by
    rcases st4.own b h with z | z
    . have z : 0 + M3 b = 1 := z
      have : B3 b + M3 b <= 1 := g3.le b
      left; show B3 b + M3 b = 1; omega
    . exact .inr z, st4.grow, fun b h h' => by
    rcases st4.shr b h h' with z | z
    . have z : 0 + M3 b = 1 := z
      have : B3 b + M3 b <= 1 := g3.le b
      left; show B3 b + M3 b = 1; omega
    . exact .inr z, fun b h => h⟩
   have z4 := Zr (m1 := fun _ => 0) g (g3.re fun b => by simp) (S3.drop (fun b => by simp) g3.le) g4 st4'
   exact ⟨lo, hi, rfl, ⟨hok.1.1, hok.1.2, hok.2.1, hok.2.2⟩, q _ _ H2 Hs4 B4 M4 g4 (z4.2.1.drop (fun b => by simp) z4.1.le) s4 trivial (Zed lo _ B4).w ⟨trivial, ZgA lo hi⟩⟩
 . cases ei
theorem Zee : ∀ (l : List Nat), RepL K H Hs (l.map fun c => V.str ⟨#[c]⟩) (l.map fun c => D.sc (.str ⟨#[c]⟩)) (fun _ => 0)
 | [] => .nil _
 | i :: l => .cons (m1 := fun _ => 0) (m2 := fun _ => 0) (.sc _ _) (Zee l) fun b => by simp
theorem ZiY (x : Str) (B : Bud) : WalkV (Its x) (x.cps.toList.map fun c => V.str ⟨#[c]⟩) B (fun _ _ => True) where
 stay := fun _ _ _ => trivial
 go := fun {H Hs i v} _ _ h => by
  have := (List.getElem?_eq_some_iff.mp h).1
  have : i < x.cps.size := by simpa using this
  exact this
 yld := fun {H Hs H' i y v} _ _ h z => by
  obtain ⟨e, c, h1, h2⟩ := z
  refine ⟨e, ?_⟩
  rw [List.getElem?_map, Array.getElem?_toList, h1] at h
  simp only [Option.map_some, Option.some.injEq] at h
  exact h2.trans h
 stop := fun {H Hs i} _ _ h => by
  have h : x.cps.size <= i := by simpa using h
  exact h
theorem Zbc (hl : PE X l (tP X.K ca)) : PI X tg l (tI X.K .val (ca.bnd fun p => (M.ret ([] : List Op)).bnd fun ps => M.ret (p :: ps))) := by
 intro pins st0 σ H R I hh0
 obtain ⟨δ, Hs, M, h, items, δ', g, s, e, ei, q⟩ := hh0
 obtain ⟨p, δ1, w, e1, e2, rfl⟩ := Zhm e
 obtain ⟨w1, w2⟩ := w
 have core : ∀ (x : V) (H2 Hs2 : Hp) (m1 M2 : Bud), Good H2 Hs2 (fun b => m1 b + M2 b) -> Stp H Hs M H2 Hs2 (fun b => m1 b + M2 b) -> RepP X.K H2 Hs2 σ x p m1 -> RepS X.K H2 Hs2 σ δ1 M2 ->
  ∃ Hs3 B M3, Good H2 Hs3 (fun b => B b + M3 b) /\ Stp H Hs M H2 Hs3 (fun b => B b + M3 b) /\ RepS X.K H2 Hs3 σ δ' M3 /\ Held X.K H2 Hs3 σ w2.toList B /\ HW X.K H2 Hs3 B x w1 := fun x H2 Hs2 m1 M2 g2 st2 r1 s2 => by
  obtain ⟨Hs3, B, M3, g3, st3, s3, hh, hw⟩ := Zd1 g2 s2 r1 e2
  have z := Zr (m1 := fun _ => 0) g (g2.re fun b => by simp) (st2.drop (fun b => by simp) g2.le) g3 st3
  exact ⟨Hs3, B, M3, g3, z.2.1.drop (fun b => by simp) z.1.le, s3, hh, hw⟩
 cases w1 with
 | sc u =>
  cases u with
  | str z =>
   cases ei
   refine Zmz hl pins st0 σ H R I ⟨δ, Hs, M, p, δ1, g, s, e1, fun x H2 Hs2 m1 M2 g2 st2 r1 s2 => ?_⟩
   obtain ⟨Hs3, B, M3, g3, st3, s3, hh, hw⟩ := core x H2 Hs2 m1 M2 g2 st2 r1 s2
   exact ⟨z, hw, q _ _ H2 Hs3 B M3 g3 st3 s3 hh (ZiY z B).w ⟨trivial, Zee _⟩⟩
  | _ => cases ei
 | nd k ds =>
  cases k with
  | lst =>
   cases ei
   refine Zgw hl pins st0 σ H R I ⟨δ, Hs, M, p, δ1, g, s, e1, fun x H2 Hs2 m1 M2 g2 st2 r1 s2 => ?_⟩
   obtain ⟨Hs3, B, M3, g3, st3, s3, hh, a, vs, hx, hr, hn⟩ := core x H2 Hs2 m1 M2 g2 st2 r1 s2
   have hp : SqL X.K Hs3 a vs \/ (H2 a = some (.lst vs) /\ B a ≥ 1) := hn.elim (fun n => .inl (.inl (.inl n))) fun n => .inr n
   refine ⟨a, hx, ⟨vs, ?_⟩, q _ _ H2 Hs3 B M3 g3 st3 s3 hh ZeU.w ⟨hp, hr⟩⟩
   rcases hp with hp | hp
   . exact g3.sub.seq hp
   . exact .inl (.inl hp.1)
  | frl =>
   cases ei
   refine Zgw hl pins st0 σ H R I ⟨δ, Hs, M, p, δ1, g, s, e1, fun x H2 Hs2 m1 M2 g2 st2 r1 s2 => ?_⟩
   obtain ⟨Hs3, B, M3, g3, st3, s3, hh, a, vs, hx, hr, hn⟩ := core x H2 Hs2 m1 M2 g2 st2 r1 s2
   have hp : SqL X.K Hs3 a vs \/ (H2 a = some (.lst vs) /\ B a ≥ 1) := hn.elim (fun n => .inl n) fun n => n.1.elim
   refine ⟨a, hx, ⟨vs, ?_⟩, q _ _ H2 Hs3 B M3 g3 st3 s3 hh ZeU.w ⟨hp, hr⟩⟩
   rcases hp with hp | hp
   . exact g3.sub.seq hp
   . exact .inl (.inl hp.1)
  | tup =>
   cases ei
   refine ZhD hl pins st0 σ H R I ⟨δ, Hs, M, p, δ1, g, s, e1, fun x H2 Hs2 m1 M2 g2 st2 r1 s2 => ?_⟩
   obtain ⟨Hs3, B, M3, g3, st3, s3, hh, a, vs, hx, hr, hn⟩ := core x H2 Hs2 m1 M2 g2 st2 r1 s2
   have hp : SqT X.K Hs3 a vs \/ (H2 a = some (.tup vs) /\ B a ≥ 1) := hn.elim (fun n => .inl (.inl (.inl n))) fun n => .inr n
   refine ⟨a, hx, ⟨vs, ?_⟩, q _ _ H2 Hs3 B M3 g3 st3 s3 hh ZfC.w ⟨hp, hr⟩⟩
   rcases hp with hp | hp
   . exact Same.tupq' g3.sub hp
   . exact .inl (.inl hp.1)
  | ftp =>
   cases ei
   refine ZhD hl pins st0 σ H R I ⟨δ, Hs, M, p, δ1, g, s, e1, fun x H2 Hs2 m1 M2 g2 st2 r1 s2 => ?_⟩
   obtain ⟨Hs3, B, M3, g3, st3, s3, hh, a, vs, hx, hr, hn⟩ := core x H2 Hs2 m1 M2 g2 st2 r1 s2
   have hp : SqT X.K Hs3 a vs \/ (H2 a = some (.tup vs) /\ B a ≥ 1) := hn.elim (fun n => .inl n) fun n => n.1.elim
   refine ⟨a, hx, ⟨vs, ?_⟩, q _ _ H2 Hs3 B M3 g3 st3 s3 hh ZfC.w ⟨hp, hr⟩⟩
   rcases hp with hp | hp
   . exact Same.tupq' g3.sub hp
   . exact .inl (.inl hp.1)
  | dic ks => cases ei
  | ins C fs => cases ei
  | exc ns fr fs => cases ei
end
end T
namespace T
open PySem PySem.Spec L2
noncomputable def gT (K : Fg) : Tg -> TG
 | .name i => Zca i
 | .tup is => gSeq K is.length (gNs is)
theorem Ze3 {K : Fg} {H Hs : Hp} {lk : Nat -> Bool} {tg : Tg} {d : D} {v : V} {σ : St} {δ δ' : List D} {M : Bud} {u : Unit} {Q : St -> Hp -> Prop} (hs : Same Hs H) (e : asgT lk tg d δ = .ok (u, δ')) (r : Rep K H Hs v d (fun _ => 0)) (s : RepS K H Hs σ δ M)
 (q : ∀ σ', Keeps lk σ σ' -> RepS K H Hs σ' δ' M -> Q σ' H) : gT K tg v σ H Q := by
 cases tg with
 | name i =>
  obtain ⟨h1, h2, rfl⟩ := Zcs e
  exact q _ (ZaB h2) ((ZaU s h1 r).mono fun b => by simp)
 | tup is =>
  cases d with
  | sc v => cases e
  | hole => cases e
  | node k o ds =>
   cases k with
   | tup =>
    have e : Zbb lk is ds δ = .ok (u, δ') := e
    cases r with
    | own n r l =>
     rename_i a _ _
     have := l a
     simp [one] at this
    | shd n r =>
     obtain ⟨hl, hq⟩ := Zdz (Q := Q) e r s fun σ' k z => q σ' k (z.mono fun b => by simp)
     exact ⟨_, _, rfl, .inl (.inl (.inl (hs _ _ n))), hl, hq⟩
   | _ => cases e
theorem ZkO (h : ∀ j, a ≠ .v j) : Zp a c = c.bnd fun d => M.ret (.tmp d) := by
 cases a <;> first | rfl | exact absurd rfl (h _)
theorem ZdH : ∀ {ps : List Op} {δ δ' : List D} {h : List W × List (Nat × D)}, Zw ps δ = .ok (h, δ') -> ∀ q ∈ h.2, .late q.1 ∈ ps
 | [], δ, δ', h, e, q, hq => by
  have := Zf (show T.M.ret (([] : List W), ([] : List (Nat × D))) δ = .ok (h, δ') from e)
  cases this
  simp at hq
 | p :: ps, δ, δ', h, e, q, hq => by
  obtain ⟨w, δ1, e1, e2⟩ := Zb e
  obtain ⟨ws, δ2, e3, e4⟩ := Zb e2
  have := Zf e4
  cases this
  rcases List.mem_append.mp hq with h | h
  . have : p = .late q.1 := by
     cases p with
     | tmp d => cases d <;> cases e1 <;> simp at h
     | late i =>
      unfold holdV at e1
      dsimp only at e1
      split at e1 <;> cases e1 <;> simp at h
      subst h
      rfl
    rw [this]
    exact List.mem_cons_self
  . exact List.mem_cons_of_mem _ (ZdH e3 q h)
def HWs (cs : M (List Op)) (lk : Nat -> Bool) : Prop := ∀ δ h δ', (cs.bnd Zw) δ = .ok (h, δ') -> ∀ q ∈ h.2, lk q.1 = true
def LkLe (lk lk' : Nat -> Bool) : Prop := ∀ i, lk i = true -> lk' i = true
theorem ZbK (lk f : Nat -> Bool) : LkLe lk (fun j => lk j || f j) := fun i h => by
 show (lk i || f i) = true
 rw [h]
 rfl
section
theorem ZbX (hp : PassesOwn (model X.prog X.w) X.A X.env X.xe) (hc : X.calm = true) (hl : LkLe lk lk') (hw : HWs cs lk')
 (hi : PI X tg iter (tI X.K ik cs)) (hg : PG X tg (gT X.K tgt)) (hb : PSs X body (tS X.K lk' cb)) (hs : ∀ x, foldedSetIterable iter X.env x = pure x := by intro _; rfl) :
 PS X (.For tg iter body [] pos) (tS X.K lk (cs.bnd fun ps => (Zw ps).bnd fun h => (lift (itW ik h.1)).bnd fun items => (forL (asgT lk' tgt) cb items).bnd fun f => (ZA h.2).bnd fun _ => M.ret f)) :=
 PS.imp (ZlU hp hc hi hg hb hs) fun E σ H h => by
 obtain ⟨δ, Hs, M, f, δ', g, s, ea, q⟩ := h
 obtain ⟨ps, δ1, e1, eb⟩ := Zb ea
 obtain ⟨hh, δ2, e2, ec⟩ := Zb eb
 obtain ⟨items, δ3, e3, ed⟩ := Zb ec
 obtain ⟨e3', rfl⟩ := ZM e3
 obtain ⟨f1, δ4, e4, ee⟩ := Zb ed
 obtain ⟨u, δ5, e5, e6⟩ := Zb ee
 have := Zf e6
 cases this
 have e12 : (cs.bnd Zw) δ = .ok (hh, δ3) := by
  show T.M.bnd cs Zw δ = _
  unfold T.M.bnd
  rw [e1]
  exact e2
 have locked := hw _ _ _ e12
 refine ⟨δ, Hs, M, hh, items, δ3, g, s, e12, e3', fun J Pp H1 Hs1 B M1 g1 st1 s1 held wk pp => ?_⟩
 have kl : ∀ {σ1 σ2 : St}, Keeps lk' σ1 σ2 -> Keeps lk σ1 σ2 := fun k i h => k i (hl i h)
 refine ⟨fun i m σ2 H2 => m = items.length - i /\ i <= items.length /\ Keeps lk' σ σ2 /\ ∃ (δ2 : List D) (Hs2 : Hp) (M2 : Bud), Good H2 Hs2 (fun b => B b + M2 b) /\ Stp H Hs M H2 Hs2 (fun b => B b + M2 b) /\ RepS X.K H2 Hs2 σ2 δ2 M2 /\ Held X.K H2 Hs2 σ2 hh.2 B /\ Pp H2 Hs2 /\ forL (asgT lk' tgt) cb (items.drop i) δ2 = .ok (f, δ4),
  ⟨items.length, by simp, Nat.zero_le _, Keeps.refl _ _, δ3, Hs1, M1, g1, st1, s1, held, pp, by rw [List.drop_zero]; exact e4⟩, ?_⟩
 rintro i m σ2 H2 ⟨rfl, hle, k2, δ2, Hs2, M2, g2, st2, s2, held2, pp2, e7⟩
 have fin_nx : ∀ {σ3 : St} {H3 Hs3 : Hp} {M3 : Bud}, f = .nx -> Keeps lk' σ σ3 -> Good H3 Hs3 (fun b => B b + M3 b) -> Stp H Hs M H3 Hs3 (fun b => B b + M3 b) -> RepS X.K H3 Hs3 σ3 δ4 M3 -> Held X.K H3 Hs3 σ3 hh.2 B -> E.nx σ3 H3 := fun {σ3 H3 Hs3 M3} ef k3 g3 st3 s3 held3 => by
  subst ef
  exact q σ3 H3 Hs3 _ (kl k3) g3 st3 (ZaC e5 held3 s3)
 by_cases hlt : i < items.length
 . right
   have hd : items[i]? = some (items[i]'(by omega)) := List.getElem?_eq_getElem (by omega)
   have hdrop : items.drop i = items[i]'(by omega) :: items.drop (i + 1) := List.drop_eq_getElem_cons (by omega)
   rw [hdrop] at e7
   obtain ⟨u1, δ5', e8, e9⟩ := Zb e7
   obtain ⟨fl, δ6, e10, e11⟩ := Zb e9
   refine ⟨wk.go g2.sub pp2 hlt, fun σ3 H3 => Keeps lk' σ σ3 /\ ∃ (δ2 : List D) (Hs2 : Hp) (M2 : Bud), Good H3 Hs2 (fun b => B b + M2 b) /\ Stp H Hs M H3 Hs2 (fun b => B b + M2 b) /\ RepS X.K H3 Hs2 σ3 δ2 M2 /\ Held X.K H3 Hs2 σ3 hh.2 B /\ Pp H3 Hs2 /\ forL (asgT lk' tgt) cb (items.drop (i + 1)) δ2 = .ok (f, δ4),
    fun σ3 H3 ⟨k3, z⟩ => ⟨items.length - (i + 1), by omega, rfl, hlt, k3, z⟩, fun x H' y => ?_⟩
   obtain ⟨Hs3, gr, rv⟩ := wk.yld g2.sub pp2 hd y
   obtain ⟨sm, fr, _⟩ := gr.same g2.sub
   have pp2 := wk.stay pp2 sm fun b _ n => fr b n
   have s2 := RepS.frame sm (fun b _ n => fr b n) s2
   have held2 := held2.frame sm fun b _ n => fr b n
   have st2 := gr.stp g2 st2
   have g2 := gr.good g2
   clear gr sm fr y
   generalize Hs3 = Hs2 at *
   refine Ze3 (Hs := Hs2) g2.sub e8 rv s2 fun σ3 k3 s3 => ?_
   refine ⟨δ5', Hs2, M2, fl, δ6, g2.re, s3, e10, ?_⟩
   have held3 : Held X.K H' Hs2 σ3 hh.2 B := held2.keeps k3 locked
   have nxt : ∀ {σ4 : St} {H4 Hs4 : Hp} {M4 : Bud}, Keeps lk' σ3 σ4 -> Good H4 Hs4 M4 -> Stp H' Hs2 M2 H4 Hs4 M4 ->
    Keeps lk' σ σ4 /\ Good H4 Hs4 (fun b => B b + M4 b) /\ Stp H Hs M H4 Hs4 (fun b => B b + M4 b) /\ Held X.K H4 Hs4 σ4 hh.2 B /\ Pp H4 Hs4 := fun {σ4 H4 Hs4 M4} k4 g4 st4 => by
    obtain ⟨G, S, kk⟩ := Zr g g2 st2 g4 st4
    exact ⟨k2.trans (k3.trans k4), G, S, (held3.keeps k4 locked).frame st4.grow kk, wk.stay pp2 st4.grow kk⟩
   cases fl with
   | nx =>
    refine fun σ4 H4 Hs4 M4 k4 g4 st4 s4 => ?_
    obtain ⟨a1, a2, a3, a4, a6⟩ := nxt k4 g4 st4
    exact ⟨a1, δ6, Hs4, M4, a2, a3, s4, a4, a6, e11⟩
   | ct =>
    refine fun σ4 H4 Hs4 M4 k4 g4 st4 s4 => ?_
    obtain ⟨a1, a2, a3, a4, a6⟩ := nxt k4 g4 st4
    exact ⟨a1, δ6, Hs4, M4, a2, a3, s4, a4, a6, e11⟩
   | bk =>
    refine fun σ4 H4 Hs4 M4 k4 g4 st4 s4 => ?_
    obtain ⟨a1, a2, a3, a4, a6⟩ := nxt k4 g4 st4
    have := Zf e11
    cases this
    exact fin_nx rfl a1 a2 a3 s4 a4
   | rt d =>
    refine fun v σ4 H4 Hs4 m4 M4 k4 g4 st4 rd s4 => ?_
    obtain ⟨a1, a2, a3, a4, a6⟩ := nxt k4 g4 st4
    have := Zf e11
    cases this
    exact q v σ4 H4 Hs4 m4 (fun b => B b + M4 b) (kl a1) (a2.re fun b => by (try dsimp only); omega) (a3.drop (fun b => by (try dsimp only); omega) a2.le) rd (ZaC e5 a4 s4)
 . left
   have e0 : items.drop i = [] := List.drop_of_length_le (by omega)
   rw [e0] at e7
   have := Zf e7
   cases this
   exact ⟨wk.stop g2.sub pp2 (by omega), fin_nx rfl k2 g2 st2 s2 held2⟩
end
theorem RepS.toL : ∀ {vs : List V} {ds : List D} {m : Bud}, RepS K H Hs (vs.map some) ds m -> RepL K H Hs vs ds m
 | [], _, _, h => by cases h; exact .nil _
 | v :: vs, _, _, h => by
  cases h with
  | cons x y l =>
   refine .cons ?_ (RepS.toL y) l
   rcases x with rfl | ⟨w, e, r⟩
   . exact .hole _ _
   . cases e
     exact r
end T
namespace T
open PySem PySem.Spec L2
section
theorem Zef (hn : vs.length = n) (k : Keeps (fun i => decide (i < n)) (L2.start N vs) σ') : σ'.take n = vs.map some := by
 apply List.ext_getElem?
 intro i
 by_cases hi : i < n
 . rw [List.getElem?_take_of_lt hi, k i (by simpa using hi)]
   unfold L2.start
   rw [List.getElem?_append_left (by rw [List.length_map]; omega)]
 . rw [List.getElem?_eq_none (by rw [List.length_take]; omega), List.getElem?_eq_none (by rw [List.length_map]; omega)]
theorem ZeV (r : RepL K H Hs vs ds m) : RepS K H Hs (L2.start N vs) (ds ++ List.replicate (N.length - ds.length) .hole) m := by
 unfold L2.start
 rw [r.len]
 have z := Sep.append (RepL.slots r) (holes (K := K) (H := H) (Hs := Hs) (fun _ => none) (N.length - ds.length) (fun _ => 0) (List.replicate (N.length - ds.length) none) (by simp))
 exact z.mono fun b => by simp
theorem ZmH (F : FunV dV K x qual st f fd) (Sc : FnScope N ps (Zq st))
 (hb : ∀ (cdv : Value) (A : Around) (outer : List Env) (s : Shared) (H : Hp) (E : XK), Room k (A.deeper (PyProof.Rows.envOfC qual (Zq st) s.heap.objs.size f cdv)) ->
  PSs (cxOf CX0 P w K mg base N qual (Zq st) f cdv A outer s H E).nox (ZS st) (tS K (fun i => decide (i < ps.length)) (exs { C with lock := fun i => decide (i < ps.length) } body))) :
 FnOk P w K mg base CX0 (k + 1) f fd ps (spF K (Zu C ps.length N.length body)) := by
 refine F.ok Sc (fun vs H Q E h => ?_) (fun cdv A outer s H vs Q E hr h => ⟨_, hb cdv A outer s H E hr, ?_⟩)
 . obtain ⟨ds, Hs, m, d, ds', g, r, e, q⟩ := h
   unfold Zu at e
   split at e
   . rename_i hl
     rw [r.len]
     exact hl
   . cases e
 . obtain ⟨ds, Hs, m, d, ds', g, r, e, q⟩ := h
   unfold Zu at e
   split at e
   . rename_i hl
     have hv : vs.length = ps.length := by rw [r.len]; exact hl
     have hr0 := ZeV (N := N) r
     rw [hl] at hr0
     cases he : exs { C with lock := fun i => decide (i < ps.length) } body (ds ++ List.replicate (N.length - ps.length) .hole) with
     | ok z =>
      obtain ⟨fl, δ'⟩ := z
      rw [he] at e
      refine ⟨_, Hs, m, fl, δ', g, hr0, he, ?_⟩
      have back : ∀ {σ' : St} {H' Hs' : Hp} {M' : Bud}, Keeps (fun i => decide (i < ps.length)) (L2.start N vs) σ' -> RepS K H' Hs' σ' δ' M' -> RepL K H' Hs' vs (δ'.take ps.length) M' := fun k' s' => by
       have z := s'.take ps.length
       rw [Zef hv k'] at z
       exact RepS.toL z
      cases fl with
      | nx =>
       cases e
       exact fun σ' H' Hs' M' k' g' st' s' => q .non H' Hs' (fun _ => 0) M' (Zat g') (st'.drop (fun b => by simp) g'.le) (.sc _ _) (back k' s')
      | rt dd =>
       cases e
       exact fun v σ' H' Hs' m1 M' k' g' st' rv s' => q v H' Hs' m1 M' g' st' rv (back k' s')
      | bk => cases e
      | ct => cases e
     | exc x y => rw [he] at e; cases e
     | stuck => rw [he] at e; cases e
   . cases e
theorem Zd3 (F : FunV dV K x qual st f fd) (Sc : FnScope N ps (Zq st)) (hn : ps.length = n) (hN : N.length = nN)
 (hb : ∀ (cdv : Value) (A : Around) (outer : List Env) (s : Shared) (H : Hp) (E : XK), Room k (A.deeper (PyProof.Rows.envOfC qual (Zq st) s.heap.objs.size f cdv)) ->
  PSs (cxOf CX0 P w K mg base N qual (Zq st) f cdv A outer s H E).nox (ZS st) (tS K (fun i => decide (i < n)) (exs { C with lock := fun i => decide (i < n) } body))) :
 FnOk P w K mg base CX0 (k + 1) f fd ps (spF K (Zu C n nN body)) := by
 subst hn hN
 exact ZmH F Sc hb
end
end T
namespace T
open PySem PySem.Spec L2
theorem Zeg : ∀ {js : List Nat} {δ δ' : List D} {caps : List D} {M : Bud}, Zbs js δ = .ok (caps, δ') -> RepS K H Hs σ δ M -> ∃ mc M', RepS K H Hs (Zba js σ) caps mc /\ RepS K H Hs σ δ' M' /\ (∀ b, mc b + M' b <= M b) /\ ∀ j ∈ js, j < σ.length
 | [], δ, δ', caps, M, e, s => by
  have := Zf e
  cases this
  exact ⟨fun _ => 0, M, .nil _, s, fun b => by simp, fun j hj => by simp at hj⟩
 | j :: js, δ, δ', caps, M, e, s => by
  unfold Zbs at e
  split at e
  . rename_i d hd
    obtain ⟨ds, δ1, e1, e2⟩ := Zb e
    have := Zf e2
    cases this
    obtain ⟨o, m1, m2, q1, q2, l, f⟩ := s.focus hd
    have z := f (RepO K H Hs) o .hole (fun _ => 0) (fun a d m' _ q => q) (.inl rfl)
    rw [ZZ q1] at z
    obtain ⟨mc, M', h1, h2, h3, h4⟩ := Zeg e1 z
    refine ⟨fun b => m1 b + mc b, M', ?_, h2, fun b => by have := l b; have := h3 b; dsimp only at *; omega, fun i hi => ?_⟩
    . rw [ZdG]
      have ho : (σ[j]?).join = o := by rw [q1]; rfl
      rw [ho]
      exact .cons q2 h1 fun b => Nat.le_refl _
    . rcases List.mem_cons.mp hi with rfl | hi
      . exact (List.getElem?_eq_some_iff.mp q1).1
      . exact h4 i hi
  . cases e
theorem Zgs (caps : List D) : ZaK [] caps = M.ret () := by cases caps <;> rfl
theorem ZfD (j : Nat) (js : List Nat) (d : D) (ds δ : List D) : ZaK (j :: js) (d :: ds) δ = ZaK js ds (δ.set j d) := rfl
theorem Zhn (js : List Nat) : ∀ (caps δ δ' : List D) (mc M : Bud) (u : Unit), (∀ j ∈ js, j < σ.length) -> ZaK js caps δ = .ok (u, δ') -> RepS K H Hs (Zba js σ) caps mc -> RepS K H Hs σ δ M -> RepS K H Hs σ δ' (fun b => mc b + M b) := by
 induction js with
 | nil =>
  intro caps δ δ' mc M u hj e c s
  rw [Zgs] at e
  have := Zf e
  cases this
  exact s.mono fun b => by omega
 | cons j js ih =>
  intro caps δ δ' mc M u hj e c s
  rw [ZdG] at c
  cases c with
  | @cons _ d _ ds m1 m2 _ x y l =>
   rw [ZfD] at e
   have hlt := hj j List.mem_cons_self
   have hlt2 : j < δ.length := by rw [<- s.length]; exact hlt
   obtain ⟨o, n1, n2, q1, q2, l2, f⟩ := s.focus (List.getElem?_eq_getElem hlt2)
   have ho : (σ[j]?).join = o := by rw [q1]; rfl
   rw [ho] at x
   have z := f (RepO K H Hs) o d m1 (fun a d m' _ q => q) x
   rw [ZZ q1] at z
   have fin := ih ds (δ.set j d) δ' m2 _ u (fun i hi => hj i (List.mem_cons_of_mem _ hi)) e y z
   exact fin.mono fun b => by have := l b; have := l2 b; (try dsimp only); omega
theorem ZiZ {H Hs H0 Hs0 : Hp} {M0 N : Bud} {A : Addr} {o : HO} (hA0 : H0 A = none) (hA : Hs A = none) (g : Good H Hs (fun b => one A b + N b)) (st : Stp H0 Hs0 M0 H Hs (fun b => one A b + N b)) : Good (upd H A o) Hs (fun b => one A b + N b) /\ Stp H0 Hs0 M0 (upd H A o) Hs (fun b => one A b + N b) /\ ∀ b, N b ≥ 1 -> upd H A o b = H b := by
 have hn : N A = 0 := by have : one A A + N A <= 1 := g.le A; simp [one] at this; omega
 have ne : ∀ b, b ≠ A -> upd H A o b = H b := fun b hb => Zj hb
 refine ⟨⟨fun b u e => ?_, g.le, g.ne, fun b h => ?_⟩, ⟨fun b u e z => ?_, st.own, st.grow, st.shr, fun b h => ?_⟩, fun b hb => ne b fun q => by subst q; omega⟩
 . have hb : b ≠ A := fun q => by subst q; rw [hA] at e; cases e
   rw [ne b hb]
   exact g.sub b u e
 . by_cases hb : b = A
   . subst hb; rw [Zi]; simp
   . rw [ne b hb]; exact g.has b h
 . have hb : b ≠ A := fun q => by subst q; rw [hA0] at e; cases e
   rw [ne b hb]
   exact st.keep b u e z
 . by_cases hb : b = A
   . subst hb; rw [Zi]; simp
   . rw [ne b hb]; exact st.stay b h
theorem ZgC
 (h : tM K (cs.bnd fun ps => (Zw ps).bnd fun h => (lift (itW ik h.1)).bnd fun items => (Za1 k js (Zab (asgT (fun i => decide (k <= i)) tgt) cc celt items [])).bnd fun d => (ZA h.2).bnd fun _ => M.ret d) σ H Q) :
 Zfh k js (tI K ik cs) (gT K tgt) (tT K cc) (tM K celt) σ H Q := by
 obtain ⟨δ, Hs, M, d, δ', g, s, ea, q⟩ := h
 obtain ⟨ps, δ1, e1, eb⟩ := Zb ea
 obtain ⟨hh, δ2, e2, ec⟩ := Zb eb
 obtain ⟨items, δ3, e3, ed⟩ := Zb ec
 obtain ⟨e3', rfl⟩ := ZM e3
 obtain ⟨dd, δ4, e4, ee⟩ := Zb ed
 obtain ⟨u, δ5, e5, e6⟩ := Zb ee
 have := Zf e6
 cases this
 have e12 : (cs.bnd Zw) δ = .ok (hh, δ3) := by
  show T.M.bnd cs Zw δ = _
  unfold T.M.bnd
  rw [e1]
  exact e2
 refine ⟨δ, Hs, M, hh, items, δ3, g, s, e12, e3', fun J Pp H1 Hs1 B M1 g1 st1 s1 held wk pp A hA => ?_⟩
 unfold Za1 at e4
 obtain ⟨caps, δ6, e7, e8⟩ := Zb e4
 obtain ⟨mc, M2, c1, c2, c3, c4⟩ := Zeg e7 s1
 have hA0 : H A = none := by
  cases q : H A with
  | none => rfl
  | some o => exact absurd hA (st1.stay A (by rw [q]; simp))
 cases hL : Zab (asgT (fun i => decide (k <= i)) tgt) cc celt items [] (List.replicate k .hole ++ caps) with
 | exc x y => rw [hL] at e8; cases e8
 | stuck => rw [hL] at e8; cases e8
 | ok r =>
 obtain ⟨accF, δF⟩ := r
 rw [hL] at e8
 obtain ⟨u2, δ7, e9, e10⟩ := Zb e8
 obtain ⟨e11, rfl⟩ := ZM e10
 have hs1A : Hs1 A = none := by
  cases q : Hs1 A with
  | none => rfl
  | some o => rw [g1.sub A o q] at hA; cases hA
 have zA : B A = 0 /\ M1 A = 0 := by
  have l : B A + M1 A <= 1 := g1.le A
  have : B A + M1 A ≠ 1 := fun e => g1.has A e hA
  omega
 have z2 : mc A = 0 /\ M2 A = 0 := by have := c3 A; omega
 have fr : ∀ b, b ≠ A -> upd H1 A (.lst []) b = H1 b := fun b hb => Zj hb
 have g2 : Good (upd H1 A (.lst [])) Hs1 (fun b => (one A b + (B b + M2 b)) + mc b) := by
  refine ⟨fun b o e => ?_, fun b => ?_, fun b hb => ?_, fun b hb => ?_⟩
  . have hb : b ≠ A := fun q => by subst q; rw [hs1A] at e; cases e
    rw [fr b hb]; exact g1.sub b o e
  . have l : B b + M1 b <= 1 := g1.le b
    have := c3 b
    unfold one
    (try dsimp only)
    split
    . rename_i e; subst e; omega
    . omega
  . by_cases e : b = A
    . subst e; exact hs1A
    . have hb : (one A b + (B b + M2 b)) + mc b = 1 := hb
      simp only [one, if_neg e] at hb
      have l : B b + M1 b <= 1 := g1.le b
      have := c3 b
      exact g1.ne b (by show B b + M1 b = 1; omega)
  . by_cases e : b = A
    . subst e; rw [Zi]; simp
    . rw [fr b e]
      have hb : (one A b + (B b + M2 b)) + mc b = 1 := hb
      simp only [one, if_neg e] at hb
      have l : B b + M1 b <= 1 := g1.le b
      have := c3 b
      exact g1.has b (by show B b + M1 b = 1; omega)
 have st2 : Stp H Hs M (upd H1 A (.lst [])) Hs1 (fun b => (one A b + (B b + M2 b)) + mc b) := by
  refine ⟨fun b o e z => ?_, fun b hb => ?_, st1.grow, st1.shr, fun b hb => ?_⟩
  . have hb : b ≠ A := fun q => by subst q; rw [hA0] at e; cases e
    rw [fr b hb]; exact st1.keep b o e z
  . by_cases e : b = A
    . subst e; exact .inr hA0
    . have hb : (one A b + (B b + M2 b)) + mc b = 1 := hb
      simp only [one, if_neg e] at hb
      have l : B b + M1 b <= 1 := g1.le b
      have := c3 b
      exact st1.own b (by show B b + M1 b = 1; omega)
  . by_cases e : b = A
    . subst e; rw [Zi]; simp
    . rw [fr b e]; exact st1.stay b hb
 have keepA : ∀ (N : Bud), N A = 0 -> ∀ b, N b ≥ 1 -> H1 b ≠ none -> upd H1 A (.lst []) b = H1 b := fun N hN b hb _ => fr b fun q => by subst q; omega
 refine ⟨fun i m σ2 ys H2 => m = items.length - i /\ i <= items.length /\ Keeps (fun i => decide (k <= i)) (ZaQ k js σ) σ2 /\ ∃ (δ2 : List D) (Hs2 : Hp) (N ma : Bud) (acc : List D), Good H2 Hs2 (fun b => (one A b + (B b + M2 b + ma b)) + N b) /\ Stp H Hs M H2 Hs2 (fun b => (one A b + (B b + M2 b + ma b)) + N b) /\ RepS K H2 Hs2 σ2 δ2 N /\
  RepL K H2 Hs2 ys acc ma /\ RepS K H2 Hs2 σ δ6 M2 /\ Held K H2 Hs2 σ hh.2 B /\ Pp H2 Hs2 /\ Zab (asgT (fun i => decide (k <= i)) tgt) cc celt (items.drop i) acc δ2 = .ok (accF, δF),
  ⟨items.length, by simp, Nat.zero_le _, Keeps.refl _ _, List.replicate k .hole ++ caps, Hs1, mc, fun _ => 0, [], g2.re fun b => by (try dsimp only); omega, st2.drop (fun b => by (try dsimp only); omega) g2.le, ?_, .nil _, c2.frame (Same.refl _) (keepA M2 z2.2), held.frame (Same.refl _) (keepA B zA.1), wk.stay pp (Same.refl _) (keepA B zA.1), by rw [List.drop_zero]; exact hL⟩, ?_⟩
 . have z := Sep.append (holes (K := K) (H := H1) (Hs := Hs1) (fun _ => none) k (fun _ => 0) (List.replicate k none) (by simp)) c1
   exact RepS.frame (Same.refl _) (keepA mc z2.1) (z.mono fun b => by simp)
 rintro i m σ2 ys H2 ⟨rfl, hle, k2, δ2, Hs2, N, ma, acc, g3, st3, s3, ra, so, held2, pp2, e13⟩ hD
 have hsA : Hs2 A = none := g3.ne A (by have := g3.le A; (try dsimp only at this ⊢); simp only [one, if_pos] at this ⊢; omega)
 by_cases hlt : i < items.length
 . right
   have hd : items[i]? = some (items[i]'(by omega)) := List.getElem?_eq_getElem (by omega)
   have hdrop : items.drop i = items[i]'(by omega) :: items.drop (i + 1) := List.drop_eq_getElem_cons (by omega)
   rw [hdrop] at e13
   obtain ⟨u3, δ8, e14, e15⟩ := Zb e13
   obtain ⟨t, δ9, e16, e17⟩ := Zb e15
   refine ⟨wk.go g3.sub pp2 hlt, fun x H' y => ?_⟩
   obtain ⟨Hs3, gr, rv⟩ := wk.yld g3.sub pp2 hd y
   obtain ⟨sm, fr, _⟩ := gr.same g3.sub
   have pp2 := wk.stay pp2 sm fun b _ n => fr b n
   have s3 := RepS.frame sm (fun b _ n => fr b n) s3
   have so := RepS.frame sm (fun b _ n => fr b n) so
   have ra := ra.frame sm fun b _ n => fr b n
   have held2 := held2.frame sm fun b _ n => fr b n
   have hD : H' A = some (.lst ys) := (fr A (by rw [hD]; simp)).trans hD
   have st3 := gr.stp g3 st3
   have g3 := gr.good g3
   clear gr sm fr y hsA
   generalize Hs3 = Hs2 at *
   generalize H' = H2 at *
   refine Ze3 (Hs := Hs2) g3.sub e14 rv s3 fun σ3 k3 s4 => ?_
   refine ⟨δ8, Hs2, N, t, δ9, g3.re fun b => by (try dsimp only); omega, s4, e16, fun H4 Hs4 M4 g4 st4 s5 => ?_⟩
   obtain ⟨G, S, kk⟩ := Zr (m1 := fun b => one A b + (B b + M2 b + ma b)) g g3 st3 g4 st4
   have kA : H4 A = some (.lst ys) := by rw [<- hD]; exact kk A (by simp [one]) (by rw [hD]; simp)
   have ra4 := ra.frame st4.grow fun b hb => kk b (by (try dsimp only); omega)
   have so4 := RepS.frame st4.grow (fun b hb => kk b (by (try dsimp only); omega)) so
   have held4 := held2.frame st4.grow fun b hb => kk b (by (try dsimp only); omega)
   have pp4 := wk.stay pp2 st4.grow fun b hb => kk b (by (try dsimp only); omega)
   have lmeas : items.length - (i + 1) < items.length - i := by omega
   cases t with
   | false =>
    dsimp only
    rw [if_neg Bool.false_ne_true]
    exact ⟨kA, _, lmeas, rfl, hlt, k2.trans k3, δ9, Hs4, M4, ma, acc, G, S, s5, ra4, so4, held4, pp4, e17⟩
   | true =>
    dsimp only
    rw [if_pos rfl]
    rw [if_pos rfl] at e17
    obtain ⟨xd, δ10, e18, e19⟩ := Zb e17
    refine ⟨δ9, Hs4, M4, xd, δ10, g4, s5, e18, fun yv H5 Hs5 m5 M5 g5 st5 r5 s6 => ?_⟩
    obtain ⟨G5, S5, kk5⟩ := Zr (m1 := fun b => one A b + (B b + M2 b + ma b)) g G S g5 st5
    have kA5 : H5 A = some (.lst ys) := by rw [<- kA]; exact kk5 A (by simp [one]) (by rw [kA]; simp)
    have hsz : ys.length < sizeLine := by
     have e20 : accF.length <= sizeLine := by
      unfold newL at e11
      split at e11
      . rename_i hz; exact hz
      . cases e11
     have grow : ∀ (its acc : List D) (δ : List D) (r : List D × List D), Zab (asgT (fun i => decide (k <= i)) tgt) cc celt its acc δ = .ok r -> acc.length <= r.1.length := by
      intro its
      induction its with
      | nil => intro acc δ r e; have := Zf e; subst this; exact Nat.le_refl _
      | cons a its ih =>
       intro acc δ r e
       obtain ⟨_, _, _, f1⟩ := Zb e
       obtain ⟨tt, _, _, f2⟩ := Zb f1
       cases tt with
       | false => exact ih _ _ _ f2
       | true =>
        rw [if_pos rfl] at f2
        obtain ⟨_, _, _, f3⟩ := Zb f2
        have := ih _ _ _ f3
        rw [List.length_append, List.length_singleton] at this
        omega
     have := grow _ _ _ _ e19
     dsimp only at this
     rw [List.length_append, List.length_singleton] at this
     have := ra.len
     omega
    have hsA5 : Hs5 A = none := G5.ne A (by have := G5.le A; (try dsimp only at this ⊢); simp only [one, if_pos] at this ⊢; omega)
    have G5' : Good H5 Hs5 (fun b => one A b + (B b + M2 b + ma b + (m5 b + M5 b))) := G5.re fun b => by (try dsimp only); omega
    obtain ⟨G6, S6, k6⟩ := ZiZ (o := .lst (ys ++ [yv])) hA0 hsA5 G5' (S5.drop (fun b => by (try dsimp only); omega) G5.le)
    have fr6 : ∀ (R : Bud), (∀ b, R b <= B b + M2 b + ma b + (m5 b + M5 b)) -> ∀ b, R b ≥ 1 -> H5 b ≠ none -> upd H5 A (.lst (ys ++ [yv])) b = H5 b := fun R hR b hb _ => k6 b (by have := hR b; omega)
    refine ⟨kA5, hsz, _, lmeas, rfl, hlt, k2.trans k3, δ10, Hs5, M5, fun b => ma b + m5 b, acc ++ [xd], G6.re fun b => by (try dsimp only); omega, S6.drop (fun b => by (try dsimp only); omega) G6.le, RepS.frame (Same.refl _) (fr6 M5 fun b => by omega) s6, ?_, ?_, ?_, ?_, e19⟩
    . exact RepL.frame (Same.refl _) (fr6 _ fun b => by (try dsimp only); omega) ((ra4.frame st5.grow fun b hb => kk5 b (by (try dsimp only); omega)).app (.cons r5 (.nil (fun _ => 0)) fun b => by simp))
    . exact RepS.frame (Same.refl _) (fr6 M2 fun b => by omega) (RepS.frame st5.grow (fun b hb => kk5 b (by (try dsimp only); omega)) so4)
    . exact (held4.frame st5.grow fun b hb => kk5 b (by (try dsimp only); omega)).frame (Same.refl _) (fr6 B fun b => by omega)
    . exact wk.stay (wk.stay pp4 st5.grow fun b hb => kk5 b (by (try dsimp only); omega)) (Same.refl _) (fr6 B fun b => by omega)
 . left
   have e0 : items.drop i = [] := List.drop_of_length_le (by omega)
   rw [e0] at e13
   have := Zf e13
   cases this
   refine ⟨wk.stop g3.sub pp2 (by omega), ?_⟩
   have hdrop : σ2.drop k = Zba js σ := by
    have hl2 : σ2.length = δF.length := s3.length
    apply List.ext_getElem?
    intro j
    rw [List.getElem?_drop, k2 (k + j) (by simp)]
    unfold ZaQ
    rw [List.getElem?_append_right (by simp)]
    simp
   have sd := s3.drop k
   rw [hdrop] at sd
   have so' := Zhn js _ _ _ _ _ _ c4 e9 sd so
   unfold newL at e11
   split at e11
   . cases e11
     have rD : Rep K H2 Hs2 (.ref A) (.node .lst true accF) (fun b => one A b + ma b) := .own hD ra fun b => Nat.le_refl _
     exact q _ H2 Hs2 (fun b => one A b + ma b) (fun b => B b + (N b + M2 b)) (g3.re fun b => by (try dsimp only); omega) (st3.drop (fun b => by (try dsimp only); omega) g3.le) rD (ZaC e5 held2 so')
   . cases e11
section
theorem PIf.imp (h : PIf X ifs t) (w : ∀ σ H Q, t' σ H Q -> t σ H Q) : PIf X ifs t' := fun pins s σ H Q I q => h pins s σ H Q I (w σ H Q q)
theorem Zda : PIf X [] (tT X.K (M.ret true)) := PIf.imp Zk8 fun σ H Q h => Zeb h
theorem Zd4 (hc : X.calm = true) (S : CompScope X k js N' scope) (hi : PI X tg iter (tI X.K ik cs))
 (hin : ∀ (cl : List (Str × Addr)) (C : Addr) (s₀ : Shared) (H₀ : Hp) (ex : List Addr), PG (cxC X N' scope cl C s₀ H₀ ex) tg (gT X.K tgt) /\ PIf (cxC X N' scope cl C s₀ H₀ ex) ifs (tT X.K cc) /\ PE (cxC X N' scope cl C s₀ H₀ ex) elt (tM X.K celt))
 (hs : ∀ x, foldedSetIterable iter X.env x = pure x := by intro _; rfl) :
 PE X (.ListComp elt [⟨tg, iter, ifs, 0⟩] scope pos) (tM X.K (cs.bnd fun ps => (Zw ps).bnd fun h => (lift (itW ik h.1)).bnd fun items => (Za1 k js (Zab (asgT (fun i => decide (k <= i)) tgt) cc celt items [])).bnd fun d => (ZA h.2).bnd fun _ => M.ret d)) :=
 PE.imp (Zk9 hc S hi hin hs) fun σ H Q h => ZgC h
theorem ZkP (h : Zv sc N i x false = true) (nd : N.Nodup) (hw : ZcT sc scope x = true) (hc : X.calm = true) (S : CompScope X k js N' scope) (hi : PI X tg iter (tI X.K ik cs))
 (hin : ∀ (cl : List (Str × Addr)) (C : Addr) (s₀ : Shared) (H₀ : Hp) (ex : List Addr), PG (cxC X N' scope cl C s₀ H₀ ex) tg (gT X.K tgt) /\ PIf (cxC X N' scope cl C s₀ H₀ ex) ifs (tT X.K cc) /\ PE (cxC X N' scope cl C s₀ H₀ ex) elt (tM X.K celt))
 (hl : (pos'.line == pos.line) = true := by rfl) (e1 : X.env.scope = sc := by rfl) (e2 : X.N = N := by rfl) (hs : ∀ x, foldedSetIterable iter X.env x = pure x := by intro _; rfl) :
 PS X (.Assign [.Name x pos'] (.ListComp elt [⟨tg, iter, ifs, 0⟩] scope pos) spos) (tS X.K lk ((cs.bnd fun ps => (Zw ps).bnd fun h => (lift (itW ik h.1)).bnd fun items => (Za1 k js (Zab (asgT (fun i => decide (k <= i)) tgt) cc celt items [])).bnd fun d => (ZA h.2).bnd fun _ => M.ret d).bnd fun d => (asgN lk i d).bnd fun _ => M.ret .nx)) :=
 PS.imp (ZiW h nd hw hc S hi hin hl e1 e2 hs) fun E σ H hh => by
 obtain ⟨δ, Hs, M, f, δ', g, s, e, q⟩ := hh
 obtain ⟨d, δ1, e1, e2⟩ := Zb e
 obtain ⟨u, δ2, e3, e4⟩ := Zb e2
 have := Zf e4
 cases this
 obtain ⟨h1, h2, rfl⟩ := Zcs e3
 exact ZgC ⟨δ, Hs, M, d, δ1, g, s, e1, fun v H' Hs' m M' g' st' r s' => q _ H' Hs' _ (ZaB h2) g' st' (ZaU s' h1 r)⟩
theorem ZkQ (h : Zv sc N i x b = true) (nd : N.Nodup) (he : PE X e (tM X.K c)) (hs : swapsWith e (some (.Name x pos')) pos.line X.env = pure false := by rfl) (e1 : X.env.scope = sc := by rfl) (e2 : X.N = N := by rfl)
 (hf : X.fn x = true \/ b = false := by first | exact .inl rfl | exact .inr rfl) : PS X (.Assign [.Name x pos'] e pos) (tS X.K lk (c.bnd fun d => (asgN lk i d).bnd fun _ => M.ret .nx)) := by
 obtain ⟨h1, h2, h3, h4⟩ := Zv.at h
 have l := Zv.loc h
 subst e1 e2
 refine ZmF nd h1 l he hs ?_
 rcases hf with q | q
 . exact .inl q
 . subst q
   exact .inr h2
theorem Zpn (h : Zv sc N i x b = true) (nd : N.Nodup) (hr : PGs X es (gNs is)) (e1 : X.env.scope = sc := by rfl) (e2 : X.N = N := by rfl) (hf : X.fn x = true \/ b = false := by first | exact .inl rfl | exact .inr rfl)
 (hs : (assignEach (.Name x pos :: es) X.env).map (·.2) = assign (.Name x pos) X.env :: (assignEach es X.env).map (·.2) := by rfl) : PGs X (.Name x pos :: es) (gNs (i :: is)) := by
 obtain ⟨h1, h2, h3, h4⟩ := Zv.at h
 have l := Zv.loc h
 subst e1 e2
 refine ok_g nd h1 l hr ?_ hs
 rcases hf with q | q
 . exact .inl q
 . subst q
   exact .inr h2
theorem Zpo (h : Zv sc N i x b = true) (nd : N.Nodup) (e1 : X.env.scope = sc := by rfl) (e2 : X.N = N := by rfl) (hf : X.fn x = true \/ b = false := by first | exact .inl rfl | exact .inr rfl) : PG X (.Name x pos) (gT X.K (.name i)) := ZiV h nd e1 e2 hf
end
end T
namespace T
open PySem PySem.Spec L2
def ZbO (ca : M Op) (lk : Nat -> Bool) : Prop := ∀ δ p δ', ca δ = .ok (p, δ') -> ∀ i, p = .late i -> lk i = true
theorem Ze4 (h : lk i = true) : ZbO (ZB i) lk := fun δ p δ' e j hj => by
 unfold ZB at e
 split at e <;> cases e <;> cases hj <;> exact h
theorem ZfE {c : M D} {lk : Nat -> Bool} : ZbO (c.bnd fun d => M.ret (.tmp d)) lk := fun δ p δ' e j hj => by
 obtain ⟨d, δ1, e1, e2⟩ := Zb e
 have := Zf e2
 cases this
 cases hj
theorem Zie (e : holdV p δ = .ok (w, δ')) : ∀ q ∈ w.2.toList, p = .late q.1 := fun q hq => by
 cases p with
 | tmp d => cases d <;> cases e <;> simp at hq
 | late i =>
  unfold holdV at e
  dsimp only at e
  split at e <;> cases e <;> simp at hq
  subst hq
  rfl
theorem hw_1 (h : ZbO ca lk) : HWs (ca.bnd fun p => (M.ret ([] : List Op)).bnd fun ps => M.ret (p :: ps)) lk := fun δ w δ' e q hq => by
 obtain ⟨p, δ1, w1, e1, e2, rfl⟩ := Zhm e
 exact h _ _ _ e1 _ (Zie e2 q hq)
theorem hw_2 (h1 : ZbO ca lk) (h2 : ZbO cb lk) : HWs (ca.bnd fun p => (cb.bnd fun p => (M.ret ([] : List Op)).bnd fun ps => M.ret (p :: ps)).bnd fun ps => M.ret (p :: ps)) lk := fun δ w δ' e q hq => by
 obtain ⟨ps, δ1, e1, e2⟩ := Zb e
 obtain ⟨p1, δ2, e3, e4⟩ := Zb e1
 obtain ⟨qs, δ3, e5, e6⟩ := Zb e4
 obtain ⟨p2, δ4, e7, e8⟩ := Zb e5
 obtain ⟨z, δ5, e9, e10⟩ := Zb e8
 have := Zf e9
 cases this
 have := Zf e10
 cases this
 have := Zf e6
 cases this
 have := ZdH e2 q hq
 rcases List.mem_cons.mp this with z | z
 . exact h1 _ _ _ e3 _ z.symm
 . exact h2 _ _ _ e7 _ (List.mem_singleton.mp z).symm
section
theorem Zpp (h : PE X e (tC v)) (hr : ∀ H Hs m, Rep X.K H Hs v d m) : PE X e (tM X.K (M.ret d)) := PE.imp h fun σ H Q z0 => by
 obtain ⟨δ, Hs, M, d', δ', g, r, e, q⟩ := z0
 have := Zf e
 cases this
 exact q v H Hs (fun _ => 0) M (Zat g) (stp0 H Hs M) (hr H Hs _) r
theorem Ze5 (h : View K H Hs x w m) : isNW true w = .sc (.bl (decide (x = .non))) /\ isNW false w = .sc (.bl (!decide (x = .non))) := by
 cases h with
 | sc v m => constructor <;> simp only [isNW] <;> cases decide (x = V.non) <;> rfl
 | nd n r => constructor <;> simp [isNW]
theorem ZmI (ha : PE X a (tP X.K ca)) {j pos'} : PE X (.Compare a [.Is] [.Constant .none j pos'] pos) (tM X.K ((ca.bnd view).bnd fun x => M.ret (isNW true x))) := PE.imp (ZlJ (Zh9 ha)) fun σ H Q h => by
 have h2 : tM X.K ((ca.bnd view).bnd fun x => lift (some (isNW true x))) σ H Q := h
 exact op1 (r := fun x H1 Q => Q (.bl (decide (x = .non))) H1) h2 fun x H Hs w m d g h1 h2 v e o => by
  cases e
  rw [(Ze5 v).1] at o
  exact o.sc
end
noncomputable def Ze6 : Expr -> Option V
 | .Constant (.int n) _ _ => some (.int n)
 | .Constant (.str z) _ _ => some (.str z)
 | .Constant (.bool b) _ _ => some (.bl b)
 | .Constant .none _ _ => some .non
 | _ => none
noncomputable def ZbY : List Expr -> Option (List V)
 | [] => some []
 | e :: es => (Ze6 e).bind fun v => (ZbY es).map (v :: ·)
theorem Zja (h : Ze6 e = some v) : PE X e (tC v) /\ ∀ es : List Expr, starEach (e :: es) X.env = (false, eval e X.env) :: starEach es X.env := by
 unfold Ze6 at h
 split at h
 . cases h; exact ⟨ZaO, fun es => rfl⟩
 . cases h; exact ⟨Zn, fun es => rfl⟩
 . cases h; exact ⟨Zdr, fun es => rfl⟩
 . cases h; exact ⟨Zco, fun es => rfl⟩
 . cases h
theorem ZeW : ∀ {es : List Expr} {vs : List V}, ZbY es = some vs -> PA X es (fun _ H Q => Q vs H)
 | [], vs, h => by
  simp only [ZbY, Option.some.injEq] at h
  subst h
  exact Zb5
 | e :: es, vs, h => by
  simp only [ZbY, Option.bind_eq_some_iff, Option.map_eq_some_iff] at h
  obtain ⟨v, h1, ws, h2, rfl⟩ := h
  obtain ⟨c1, c2⟩ := Zja (X := X) h1
  exact Zai c1 (ZeW h2) (c2 es)
theorem Zd5 : ∀ (vs : List V), RepL K H Hs vs (vs.map D.sc) (fun _ => 0)
 | [] => .nil _
 | v :: vs => .cons (m1 := fun _ => 0) (m2 := fun _ => 0) (.sc v _) (Zd5 vs) fun b => by simp
theorem Zho (h : ZbY es = some vs) : PE X (.List es pos) (tM X.K (lift (newL (vs.map D.sc)))) := PE.imp (ZhK (ZeW h)) fun σ H Q hq => by
 obtain ⟨δ, Hs, M, d, δ', g, s, e, q⟩ := hq
 obtain ⟨e1, rfl⟩ := ZM e
 unfold newL at e1
 split at e1
 . rename_i hl
   cases e1
   have o : Outs X.K H Hs (fun _ => 0) _ Q := Zbu (B := fun _ => 0) (M := M) (stp0 H Hs M) (Zat g) s q
   exact ⟨by simpa using hl, fun p hp => o.new (fun b => by simp) (fun b hb => by simp at hb) hp (vs := vs) Zi (Zd5 vs)⟩
 . cases e1
theorem Zae : bootBuiltins "len" = some (.builtin "len") := by decide +kernel
theorem ZmJ : bootBuiltins "all" = some (.builtin "all") := by decide +kernel
theorem ZmK : bootBuiltins "any" = some (.builtin "any") := by decide +kernel
theorem ZmL : bootBuiltins "min" = some (.builtin "min") := by decide +kernel
theorem Zam : bootBuiltins "str" = some (.type "str") := by decide +kernel
noncomputable def C0 : Ctx := { lock := fun _ => false, fok := fun _ _ => false, fuel := 0 }
end T
namespace T
open PySem PySem.Spec L2
section
variable {X : Cx} {o e a : Expr} {es : List Expr} {cpos apos pos p : Pos} {ca : M Op} {cs : M (List Op)} {i : Nat} {name m x f : Str} {A : Addr} {fi : FI} {j n : Nat} {ps : List Str}
theorem ZjP
 (h : tM K ((ca.bnd view).bnd fun w => (lift (strW w)).bnd fun z => cs.bnd fun ps => (views ps).bnd fun ws => lift (bmW bm z ws)) σ H Q)
 (hr : ∀ (z : Str) (vs : List V) (H1 : Hp), rNW K (bmW bm z) vs H1 Q -> r (.str z) vs H1 Q) : tBM K "str" r (tP K ca) (tPs K cs) σ H Q := by
 obtain ⟨δ, Hs, M, d, δ', g, s, e, q⟩ := h
 obtain ⟨w, δ2, e, e5⟩ := Zb e
 obtain ⟨p, δ1, e1, e3⟩ := Zb e
 obtain ⟨z, δ3, e6, e7⟩ := Zb e5
 obtain ⟨e8, rfl⟩ := ZM e6
 refine ⟨δ, Hs, M, p, δ1, g, s, e1, fun x H2 Hs2 m1 M2 g2 st2 r1 s2 => ?_⟩
 obtain ⟨Hs3, M3, g3, st3, v1, s3⟩ := Zaj (B := m1) g2 s2 r1 e3
 have z2 := Zr (m1 := fun _ => 0) g (g2.re fun b => by simp) (st2.drop (fun b => by simp) g2.le) g3 st3
 have S3 : Stp H Hs M H2 Hs3 (fun b => m1 b + M3 b) := z2.2.1.drop (fun b => by simp) z2.1.le
 have hx : x = .str z := by
  cases v1 with
  | sc u _ => cases x with
   | str y => cases e8; rfl
   | _ => cases e8
  | nd n r => cases e8
 subst hx
 refine ⟨rfl, ?_⟩
 have h2 : tM K (cs.bnd fun ps => (views ps).bnd fun ws => lift (bmW bm z ws)) σ H2 Q := ⟨_, Hs3, M3, d, δ', g3.re, s3, e7, fun v H4 Hs4 m4 M4 g4 st4 r4 s4 => by
  obtain ⟨G, S, k⟩ := Zr (m1 := m1) (M1 := M3) g g3 S3 g4 st4
  exact q v H4 Hs4 m4 M4 g4 (S.drop (fun b => by omega) G.le) r4 s4⟩
 obtain ⟨δa, Hsa, Ma, aa, δb, ga, sa, ea, qa⟩ := opN h2
 exact ⟨δa, Hsa, Ma, aa, δb, ga, sa, ea, fun vs H5 Hs5 m5 M5 g5 st5 r5 s5 => hr z vs H5 (qa vs H5 Hs5 m5 M5 g5 st5 r5 s5)⟩
theorem ZfF : ∀ {ds : List D} {vs : List V} {m : Bud} {ts : List Str}, RepL K H Hs vs ds m -> Zb7 ds = some ts -> vs = ts.map V.str
 | [], _, _, is, .nil _, h => by simp only [Zb7, Option.some.injEq] at h; subst h; rfl
 | d :: ds, _, _, is, .cons x y _, h => by
  unfold Zb7 at h
  split at h
  . rename_i hh; cases hh
  . rename_i i r hh
    injection hh with h1 h2
    subst h1 h2
    (simp only [Option.map_eq_some_iff] at h)
    obtain ⟨js, h, rfl⟩ := h
    cases x
    rw [ZfF y h]
    rfl
  . cases h
theorem ZfG (ho : PE X o (tP X.K ca)) (ha : PA X [e] (tPs X.K cs))
 (hbase : attributeBase o "split" X.env (eval o X.env) = eval o X.env := by rfl)
 (hfew : ((backTo cpos (starEach [e] X.env)).all (fun x => !x.1) && (backToKw cpos (keywordEach [] X.env)).all (fun x => x.1.isSome)
  && decide ([e].length + ([] : List Keyword).length + (if ([] : List Keyword).isEmpty then 0 else 1) < 30)) = true := by rfl)
 (hline : (apos.endLine == cpos.line) = true := by rfl) (hs : starEach [e] X.env = (false, eval e X.env) :: starEach [] X.env := by rfl) (hplain : (backTo cpos (starEach [] X.env)).any (·.1) = false := by rfl) :
 PE X (.Call (.Attribute o "split" apos) [e] [] cpos) (tM X.K ((ca.bnd view).bnd fun w => (lift (strW w)).bnd fun z => cs.bnd fun ps => (views ps).bnd fun ws => lift (bmW .split z ws))) :=
 PE.imp (ZgW PySem.F.plainAttrs_str PySem.F.slot_str_split PySem.F.type_str_split ZiQ ho ha hbase hfew hline hs hplain) fun σ H Q h => ZjP h fun z vs H1 hq => by
  obtain ⟨Hs, ws, m, d, hs, h1, h2, v, e, o⟩ := hq
  match ws, e with
  | [.sc (.str s)], e =>
   simp only [bmW] at e
   split at e
   . rename_i hc
     cases e
     obtain ⟨y, m1, rfl, v, l⟩ := v.one
     cases v
     have hs1 : ∃ c, s = ⟨#[c]⟩ := by
      cases s with
      | mk cps =>
       cases cps with
       | mk l =>
        have hl : l.length = 1 := by simpa using hc.1
        match l, hl with
        | [c], _ => exact ⟨c, rfl⟩
     obtain ⟨c, rfl⟩ := hs1
     refine ⟨z, c, rfl, rfl, hc.2, fun p hp => ?_⟩
     have rr : RepL X.K H1 Hs ((Txt.split z ⟨#[c]⟩).map V.str) ((Txt.split z ⟨#[c]⟩).map fun x => D.sc (.str x)) m := by
      have := Zd5 (K := X.K) (H := H1) (Hs := Hs) ((Txt.split z ⟨#[c]⟩).map V.str)
      rw [List.map_map] at this
      exact this.mono fun b => Nat.zero_le _
     exact o.new h1 h2 hp (vs := (Txt.split z ⟨#[c]⟩).map V.str) Zi rr
   . cases e
theorem ZaM (ho : PE X o (tP X.K ca)) (ha : PA X [e] (tPs X.K cs))
 (hbase : attributeBase o "join" X.env (eval o X.env) = eval o X.env := by rfl)
 (hfew : ((backTo cpos (starEach [e] X.env)).all (fun x => !x.1) && (backToKw cpos (keywordEach [] X.env)).all (fun x => x.1.isSome)
  && decide ([e].length + ([] : List Keyword).length + (if ([] : List Keyword).isEmpty then 0 else 1) < 30)) = true := by rfl)
 (hline : (apos.endLine == cpos.line) = true := by rfl) (hs : starEach [e] X.env = (false, eval e X.env) :: starEach [] X.env := by rfl) (hplain : (backTo cpos (starEach [] X.env)).any (·.1) = false := by rfl) :
 PE X (.Call (.Attribute o "join" apos) [e] [] cpos) (tM X.K ((ca.bnd view).bnd fun w => (lift (strW w)).bnd fun z => cs.bnd fun ps => (views ps).bnd fun ws => lift (bmW .join z ws))) :=
 PE.imp (ZgW PySem.F.plainAttrs_str PySem.F.slot_str_join PySem.F.type_str_join ZkB ho ha hbase hfew hline hs hplain) fun σ H Q h => ZjP h fun z vs H1 hq => by
  obtain ⟨Hs, ws, m, d, hs, h1, h2, v, e, o⟩ := hq
  match ws, e with
  | [.nd .lst ds], e =>
   simp only [bmW, Option.bind_eq_some_iff] at e
   obtain ⟨ts, e1, e2⟩ := e
   split at e2
   . rename_i hj
     cases e2
     obtain ⟨y, m1, rfl, v, l⟩ := v.one
     cases v with
     | nd n r =>
      have := ZfF r e1
      subst this
      exact ⟨z, _, ts, rfl, rfl, .inl (.inl n), hj, o.sc⟩
   . cases e2
theorem ZkR {K : Fg} {H Hs : Hp} {σ : St} {δ δ' : List D} {m0 M : Bud} {p : Op} {v : V} {u : Unit} (g : Good H Hs (fun b => m0 b + M b)) (s : RepS K H Hs σ δ M) (r : RepP K H Hs σ v p m0) (h : chkI A m p δ = .ok (u, δ')) :
 δ' = δ /\ ∃ a dx fs, v = .ref a /\ H a = some (.ins A dx fs) /\ fs.lookup m = none := by
 have fin : ∀ {B : Addr} {fs : List Str} {o : Bool} {ds : List D} {m1 : Bud}, Rep K H Hs v (.node (.ins B fs) o ds) m1 -> B = A -> m ∉ fs -> ∃ a dx fs, v = .ref a /\ H a = some (.ins A dx fs) /\ fs.lookup m = none := fun {B fs o ds m1} q hB hm => by
  subst hB
  have nl : ∀ {vs : List V}, fs.length = vs.length -> (fs.zip vs).lookup m = none := fun {vs} hl => by
   rw [List.lookup_eq_none_iff]
   intro p hp
   have := (List.of_mem_zip (a := p.1) (b := p.2) hp).1
   have hne : m ≠ p.1 := fun q => hm (by rw [q]; exact this)
   simpa using hne
  cases q with
  | own n q _ => obtain ⟨hl, dx, e⟩ := n; exact ⟨_, dx, _, rfl, e, nl hl⟩
  | shd n q => obtain ⟨hl, dx, e⟩ := n; exact ⟨_, dx, _, rfl, g.sub _ _ e, nl hl⟩
 cases p with
 | late i =>
  unfold chkI at h
  dsimp only at h
  split at h
  . rename_i B fs oo ds hi
    split at h
    . rename_i hc
      cases h
      obtain ⟨v', m1, m2, e1, q, l, f⟩ := s.slot hi (by simp)
      rw [show σ[i]? = some (some v) from r] at e1
      cases e1
      exact ⟨rfl, fin q hc.1 hc.2⟩
    . cases h
  . cases h
 | tmp d =>
  cases d with
  | sc u => cases h
  | hole => cases h
  | node k oo ds =>
   cases k with
   | ins B fs =>
    unfold chkI at h
    dsimp only at h
    split at h
    . rename_i hc
      cases h
      exact ⟨rfl, fin r hc.1 hc.2⟩
    . cases h
   | _ => cases h
theorem ZkS {K : Fg} {σ : St} {H : Hp} {Q : VK} {E : XK} (h : tM K (ca.bnd fun p => (chkI A m p).bnd fun _ => cs.bnd fun ps => ZaI fi (p :: ps)) σ H Q) :
 tP K ca σ H fun x H1 => ∃ a dx fs, x = .ref a /\ H1 a = some (.ins A dx fs) /\ fs.lookup m = none /\ tPs K cs σ H1 fun vs H2 => spF K fi.run (x :: vs) H2 Q E := by
 obtain ⟨δ, Hs, M, d, δ', g, s, ea, q⟩ := h
 obtain ⟨p, δ1, e1, eb⟩ := Zb ea
 obtain ⟨u, δ2, e2, ec⟩ := Zb eb
 obtain ⟨ps, δ3, e3, ed⟩ := Zb ec
 refine ⟨δ, Hs, M, p, δ1, g, s, e1, fun x H1 Hs1 m1 M1 g1 st1 r1 s1 => ?_⟩
 obtain ⟨rfl, a, dx, fs, hx, ha, hl⟩ := ZkR g1 s1 r1 e2
 refine ⟨a, dx, fs, hx, ha, hl, δ2, Hs1, M1, ps, δ3, g1.re, s1, e3, fun vs H2 Hs2 m2 M2 g2 st2 r2 s2 => ?_⟩
 obtain ⟨G2, S2, k2⟩ := Zr g g1 st1 g2 st2
 have r1' := RepP.frame st2.grow k2 r1
 exact ZfB (m1 := fun b => m1 b + m2 b) g (G2.re fun b => by (try dsimp only); omega) (S2.drop (fun b => by (try dsimp only); omega) G2.le) (show ZaL K H2 Hs2 σ (x :: vs) (p :: ps) (fun b => m1 b + m2 b) from ⟨m1, m2, r1', r2, fun b => Nat.le_refl _⟩) s2 ed q
theorem Zjb {pl : Sem Bool} (G : MeAt X.prog X.w X.K X.mg X.base A m j ps (spF X.K fi.run)) (hr : Room n X.A) (ho : PE X o (tP X.K ca)) (hj : j <= n := by decide)
 (ht : eval (.Call (.Attribute o m apos) [] [] pos) X.env = (do
  let ov <- eval o X.env
  standAt apos.atName
  let (f, first) <- holding [ov] (getMethod ov m pl)
  callWith pos f first (backTo pos (starEach [] X.env)) (backToKw pos (keywordEach [] X.env))) := by rfl) :
 PE X (.Call (.Attribute o m apos) [] [] pos) (tM X.K (ca.bnd fun p => (chkI A m p).bnd fun _ => (M.ret ([] : List Op)).bnd fun ps => ZaI fi (p :: ps))) := PE.imp (Zm0 G hr ho hj ht) fun σ H Q h => by
 refine tG.mono (ZkS (E := E0) h) fun x H1 ⟨a, dx, fs, hx, hh, hl, z⟩ => ⟨a, dx, fs, hx, hh, hl, ?_⟩
 obtain ⟨δ, Hs, M, aa, δ', g, s, e, q⟩ := z
 have := Zf e
 cases this
 exact q [] H1 Hs (fun _ => 0) M (Zat g) (stp0 _ _ _) trivial s
theorem ZmM {K : Fg} {σ : St} {H : Hp} {Q : VK} {E : XK} (h : tM K (cs.bnd fun ps => newF A fi ps) σ H Q) :
 tPs K cs σ H fun vs H1 => ∀ x dx, H1 x = none -> H1 dx = none -> dx ≠ x -> spF K fi.run (.ref x :: vs) (upd (upd H1 dx (.own x)) x (.ins A dx [])) (fun v H2 => v = .non /\ Q (.ref x) H2) E := by
 obtain ⟨δ, Hs, M, d, δ', g, s, e, q⟩ := h
 obtain ⟨ps, δ1, e1, e⟩ := Zb e
 refine ⟨δ, Hs, M, ps, δ1, g, s, e1, fun vs H1 Hs1 m1 M1 g1 st1 r1 s1 x dx hx hdx hne => ?_⟩
 unfold newF at e
 obtain ⟨ds, δ2, e2, e⟩ := Zb e
 cases hF : fi.run (.node (.ins A []) true [] :: ds) with
 | exc x y => rw [hF] at e; cases e
 | stuck => rw [hF] at e; cases e
 | ok r =>
  obtain ⟨d', ds'⟩ := r
  rw [hF] at e
  match d', ds', e, hF with
  | .sc .non, dI :: ds', e, hF =>
   dsimp only at e
   obtain ⟨u, δ3, e3, e⟩ := Zb e
   have := Zf e
   cases this
   obtain ⟨Hs2, m2, M2, g2, st2, q2, s2⟩ := Zbw (B := fun _ => 0) (g1.re fun b => by simp) s1 r1 e2
   have z0 := Zr (m1 := fun _ => 0) g (g1.re fun b => by simp) (st1.drop (fun b => by simp) g1.le) (g2.re fun b => by simp) (M1 := fun b => m1 b + M1 b) (M2 := fun b => m2 b + M2 b) (by
    have := st2
    exact ⟨fun b o h z => this.keep b o h (by simpa using z), fun b h => by have := this.own b (by simpa using h); simpa using this, this.grow, fun b h h' => by have := this.shr b h h'; simpa using this, this.stay⟩)
   have G2 : Good H1 Hs2 (fun b => M2 b + m2 b) := g2.re fun b => by simp; omega
   have S2 : Stp H Hs M H1 Hs2 (fun b => M2 b + m2 b) := z0.2.1.drop (fun b => by simp; omega) z0.1.le
   have hsx : Hs2 x = none := by
    cases w : Hs2 x with
    | none => rfl
    | some o => rw [G2.sub x o w] at hx; cases hx
   have hsd : Hs2 dx = none := by
    cases w : Hs2 dx with
    | none => rfl
    | some o => rw [G2.sub dx o w] at hdx; cases hdx
   have zz : ∀ b, H1 b = none -> M2 b = 0 /\ m2 b = 0 := fun b hb => by
    have l : M2 b + m2 b <= 1 := G2.le b
    have : M2 b + m2 b ≠ 1 := fun e => G2.has b e hb
    omega
   have nw : ∀ b, b ≠ x -> b ≠ dx -> upd (upd H1 dx (.own x)) x (.ins A dx []) b = H1 b := fun b h1 h2 => by rw [Zj h1, Zj h2]
   have atx : upd (upd H1 dx (.own x)) x (.ins A dx []) x = some (.ins A dx []) := Zi
   have atd : upd (upd H1 dx (.own x)) x (.ins A dx []) dx = some (.own x) := by rw [Zj hne]; exact Zi
   have old : ∀ b, H1 b ≠ none -> b ≠ x /\ b ≠ dx := fun b hb => ⟨fun e => hb (by rw [e]; exact hx), fun e => hb (by rw [e]; exact hdx)⟩
   have same : Same H1 (upd (upd H1 dx (.own x)) x (.ins A dx [])) := fun b o e => by
    obtain ⟨h1, h2⟩ := old b (by rw [e]; simp)
    rw [nw b h1 h2]; exact e
   have G3 : Good (upd (upd H1 dx (.own x)) x (.ins A dx [])) Hs2 (fun b => M2 b + (one x b + m2 b)) := by
    refine ⟨fun b o e => same b o (G2.sub b o e), fun b => ?_, fun b hb => ?_, fun b hb => ?_⟩
    . have l : M2 b + m2 b <= 1 := G2.le b
      unfold one
      (try dsimp only)
      split
      . rename_i e; subst e; have := zz b hx; omega
      . omega
    . by_cases e : b = x
      . subst e; exact hsx
      . have hb : M2 b + (one x b + m2 b) = 1 := hb
        simp only [one, if_neg e] at hb
        exact G2.ne b (by show M2 b + m2 b = 1; omega)
    . by_cases e : b = x
      . subst e; rw [atx]; simp
      . have hb : M2 b + (one x b + m2 b) = 1 := hb
        simp only [one, if_neg e] at hb
        have := G2.has b (by show M2 b + m2 b = 1; omega)
        obtain ⟨h1, h2⟩ := old b this
        rw [nw b h1 h2]; exact this
   have S3 : Stp H Hs M (upd (upd H1 dx (.own x)) x (.ins A dx [])) Hs2 (fun b => M2 b + (one x b + m2 b)) := by
    refine ⟨fun b o e z => same b o (S2.keep b o e z), fun b hb => ?_, S2.grow, S2.shr, fun b hb => ?_⟩
    . by_cases e : b = x
      . subst e
        right
        cases w : H b with
        | none => rfl
        | some o => exact absurd hx (S2.stay b (by rw [w]; simp))
      . have hb : M2 b + (one x b + m2 b) = 1 := hb
        simp only [one, if_neg e] at hb
        exact S2.own b (by show M2 b + m2 b = 1; omega)
    . have := S2.stay b hb
      obtain ⟨h1, h2⟩ := old b this
      rw [nw b h1 h2]; exact this
   have fr : ∀ b, H1 b ≠ none -> upd (upd H1 dx (.own x)) x (.ins A dx []) b = H1 b := fun b hb => nw b (old b hb).1 (old b hb).2
   have q3 : RepL K (upd (upd H1 dx (.own x)) x (.ins A dx [])) Hs2 vs ds m2 := q2.frame (Same.refl _) fun b _ hb => fr b hb
   have s3 : RepS K (upd (upd H1 dx (.own x)) x (.ins A dx [])) Hs2 σ δ2 M2 := RepS.frame (Same.refl _) (fun b _ hb => fr b hb) s2
   have rx : Rep K (upd (upd H1 dx (.own x)) x (.ins A dx [])) Hs2 (.ref x) (.node (.ins A []) true []) (one x) := .own (vs := []) (m' := fun _ => 0) ⟨rfl, dx, atx⟩ (.nil _) fun b => by simp
   refine ⟨_, Hs2, fun b => one x b + m2 b, _, _, G3.re fun b => by (try dsimp only); omega, .cons rx q3 fun b => Nat.le_refl _, hF, fun v H4 Hs4 n1 n2 g4 st4 r4 rl4 => ?_⟩
   cases r4
   refine ⟨rfl, ?_⟩
   cases rl4 with
   | @cons _ _ _ _ k1 k2 _ ra rb lk =>
    obtain ⟨G, S, k⟩ := Zr g G3 S3 g4 st4
    have s4 := RepS.frame st4.grow k s3
    have fin := ZaA s4 rb (lates r1) e3
    exact q _ H4 Hs4 k1 (fun b => k2 b + M2 b) (G.re fun b => by have := lk b; (try dsimp only); omega) (S.drop (fun b => by have := lk b; (try dsimp only); omega) G.le) ra fin
theorem ZmN (G : MkAt X.prog X.w X.K X.mg X.base x A j ps (spF X.K fi.run)) (hr : Room n X.A) (ha : PA X (e :: es) (tPs X.K cs)) (hj : j + 1 <= n := by decide) (hz : glOk X.env.scope x = true := by kernel_rfl) (he : starEach (e :: es) X.env = (false, eval e X.env) :: starEach es X.env := by rfl) (hpl : (backTo pos (starEach es X.env)).any (·.1) = false := by rfl) :
 PE X (.Call (.Name x p) (e :: es) [] pos) (tM X.K (cs.bnd fun ps => newF A fi ps)) := PE.imp (Zo6 G hr ha hj (glk hz) (dbk hz) he hpl) fun σ H Q h => by
 obtain ⟨δ, Hs, M, aa, δ', g, s, e, q⟩ := ZmM (E := E0) h
 refine ⟨δ, Hs, M, aa, δ', g, s, e, fun vs H' Hs' m M' g' st r s' x dx h1 h2 h3 => ?_⟩
 show spF X.K fi.run (.ref x :: (vs ++ [])) _ _ E0
 rw [List.append_nil]
 exact q vs H' Hs' m M' g' st r s' x dx h1 h2 h3
theorem Zc7 (f : Str) (v : V) : ∀ (fs : List Str) (vs : List V), fs.length = vs.length -> putF f v (fs.zip vs) = (putN f fs).zip (putV f v fs vs) /\ (putN f fs).length = (putV f v fs vs).length
 | [], [], _ => ⟨rfl, rfl⟩
 | g :: fs, x :: vs, h => by
  obtain ⟨i1, i2⟩ := Zc7 f v fs vs (by simpa using h)
  rw [List.zip_cons_cons]
  show (if g = f then (g, v) :: fs.zip vs else (g, x) :: putF f v (fs.zip vs)) = _ /\ _
  simp only [putN, putV]
  split
  . exact ⟨rfl, by simpa using h⟩
  . rw [i1]
    exact ⟨rfl, by rw [List.length_cons, List.length_cons, i2]⟩
 | [], _ :: _, h => by simp at h
 | _ :: _, [], h => by simp at h
theorem RepL.putV (f : Str) (x : Rep K H Hs v d m1) : ∀ {fs : List Str} {vs : List V} {ds : List D} {m : Bud}, fs.length = vs.length -> RepL K H Hs vs ds m -> RepL K H Hs (T.putV f v fs vs) (T.putV f d fs ds) (fun b => m b + m1 b)
 | [], _, _, m, h, .nil _ => .cons x (.nil (fun _ => 0)) fun b => by (try dsimp only); omega
 | [], _, _, m, h, .cons _ _ _ => by simp at h
 | _ :: _, _, _, m, h, .nil _ => by simp at h
 | g :: fs, _, _, m, h, .cons (m1 := a1) (m2 := a2) y z l => by
  simp only [T.putV]
  split
  . exact .cons x z fun b => by have := l b; (try dsimp only); omega
  . exact .cons y (RepL.putV f x (by simpa using h) z) fun b => by have := l b; (try dsimp only); omega
theorem ZkT (hf : ∀ C f, ok C f = true -> Cls X.K C /\ ZD X.K C f) (ho : PE X o (tVar i)) (hv : PE X value (tM X.K c)) (hs : swapsWith value (some (.Attribute o f pos')) pos.line X.env = pure false := by rfl) :
 PS X (.Assign [.Attribute o f pos'] value pos) (tS X.K lk (c.bnd fun d => (ZB i).bnd fun _ => (modS i (putD ok f d)).bnd fun _ => M.ret .nx)) := PS.imp (Zmd ho hv hs) fun E σ H h => by
 obtain ⟨δ, Hs, M, fl, δ', g, s, ea, q⟩ := h
 obtain ⟨d, δ1, e1, eb⟩ := Zb ea
 obtain ⟨p0, δ2, e2, ec⟩ := Zb eb
 obtain ⟨r0, δ3, e3, ed⟩ := Zb ec
 have := Zf ed
 cases this
 obtain ⟨kk, ds0, k', ds', hi, hff, rfl⟩ := Zcr e3
 refine ⟨δ, Hs, M, d, δ1, g, s, e1, fun v H1 Hs1 m1 M1 g1 st1 r1 s1 => ?_⟩
 obtain ⟨rfl, vo, hvo⟩ := Zd0 s1 e2
 obtain ⟨p1, us, m', n2, e8, nn, rl, le, fin⟩ := modL g1 s1 hi
 rw [hvo] at e8
 cases e8
 refine ⟨_, hvo, ?_⟩
 unfold putD at hff
 split at hff
 . rename_i ds C fs
   split at hff
   . rename_i hc
     cases hff
     obtain ⟨hl, dx, hH⟩ := nn
     obtain ⟨z1, z2⟩ := Zc7 f v fs us hl
     obtain ⟨G, S, R, SS⟩ := fin (.ins C dx (putF f v (fs.zip us))) (.ins C (putN f fs)) (T.putV f v fs us) (T.putV f d fs ds0) (fun b => m' b + m1 b) (fun _ => 0) .non (.sc .non) (fun b => by (try dsimp only); omega) ⟨z2, dx, by rw [Zi, z1]⟩ (rl.putV f r1 hl) (.sc _ _)
     have z := Zr (m1 := fun _ => 0) g (g1.re fun b => by simp) (st1.drop (fun b => by simp) g1.le) G S
     refine ⟨p1, C, dx, fs.zip us, rfl, hH, (hf C f hc.2).1, (hf C f hc.2).2, ?_, ?_⟩
     . rw [List.length_zip, hl, Nat.min_self]
       rw [<- hl]
       exact hc.1
     . exact q σ _ Hs1 _ (Keeps.refl _ _) (G.re fun b => by (try dsimp only); omega) ((z.2.1.drop (fun b => by simp) z.1.le).drop (fun b => by (try dsimp only); omega) G.le) SS
   . cases hff
 . cases hff
end
end T
namespace T
open PySem PySem.Spec L2 PySem.W
noncomputable def scr (ns : List Int) : D := .node .frl false (ns.map fun i => .sc (.int i))
theorem ZmO {K : Fg} {H : Hp} {a : Addr} {ns : List Int} {F : List D -> Rs (D × List D)} {E : XK} (hS : SqL K H a (ns.map V.int)) (e : ∃ ds', F [scr ns] = .ok (.sc (.bl true), ds')) : spF K F [.ref a] H (fun v _ => v = .bl true) E := by
 obtain ⟨ds', e⟩ := e
 refine ⟨[scr ns], H, fun _ => 0, _, ds', ⟨Same.refl _, fun b => Nat.zero_le _, fun b h => by simp at h, fun b h => by simp at h⟩, .cons (m1 := fun _ => 0) (m2 := fun _ => 0) (.shd (vs := ns.map V.int) hS (ZcZ ns)) (.nil _) fun b => by simp, e, fun v H' Hs' m1 m' g st r _ => ?_⟩
 cases r
 rfl
theorem Zjc {l : PySem.W.OpenLaw} {q : Program} {loose : List Str} {XP : (Str -> Option Value) -> Heap -> Prop} {YP : World -> Heap -> Prop} {d : DefRec} {K : Params -> Fg} {k : Nat} {x : Str} {R : Fg -> List D -> Rs (D × List D)} (hn : l.most = some 63) (hdf : d.params.defaults = []) (hr : Room k callerA)
 (hY : ∀ (w : World) (h : Heap), YP w h -> (K w.params).In h)
 (F : ∀ (w : World) (mg : Str -> Option Value) (fa : Addr) (h : Heap), (K w.params).In h -> h.Ns mainGlobals mg -> mg d.name = some (.ref fa) ->
  ∃ fd : FuncData, (∀ (s : Shared) (u : Value), BindsTo s fd ⟨[u], []⟩ [(x, u)]) /\ ∀ base : Heap, (K w.params).In base -> base.Ns mainGlobals mg -> FnOk l.prog w (K w.params) mg base CX0 k fa fd [x] (spF (K w.params) (R (K w.params))))
 (hL : ∀ (K : Fg) (ns : List Int), ns.length <= 63 -> ∃ ds', R K [scr ns] = .ok (.sc (.bl true), ds')) :
 PySem.W.WalkO q loose XP YP l.row.toRowW d [] (fun f vs => PySem.call f vs) :=
 L2.ZiE (n := 63) (k := k) (x := x) (CX := CX0) (sp := fun K => spF K (R K)) hn (by decide) hdf hr hY F (fun K H a ns hl _ hS => ZmO hS (hL K ns hl)) fun _ _ _ _ z => z
end T
namespace T
open PySem PySem.Spec L2 PySem.W
theorem Zif {α β : Type} {c : M α} {f : α -> M β} {δ δ' : List D} {a : α} (h : c δ = .ok (a, δ')) : c.bnd f δ = f a δ' := by
 unfold M.bnd
 rw [h]
theorem runA (h : ds.length = n) : Zu C n N body ds = ZE n (exs { C with lock := fun i => decide (i < n) } body (ds ++ List.replicate (N - n) .hole)) := if_pos h
theorem szl : sizeLine = 16777216 := by rw [sizeLine_eq]
section
noncomputable def bndR (f : α -> M β) : Rs (α × List D) -> Rs (β × List D)
 | .ok (a, δ) => f a δ
 | .exc x δ => .exc x δ
 | .stuck => .stuck
theorem bndA (c : M α) (f : α -> M β) (δ : List D) : c.bnd f δ = bndR f (c δ) := by
 unfold M.bnd bndR
 cases c δ <;> rfl
theorem ZkU (f : α -> M β) : bndR f (.ok (a, δ)) = f a δ := (rfl)
theorem retA : M.ret a δ = .ok (a, δ) := (rfl)
theorem Zpq : lift (some a) δ = .ok (a, δ) := (rfl)
theorem ZkV (c : Prop) [Decidable c] (f g : M α) (δ : List D) : (if c then f else g) δ = if c then f δ else g δ := by split <;> rfl
theorem Zpr (c : M D) : Zp (.v i) c = ZB i := (rfl)
noncomputable def atR (i : Nat) (δ : List D) : Option D -> Rs (Op × List D)
 | some (.sc _) => .ok (.late i, δ)
 | some (.node _ _ _) => .ok (.late i, δ)
 | _ => .stuck
theorem Zps : ZB i δ = atR i δ δ[i]? := by unfold ZB atR; cases δ[i]? with | none => rfl | some d => cases d <;> rfl
theorem ZmP : atR i δ (some (.sc v)) = .ok (.late i, δ) := (rfl)
theorem ZmQ : atR i δ (some (.node k o ds)) = .ok (.late i, δ) := (rfl)
noncomputable def vwR (i : Nat) (δ : List D) : Option D -> Rs (W × List D)
 | some (.sc v) => .ok (.sc v, δ)
 | some (.node k false ds) => .ok (.nd k ds, δ)
 | some (.node k true ds) => .ok (.nd k (shrL ds), δ.set i (.node k true (shrL ds)))
 | _ => .stuck
theorem Zpt : view (.late i) δ = vwR i δ δ[i]? := by
 unfold view vwR
 (try dsimp only)
 all_goals
  cases δ[i]? with
  | none => rfl
  | some d => cases d with
   | node k o ds => cases o <;> rfl
   | _ => rfl
theorem ZmR : vwR i δ (some (.sc v)) = .ok (.sc v, δ) := (rfl)
theorem Zpu : vwR i δ (some (.node k false ds)) = .ok (.nd k ds, δ) := (rfl)
theorem Zpv : vwR i δ (some (.node k true ds)) = .ok (.nd k (shrL ds), δ.set i (.node k true (shrL ds))) := (rfl)
theorem ZkW : view (.tmp (.sc v)) = M.ret (.sc v) := (rfl)
theorem ZkX : view (.tmp (.node k o ds)) = M.ret (.nd k ds) := (rfl)
noncomputable def vlR (i : Nat) (δ : List D) : Option D -> Rs (D × List D)
 | some (.sc v) => .ok (.sc v, δ)
 | some (.node k false ds) => .ok (.node k false ds, δ)
 | some (.node k true ds) => .ok (.node k false (shrL ds), δ.set i (.node k false (shrL ds)))
 | _ => .stuck
theorem valA : T.valV i δ = vlR i δ δ[i]? := by
 unfold T.valV vlR
 cases δ[i]? with
 | none => rfl
 | some d => cases d with
  | node k o ds => cases o <;> rfl
  | _ => rfl
theorem ZmS : vlR i δ (some (.sc v)) = .ok (.sc v, δ) := (rfl)
theorem Zpw : vlR i δ (some (.node k true ds)) = .ok (.node k false (shrL ds), δ.set i (.node k false (shrL ds))) := (rfl)
noncomputable def mvR (i : Nat) (δ : List D) : Option D -> Rs (D × List D)
 | some (.sc v) => .ok (.sc v, δ)
 | some (.node k o ds) => .ok (.node k o ds, δ.set i .hole)
 | _ => .stuck
theorem movA : movV i δ = mvR i δ δ[i]? := by unfold movV mvR; cases δ[i]? with | none => rfl | some d => cases d <;> rfl
theorem ZmT : mvR i δ (some (.sc v)) = .ok (.sc v, δ) := (rfl)
theorem ZmU : mvR i δ (some (.node k o ds)) = .ok (.node k o ds, δ.set i .hole) := (rfl)
noncomputable def tkR (lend : Bool) (i : Nat) (δ : List D) : Option D -> Rs (D × List D)
 | some (.sc v) => .ok (.sc v, δ)
 | some (.node k false ds) => .ok (.node k false ds, δ)
 | some (.node k true ds) => if lend then .ok (.node k true ds, δ.set i .hole) else .ok (.node k false (shrL ds), δ.set i (.node k false (shrL ds)))
 | _ => .stuck
theorem Zpx : takeA lend (.late i) δ = tkR lend i δ δ[i]? := by
 unfold takeA tkR
 (try dsimp only)
 all_goals
  cases δ[i]? with
  | none => rfl
  | some d => cases d with
   | node k o ds => cases o <;> rfl
   | _ => rfl
theorem Zpy : takeA lend (.tmp d) = M.ret d := (rfl)
theorem ZmV : tkR lend i δ (some (.sc v)) = .ok (.sc v, δ) := (rfl)
theorem Zpz : tkR lend i δ (some (.node k false ds)) = .ok (.node k false ds, δ) := (rfl)
theorem Zp0 : tkR true i δ (some (.node k true ds)) = .ok (.node k true ds, δ.set i .hole) := (rfl)
theorem ZmW : ZI lend [] = M.ret [] := (rfl)
theorem ZmX : ZI lend (p :: ps) = (takeA lend p).bnd fun d => (ZI lend ps).bnd fun ds => M.ret (d :: ds) := (rfl)
noncomputable def gvR (i : Nat) (δ : List D) (d : D) : Option D -> Rs (Unit × List D)
 | some .hole => .ok ((), δ.set i d)
 | _ => .ok ((), δ)
theorem Zp1 : giveA (.late i) d δ = gvR i δ d δ[i]? := by unfold giveA gvR; (try dsimp only); all_goals (cases δ[i]? with | none => rfl | some d => cases d <;> rfl)
theorem Zp2 : giveA (.tmp d') d = M.ret () := (rfl)
theorem ZmY : gvR i δ d (some (.sc v)) = .ok ((), δ) := (rfl)
theorem ZmZ : gvR i δ d (some (.node k o ds)) = .ok ((), δ) := (rfl)
theorem Zp3 : gvR i δ d (some .hole) = .ok ((), δ.set i d) := (rfl)
theorem Zna : Z0 [] ds = M.ret () := by cases ds <;> rfl
theorem Znb : Z0 (p :: ps) (d :: ds) = (giveA p d).bnd fun _ => Z0 ps ds := (rfl)
theorem Znc : views [] = M.ret [] := (rfl)
theorem Znd : views (p :: ps) = (view p).bnd fun w => (views ps).bnd fun ws => M.ret (w :: ws) := (rfl)
noncomputable def cfR (ps : List Op) (δ : List D) : Rs (D × List D) -> Rs (D × List D)
 | .ok (d, ds') => ((Z0 ps ds').bnd fun _ => M.ret d) δ
 | .exc _ _ => .stuck
 | .stuck => .stuck
theorem Zp4 : ZaI fi ps = (ZI fi.lend ps).bnd fun ds δ => cfR ps δ (fi.run ds) := by
 unfold ZaI cfR
 congr 1
 funext ds δ
 cases fi.run ds with
 | ok r => obtain ⟨d, ds'⟩ := r; rfl
 | exc x y => rfl
 | stuck => rfl
theorem Zne : cfR ps δ (.ok (d, ds')) = ((Z0 ps ds').bnd fun _ => M.ret d) δ := (rfl)
noncomputable def seqR (r : M Fl) : Rs (Fl × List D) -> Rs (Fl × List D)
 | .ok (.nx, δ) => r δ
 | .ok (f, δ) => .ok (f, δ)
 | .exc x δ => .exc x δ
 | .stuck => .stuck
theorem exs1 : exs C (s :: r) δ = seqR (exs C r) (ex C s δ) := by
 show seqL (ex C s) (exs C r) δ = _
 unfold seqL M.bnd seqR
 cases ex C s δ with
 | ok z => obtain ⟨f, δ1⟩ := z; cases f <;> rfl
 | exc x y => rfl
 | stuck => rfl
noncomputable def forR (asg : D -> M Unit) (body : M Fl) (ds : List D) : Rs (Fl × List D) -> Rs (Fl × List D)
 | .ok (.nx, δ) => forL asg body ds δ
 | .ok (.ct, δ) => forL asg body ds δ
 | .ok (.bk, δ) => .ok (.nx, δ)
 | .ok (.rt x, δ) => .ok (.rt x, δ)
 | .exc x δ => .exc x δ
 | .stuck => .stuck
theorem Zcf : forL asg body (d :: ds) δ = forR asg body ds (((asg d).bnd fun _ => body) δ) := by
 show ((asg d).bnd fun _ => body.bnd fun f => match f with | .nx => forL asg body ds | .ct => forL asg body ds | .bk => M.ret .nx | .rt x => M.ret (.rt x)) δ = _
 unfold forR M.bnd
 cases asg d δ with
 | ok r =>
  dsimp only
  cases body r.2 with
  | ok z => obtain ⟨f, δ1⟩ := z; cases f <;> rfl
  | exc x y => rfl
  | stuck => rfl
 | exc x y => rfl
 | stuck => rfl
theorem Zp5 : forL asg body [] δ = .ok (.nx, δ) := (rfl)
theorem ZkY : forR asg body ds (.ok (.nx, δ)) = forL asg body ds δ := (rfl)
theorem ZkZ : forR asg body ds (.ok (.rt d, δ)) = .ok (.rt d, δ) := (rfl)
theorem exs0 : exs C [] δ = .ok (.nx, δ) := (rfl)
theorem Zla (r : M Fl) : seqR r (.ok (.nx, δ)) = r δ := (rfl)
theorem Zlb (r : M Fl) : seqR r (.ok (.rt d, δ)) = .ok (.rt d, δ) := (rfl)
end
end T
namespace T
open PySem PySem.Spec L2 PySem.W
theorem e_k (C : Ctx) (v : V) : (evb C (.k v)).1 = (M.ret (.sc v)) := (rfl)
theorem o_k (v : V) (z : M D) : Zp (.k v) z = z.bnd fun d => M.ret (.tmp d) := (rfl)
theorem e_g (C : Ctx) (d : D) : (evb C (.g d)).1 = (M.ret d) := (rfl)
theorem o_g (d : D) (z : M D) : Zp (.g d) z = z.bnd fun d => M.ret (.tmp d) := (rfl)
theorem Zp6 (C : Ctx) (op : Operator) (a : E) (b : E) : (evb C (.bin op a b)).1 = ((Zp a (evb C a).1).bnd fun p => (Zp b (evb C b).1).bnd fun q => (view p).bnd fun x => (view q).bnd fun y => lift (binW op x y)) := (rfl)
theorem Zp7 (op : Operator) (a : E) (b : E) (z : M D) : Zp (.bin op a b) z = z.bnd fun d => M.ret (.tmp d) := (rfl)
theorem Zp8 (C : Ctx) (a : E) : (evb C (.neg a)).1 = (((Zp a (evb C a).1).bnd view).bnd fun x => lift (negW x)) := (rfl)
theorem Zp9 (a : E) (z : M D) : Zp (.neg a) z = z.bnd fun d => M.ret (.tmp d) := (rfl)
theorem ZpA (C : Ctx) (op : CmpOp) (a : E) (b : E) : (evb C (.cmp op a b)).1 = ((Zp a (evb C a).1).bnd fun p => (Zp b (evb C b).1).bnd fun q => (view p).bnd fun x => (view q).bnd fun y => lift ((Za8 op x y).map fun t => .sc (.bl t))) := (rfl)
theorem ZpB (C : Ctx) (op : CmpOp) (a : E) (b : E) : (evb C (.cmp op a b)).2 = ZbI (evb C (.cmp op a b)).1 := (rfl)
theorem ZpC (C : Ctx) (p : Bool) (a : E) : (evb C (.isN p a)).1 = (((Zp a (evb C a).1).bnd view).bnd fun x => M.ret (isNW p x)) := (rfl)
theorem ZpD (C : Ctx) (p : Bool) (a : E) : (evb C (.isN p a)).2 = ((Zp (.isN p a) (evb C (.isN p a)).1).bnd fun p => (view p).bnd fun w => lift (truW w)) := (rfl)
theorem ZpE (p : Bool) (a : E) (z : M D) : Zp (.isN p a) z = z.bnd fun d => M.ret (.tmp d) := (rfl)
theorem t_nt (C : Ctx) (a : E) : (evb C (.nt a)).2 = ((evb C a).2.bnd fun b => M.ret (!b)) := (rfl)
theorem ZpF (C : Ctx) (a : E) (b : E) : (evb C (.and a b)).2 = ((evb C a).2.bnd fun t => if t then (evb C b).2 else M.ret false) := (rfl)
theorem t_or (C : Ctx) (a : E) (b : E) : (evb C (.or a b)).2 = ((evb C a).2.bnd fun t => if t then M.ret true else (evb C b).2) := (rfl)
theorem e_ix (C : Ctx) (a : E) (b : E) : (evb C (.ix a b)).1 = ((Zp a (evb C a).1).bnd fun p => (Zp b (evb C b).1).bnd fun q => (view p).bnd fun x => (view q).bnd fun y => lift (ixW2 x y)) := (rfl)
theorem o_ix (a : E) (b : E) (z : M D) : Zp (.ix a b) z = z.bnd fun d => M.ret (.tmp d) := (rfl)
theorem e_sl (C : Ctx) (a : E) (b : E) (c : E) : (evb C (.sl a b c)).1 = ((Zp a (evb C a).1).bnd fun p => (ZaS b (Zp b (evb C b).1)).bnd fun l => (ZaS c (Zp c (evb C c).1)).bnd fun h => (view p).bnd fun x => lift (slD x l h)) := (rfl)
theorem o_sl (a : E) (b : E) (c : E) (z : M D) : Zp (.sl a b c) z = z.bnd fun d => M.ret (.tmp d) := (rfl)
theorem ZpG (C : Ctx) (a : E) (f : Str) : (evb C (.fld a f)).1 = (((Zp a (evb C a).1).bnd view).bnd fun x => lift (fldW C.fok f x)) := (rfl)
theorem ZpH (a : E) (f : Str) (z : M D) : Zp (.fld a f) z = z.bnd fun d => M.ret (.tmp d) := (rfl)
theorem ZpI (C : Ctx) (es : List E) : (evb C (.lst es)).1 = ((evs C es).bnd fun ds => lift (newL ds)) := (rfl)
theorem ZpJ (es : List E) (z : M D) : Zp (.lst es) z = z.bnd fun d => M.ret (.tmp d) := (rfl)
theorem ZpK (C : Ctx) (es : List E) : (evb C (.tup es)).1 = ((evs C es).bnd fun ds => lift (newT ds)) := (rfl)
theorem o_kl (vs : List V) (z : M D) : Zp (.kl vs) z = z.bnd fun d => M.ret (.tmp d) := (rfl)
theorem Znf (C : Ctx) (fi : FI) (es : List E) : (evb C (.call fi es)).1 = ((opds C es).bnd fun ps => ZaI fi ps) := (rfl)
theorem Zng (C : Ctx) (fi : FI) (es : List E) : (evb C (.call fi es)).2 = ((Zp (.call fi es) (evb C (.call fi es)).1).bnd fun p => (view p).bnd fun w => lift (truW w)) := (rfl)
theorem Znh (fi : FI) (es : List E) (z : M D) : Zp (.call fi es) z = z.bnd fun d => M.ret (.tmp d) := (rfl)
theorem e_bf (C : Ctx) (f : BF) (es : List E) : (evb C (.bf f es)).1 = ((opds C es).bnd fun ps => (views ps).bnd fun ws => lift (bfW f ws)) := (rfl)
theorem t_bf (C : Ctx) (f : BF) (es : List E) : (evb C (.bf f es)).2 = ((Zp (.bf f es) (evb C (.bf f es)).1).bnd fun p => (view p).bnd fun w => lift (truW w)) := (rfl)
theorem o_bf (f : BF) (es : List E) (z : M D) : Zp (.bf f es) z = z.bnd fun d => M.ret (.tmp d) := (rfl)
theorem e_bm (C : Ctx) (m : BM) (a : E) (es : List E) : (evb C (.bm m a es)).1 = (((Zp a (evb C a).1).bnd view).bnd fun w => (lift (strW w)).bnd fun z => (opds C es).bnd fun ps => (views ps).bnd fun ws => lift (bmW m z ws)) := (rfl)
theorem o_bm (m : BM) (a : E) (es : List E) (z : M D) : Zp (.bm m a es) z = z.bnd fun d => M.ret (.tmp d) := (rfl)
theorem Zni (C : Ctx) (A : Addr) (f : Str) (fi : FI) (a : E) (es : List E) : (evb C (.meth A f fi a es)).1 = ((Zp a (evb C a).1).bnd fun p => (chkI A f p).bnd fun _ => (opds C es).bnd fun ps => ZaI fi (p :: ps)) := (rfl)
theorem Znj (A : Addr) (f : Str) (fi : FI) (a : E) (es : List E) (z : M D) : Zp (.meth A f fi a es) z = z.bnd fun d => M.ret (.tmp d) := (rfl)
theorem ZpL (C : Ctx) (A : Addr) (fi : FI) (es : List E) : (evb C (.new A fi es)).1 = ((opds C es).bnd fun ps => newF A fi ps) := (rfl)
theorem ZpM (A : Addr) (fi : FI) (es : List E) (z : M D) : Zp (.new A fi es) z = z.bnd fun d => M.ret (.tmp d) := (rfl)
theorem Znk (k : Nat) (js : List Nat) (tg : Tg) (ik : IK) (es : List E) (es' : List E) (a : E) (z : M D) : Zp (.comp k js tg ik es es' a) z = z.bnd fun d => M.ret (.tmp d) := (rfl)
theorem Znl (C : Ctx) : (evb C .dct0).1 = M.ret (.node (.dic []) true []) := (rfl)
theorem ix_d (ks : List Key) (ds : List D) (v : V) : ixW2 (.nd (.dic ks) ds) (.sc v) = (keyD v).bind fun k => ZO k ks ds := (rfl)
theorem ZpN (x : Str) : keyD (.str x) = some (.inr x) := (rfl)
theorem c_in (v : V) (ks : List Key) (ds : List D) : Za8 .In (.sc v) (.nd (.dic ks) ds) = ((keyD v).map fun k => (ZO k ks ds).isSome == true) := (rfl)
theorem e_fs (C : Ctx) (es : List E) : (evb C (.fs es)).1 = fss C es Str.empty := (rfl)
theorem Zlc (C : Ctx) (acc : Str) : fss C [] acc = M.ret (.sc (.str acc)) := (rfl)
theorem Zjd (C : Ctx) (e : E) (es : List E) (acc : Str) : fss C (e :: es) acc = ((Zp e (evb C e).1).bnd view).bnd fun w => (lift (fmtW acc w)).bnd fun acc' => fss C es acc' := (rfl)
theorem o_fs (es : List E) (z : M D) : Zp (.fs es) z = z.bnd fun d => M.ret (.tmp d) := (rfl)
theorem e_v (C : Ctx) (i : Nat) : (evb C (.v i)).1 = T.valV i := (rfl)
theorem Zje (C : Ctx) (i : Nat) (es : List E) : (evb C (.mut .append i [] es)).1 = ((chkL i).bnd fun _ => (evs C es).bnd fun ds => appM i ds) := (rfl)
theorem ZpO (C : Ctx) : opds C [] = M.ret [] := (rfl)
theorem ZpP (C : Ctx) (e : E) (es : List E) : opds C (e :: es) = ((Zp e (evb C e).1).bnd fun p => (opds C es).bnd fun ps => M.ret (p :: ps)) := (rfl)
theorem evs0 (C : Ctx) : evs C [] = M.ret [] := (rfl)
theorem evs1 (C : Ctx) (e : E) (es : List E) : evs C (e :: es) = ((evb C e).1.bnd fun p => (evs C es).bnd fun ps => M.ret (p :: ps)) := (rfl)
theorem ZpQ (C : Ctx) : tsts C [] = M.ret true := (rfl)
theorem ZpR (C : Ctx) (i : Nat) (e : E) : ex C (.asg i e) = ((evb C e).1.bnd fun d => (asgN C.lock i d).bnd fun _ => M.ret .nx) := (rfl)
theorem ZpS (C : Ctx) (is : List Nat) (e : E) : ex C (.unp is e) = (((Zp e (evb C e).1).bnd view).bnd fun w => (unpM C.lock is w).bnd fun _ => M.ret .nx) := (rfl)
theorem ZpT (C : Ctx) (i : Nat) (x e : E) : ex C (.sub i [] x e) = ((evb C e).1.bnd fun d => (ZB i).bnd fun _ => ((Zp x (evb C x).1).bnd view).bnd fun w => (modS i (Zea w d)).bnd fun _ => M.ret .nx) := (rfl)
theorem Znm (C : Ctx) (i : Nat) (f : Str) (e : E) : ex C (.attr i f e) = ((evb C e).1.bnd fun d => (ZB i).bnd fun _ => (modS i (putD C.fok f d)).bnd fun _ => M.ret .nx) := (rfl)
theorem x_ex (C : Ctx) (e : E) : ex C (.ex e) = ((evb C e).1.bnd fun _ => M.ret .nx) := (rfl)
theorem ZpU (C : Ctx) (e : E) : ex C (.ret e) = ((retV C e).bnd fun d => M.ret (.rt d)) := (rfl)
theorem ZpV (C : Ctx) (c : E) (a b : List S) : ex C (.iff c a b) = ((evb C c).2.bnd fun t => if t then exs C a else exs C b) := (rfl)
theorem Znn (C : Ctx) (tg : Tg) (ik : IK) (ies : List E) (body : List S) : ex C (.for_ tg ik ies body) = ((opds C ies).bnd fun ps => (Zw ps).bnd fun h => (lift (itW ik h.1)).bnd fun items => (forL (asgT (fun j => C.lock j || walked ies j) tg) (exs { C with lock := fun j => C.lock j || walked ies j } body) items).bnd fun f => (ZA h.2).bnd fun _ => M.ret f) := (rfl)
theorem ZpW (C : Ctx) (i : Nat) : retV C (.v i) = if C.lock i then T.valV i else movV i := (rfl)
theorem r_k (C : Ctx) (v : V) : retV C (.k v) = (evb C (.k v)).1 := (rfl)
theorem ZpX (C : Ctx) (op : Operator) (a : E) (b : E) : retV C (.bin op a b) = (evb C (.bin op a b)).1 := (rfl)
theorem ZpY (C : Ctx) (op : CmpOp) (a : E) (b : E) : retV C (.cmp op a b) = (evb C (.cmp op a b)).1 := (rfl)
theorem r_ix (C : Ctx) (a : E) (b : E) : retV C (.ix a b) = (evb C (.ix a b)).1 := (rfl)
theorem ZpZ (C : Ctx) (a : E) (f : Str) : retV C (.fld a f) = (evb C (.fld a f)).1 := (rfl)
theorem Zqa (C : Ctx) (es : List E) : retV C (.tup es) = (evb C (.tup es)).1 := (rfl)
theorem r_bm (C : Ctx) (m : BM) (a : E) (es : List E) : retV C (.bm m a es) = (evb C (.bm m a es)).1 := (rfl)
theorem Zqb (i j : Int) : binW .Add (.sc (.int i)) (.sc (.int j)) = some (.sc (.int (i + j))) := (rfl)
theorem Zqc (i j : Int) : binW .Sub (.sc (.int i)) (.sc (.int j)) = some (.sc (.int (i - j))) := (rfl)
theorem Zeh (i j : Int) (h : (-(2 ^ 64) < i /\ i < 2 ^ 64) \/ (-(2 ^ 64) < j /\ j < 2 ^ 64)) : binW .Mult (.sc (.int i)) (.sc (.int j)) = some (.sc (.int (i * j))) := if_pos h
theorem Zfk (i j : Int) (h : 0 < j /\ j < 1073741824) : binW .FloorDiv (.sc (.int i)) (.sc (.int j)) = some (.sc (.int (i / j))) := if_pos h
theorem Zbd (i j : Int) (h : 0 < j) : binW .Mod (.sc (.int i)) (.sc (.int j)) = some (.sc (.int (i % j))) := if_pos h
theorem ZfH (x y : Str) (h : x.length + y.length <= sizeLine) : binW .Add (.sc (.str x)) (.sc (.str y)) = some (.sc (.str (x ++ y))) := if_pos h
theorem ZjQ (xs ys : List D) (h : (xs ++ ys).length <= sizeLine) : binW .Add (.nd .lst xs) (.nd .lst ys) = some (.node .lst true (xs ++ ys)) := if_pos h
theorem Zbx (ds : List D) (h : ds.length <= sizeLine) : newL ds = some (.node .lst true ds) := if_pos h
theorem Zqd (i j : Int) : Za8 .Lt (.sc (.int i)) (.sc (.int j)) = some (decide (i < j)) := (rfl)
theorem Zqe (i j : Int) : Za8 .Gt (.sc (.int i)) (.sc (.int j)) = some (decide (j < i)) := (rfl)
theorem Zqf (i j : Int) : Za8 .GtE (.sc (.int i)) (.sc (.int j)) = some (decide (j <= i)) := (rfl)
theorem Zno (i j : Int) : Za8 .Eq (.sc (.int i)) (.sc (.int j)) = some (decide (V.int i = V.int j)) := (rfl)
theorem Znp (i j : Int) : Za8 .NotEq (.sc (.int i)) (.sc (.int j)) = some (!decide (V.int i = V.int j)) := (rfl)
theorem Znq (i j : Str) : Za8 .Eq (.sc (.str i)) (.sc (.str j)) = some (decide (V.str i = V.str j)) := (rfl)
theorem Zqg (c : M D) (δ : List D) : ZbI c δ = bndR (fun d => lift (match d with | .sc (.bl b) => some b | _ => none)) (c δ) := bndA _ _ _
theorem Zqh (i : Int) : negW (.sc (.int i)) = some (.sc (.int (-i))) := (rfl)
theorem Zqi (b : Bool) : truW (.sc (.bl b)) = some b := (rfl)
theorem Zqj (ds : List D) : bfW .len [.nd .lst ds] = some (.sc (.int ds.length)) := (rfl)
theorem Zqk (ds : List D) : bfW .len [.nd .frl ds] = some (.sc (.int ds.length)) := (rfl)
theorem Znr (c : M Op) : ZaS (.k .non) c = M.ret none := (rfl)
theorem Zns (i : Int) (c : M Op) : ZaS (.k (.int i)) c = ((c.bnd view).bnd fun w => lift (intP w)) := (rfl)
theorem Znt (i : Nat) (c : M Op) : ZaS (.v i) c = ((c.bnd view).bnd fun w => lift (intP w)) := (rfl)
theorem Znu (op : Operator) (a b : E) (c : M Op) : ZaS (.bin op a b) c = ((c.bnd view).bnd fun w => lift (intP w)) := (rfl)
theorem Znv (f : FI) (a : List E) (c : M Op) : ZaS (.call f a) c = ((c.bnd view).bnd fun w => lift (intP w)) := (rfl)
theorem intp (i : Int) : intP (.sc (.int i)) = some (some i) := (rfl)
theorem sl_l (ds : List D) (l h : Option Int) : slD (.nd .lst ds) l h = some (.node .lst true (cutD ds l h)) := (rfl)
theorem sl_f (ds : List D) (l h : Option Int) : slD (.nd .frl ds) l h = some (.node .lst true (cutD ds l h)) := (rfl)
theorem Zql (lk : Nat -> Bool) (is : List Nat) (ds : List D) : unpM lk is (.nd .tup ds) = Zbb lk is ds := (rfl)
theorem Zqm (lk : Nat -> Bool) : Zbb lk [] [] = M.ret () := (rfl)
theorem Zqn (lk : Nat -> Bool) (i : Nat) (is : List Nat) (d : D) (ds : List D) : Zbb lk (i :: is) (d :: ds) = ((asgN lk i d).bnd fun _ => Zbb lk is ds) := (rfl)
theorem Znw (lk : Nat -> Bool) (i : Nat) (d : D) : asgT lk (.name i) d = asgN lk i d := (rfl)
theorem asgn (lk : Nat -> Bool) (i : Nat) (d : D) (δ : List D) : asgN lk i d δ = if (decide (i < δ.length) && !lk i) = true then .ok ((), δ.set i d) else .stuck := (rfl)
theorem Znx : Zw [] = M.ret ([], []) := (rfl)
theorem Zny (p : Op) (ps : List Op) : Zw (p :: ps) = ((holdV p).bnd fun w => (Zw ps).bnd fun ws => M.ret (w.1 :: ws.1, w.2.toList ++ ws.2)) := (rfl)
noncomputable def hdR (i : Nat) (δ : List D) : Option D -> Rs ((W × Option (Nat × D)) × List D)
 | some (.sc v) => .ok ((.sc v, none), δ)
 | some (.node k false ds) => .ok ((.nd k ds, none), δ)
 | some (.node k true ds) => .ok ((.nd k (shrL ds), some (i, .node k true (shrL ds))), δ.set i .hole)
 | _ => .stuck
theorem Znz (i : Nat) (δ : List D) : holdV (.late i) δ = hdR i δ δ[i]? := by
 unfold holdV hdR
 (try dsimp only)
 all_goals
  cases δ[i]? with
  | none => rfl
  | some d => cases d with
   | node k o ds => cases o <;> rfl
   | _ => rfl
theorem Zn0 (i : Nat) (δ : List D) (v : V) : hdR i δ (some (.sc v)) = .ok ((.sc v, none), δ) := (rfl)
theorem Zqo (i : Nat) (δ : List D) (k : Kd) (ds : List D) : hdR i δ (some (.node k true ds)) = .ok ((.nd k (shrL ds), some (i, .node k true (shrL ds))), δ.set i .hole) := (rfl)
theorem Zn1 (v : V) : holdV (.tmp (.sc v)) = M.ret (.sc v, none) := (rfl)
theorem Zn2 (k : Kd) (o : Bool) (ds : List D) : holdV (.tmp (.node k o ds)) = M.ret (.nd k (shrL ds), none) := (rfl)
theorem Zn3 : ZA [] = M.ret () := (rfl)
theorem Zn4 (i : Nat) (d : D) (r : List (Nat × D)) (δ : List D) : ZA ((i, d) :: r) δ = ZA r (δ.set i d) := (rfl)
theorem it_l (ds : List D) : itW .val [.nd .lst ds] = some ds := (rfl)
theorem it_1 (n : Int) (h : okR n = true) : itW .rng1 [.sc (.int n)] = some (rng 0 n) := if_pos h
theorem it_2 (a b : Int) (h : (okR a && okR b) = true) : itW .rng2 [.sc (.int a), .sc (.int b)] = some (rng a b) := if_pos h
noncomputable def mdR (i : Nat) (δ : List D) (f : Kd -> List D -> Option (D × Kd × List D)) : Option D -> Rs (D × List D)
 | some (.node k true ds) => match f k ds with
  | some (r, k', ds') => .ok (r, δ.set i (.node k' true ds'))
  | none => .stuck
 | _ => .stuck
theorem modA (i : Nat) (f : Kd -> List D -> Option (D × Kd × List D)) (δ : List D) : modS i f δ = mdR i δ f δ[i]? := by
 unfold modS mdR
 cases δ[i]? with
 | none => rfl
 | some d => cases d with
  | node k o ds => cases o <;> rfl
  | _ => rfl
theorem ZfI (i : Nat) (δ : List D) (d : D) (ds : List D) (h : ds.length < sizeLine) : mdR i δ (appD d) (some (.node .lst true ds)) = .ok (.sc .non, δ.set i (.node .lst true (ds ++ [d]))) := by
 show (match (if ds.length < sizeLine then some (D.sc .non, Kd.lst, ds ++ [d]) else none) with | some (r, k', ds') => Rs.ok (r, δ.set i (.node k' true ds')) | none => .stuck) = _
 rw [if_pos h]
theorem Zig (i : Nat) (δ : List D) (d : D) (ds : List D) (n : Int) (j : Nat) (h : ixN' ds.length n = some j) : mdR i δ (Zea (.sc (.int n)) d) (some (.node .lst true ds)) = .ok (.sc .non, δ.set i (.node .lst true (ds.set j d))) := by
 show (match ((ixN' ds.length n).map fun j => (D.sc .non, Kd.lst, ds.set j d)) with | some (r, k', ds') => Rs.ok (r, δ.set i (.node k' true ds')) | none => .stuck) = _
 rw [h]
 rfl
theorem Zqp (i : Nat) (d : D) : appM i [d] = modS i (appD d) := (rfl)
noncomputable def ckR (δ : List D) : Option D -> Rs (Unit × List D)
 | some (.node .lst _ _) => .ok ((), δ)
 | _ => .stuck
theorem chkA (i : Nat) (δ : List D) : chkL i δ = ckR δ δ[i]? := by
 unfold chkL ckR
 cases δ[i]? with
 | none => rfl
 | some d => cases d with
  | node k o ds => cases k <;> rfl
  | _ => rfl
theorem Zqq (δ : List D) (o : Bool) (ds : List D) : ckR δ (some (.node .lst o ds)) = .ok ((), δ) := (rfl)
theorem ix_l (ds : List D) (i : Int) : ixW2 (.nd .lst ds) (.sc (.int i)) = (ixN' ds.length i).bind fun j => ds[j]? := (rfl)
theorem ix_f (ds : List D) (i : Int) : ixW2 (.nd .frl ds) (.sc (.int i)) = (ixN' ds.length i).bind fun j => ds[j]? := (rfl)
theorem Zd6 (n j : Nat) (h : j < n) : ixN' n (j : Int) = some j := by
 unfold ixN'
 rw [if_pos (Int.natCast_nonneg j), if_pos (by omega)]
 simp
end T
namespace T
open PySem PySem.Spec L2
section
def r2C (K : Fg) (f : W -> W -> Option Bool) : R2 := fun x y H Q => ∃ (Hs : Hp) (w1 w2 : W) (m1 m2 : Bud) (t : Bool), Same Hs H /\ View K H Hs x w1 m1 /\ View K H Hs y w2 m2 /\ f w1 w2 = some t /\ Q (.bl t) H
theorem Zld (op : CmpOp) (hu : X.A.units + 64 < cLine) : OpR X (compareOp op) (r2C X.K (cmpW op)) := by
 intro pins s σ H x y v u Q I rx ry h
 obtain ⟨Hs, w1, w2, m1, m2, t, hs, v1, v2, e, q⟩ := h
 unfold cmpW at e
 split at e
 . rcases Zia hs v1 v2 e with ⟨h3, rfl⟩ | ⟨d, f, h3, h4, h5, h6, rfl⟩
   . exact Zoj pins s σ H _ _ v u Q I rx ry ⟨h3, q⟩
   . exact Zmu hu pins s σ H _ _ v u Q I rx ry ⟨d, f, h3, h4, h5, h6, q⟩
 . simp only [Option.map_eq_some_iff] at e
   obtain ⟨t, e, rfl⟩ := e
   rcases Zia hs v1 v2 e with ⟨h3, rfl⟩ | ⟨d, f, h3, h4, h5, h6, rfl⟩
   . exact Zok pins s σ H _ _ v u Q I rx ry ⟨h3, q⟩
   . exact Zmv hu pins s σ H _ _ v u Q I rx ry ⟨d, f, h3, h4, h5, h6, q⟩
 . rename_i i j _ _
   cases v1; cases v2
   cases op with
   | Lt => cases e; exact Zol pins s σ H _ _ v u Q I rx ry ⟨_, _, rfl, rfl, q⟩
   | LtE => cases e; exact Zom pins s σ H _ _ v u Q I rx ry ⟨_, _, rfl, rfl, q⟩
   | Gt => cases e; exact Zon pins s σ H _ _ v u Q I rx ry ⟨_, _, rfl, rfl, q⟩
   | GtE => cases e; exact Zoo pins s σ H _ _ v u Q I rx ry ⟨_, _, rfl, rfl, q⟩
   | _ => cases e
 . cases e
end
section
theorem Zqr (h : tM K ((c.bnd view).bnd f) σ H Q) : tP K c σ H fun x H1 => ∃ (Hs : Hp) (w : W) (m : Bud), View K H1 Hs x w m /\ tM K (f w) σ H1 Q := by
 obtain ⟨δ, Hs, M, d, δ', g, s, e, q⟩ := h
 obtain ⟨w, δ2, e, e5⟩ := Zb e
 obtain ⟨p, δ1, e1, e3⟩ := Zb e
 refine ⟨δ, Hs, M, p, δ1, g, s, e1, fun x H2 Hs2 m1 M2 g2 st2 r1 s2 => ?_⟩
 obtain ⟨Hs3, M3, g3, st3, v1, s3⟩ := Zaj (B := m1) g2 s2 r1 e3
 have z := Zr (m1 := fun _ => 0) g (g2.re fun b => by simp) (st2.drop (fun b => by simp) g2.le) g3 st3
 have st : Stp H Hs M H2 Hs3 (fun b => m1 b + M3 b) := z.2.1.drop (fun b => by simp) z.1.le
 have G : Good H2 Hs3 (fun b => (fun _ => 0) b + M3 b) := g3.re fun b => by simp
 have st' : Stp H Hs M H2 Hs3 (fun b => (fun _ => 0) b + M3 b) := st.drop (fun b => by simp) g3.le
 refine ⟨Hs3, w, m1, v1, δ2, Hs3, M3, d, δ', g3.re, s3, e5, fun v H' Hs' m M' g' sx r s' => q v H' Hs' m M' g' ?_ r s'⟩
 have z2 := Zr (m1 := fun _ => 0) g G st' g' sx
 exact z2.2.1.drop (fun b => by simp) z2.1.le
def PF (X : Cx) (es : List Expr) (f : Str -> M D) : Prop := ∃ ts, PEs X es ts /\ ∀ acc σ H Q, tM X.K (f acc) σ H Q -> Zfi ts acc σ H Q
theorem Zfl : PF X [] fun acc => M.ret (.sc (.str acc)) := ⟨[], .nil, fun acc σ H Q z0 => by
 obtain ⟨δ, Hs, M, d, δ', g, s, e, q⟩ := z0
 have := Zf e
 cases this
 exact q _ H Hs (fun _ => 0) M (Zat g) (stp0 H Hs M) (.sc _ _) s⟩
theorem ZfJ (h : tM K ((lift o).bnd f) σ H Q) : ∃ a, o = some a /\ tM K (f a) σ H Q := by
 obtain ⟨δ, Hs, M, d, δ', g, s, e, q⟩ := h
 obtain ⟨a, δ1, e1, e2⟩ := Zb e
 obtain ⟨e3, rfl⟩ := ZM e1
 exact ⟨a, e3, δ1, Hs, M, d, δ', g, s, e2, q⟩
theorem ZgD (v : View K H Hs x w m) (h : fmtW acc w = some z) : ∃ y, fmtV x = some y /\ y.length <= sizeLine /\ (acc ++ y).length <= sizeLine /\ z = acc ++ y := by
 cases v with
 | sc v m =>
  have h : ((fmtD x).bind fun z => if z.length <= sizeLine /\ (acc ++ z).length <= sizeLine then some (acc ++ z) else none) = some z := h
  simp only [Option.bind_eq_some_iff] at h
  obtain ⟨y, h1, h2⟩ := h
  split at h2
  . rename_i hl
    cases h2
    exact ⟨y, h1, hl.1, hl.2, rfl⟩
  . cases h2
 | nd n r => cases h
theorem Zfm (ha : PE X e (tP X.K ca)) (hr : PF X es f) : PF X (.FormattedValue e (-1) none pos :: es) fun acc => (ca.bnd view).bnd fun w => (lift (fmtW acc w)).bnd f := by
 obtain ⟨ts, h1, h2⟩ := hr
 refine ⟨_ :: ts, .cons (Zmy ha) h1, fun acc σ H Q h => ?_⟩
 obtain ⟨δ, Hs, M, p, δ1, g, s, e1, q⟩ := Zqr h
 refine ⟨δ, Hs, M, p, δ1, g, s, e1, fun x H1 Hs1 m M1 g1 st1 r1 s1 => ?_⟩
 obtain ⟨Hs2, w, m2, v, h3⟩ := q x H1 Hs1 m M1 g1 st1 r1 s1
 obtain ⟨z, h4, h5⟩ := ZfJ h3
 obtain ⟨y, a1, a2, a3, rfl⟩ := ZgD v h4
 exact ⟨y, a1, a2, y, rfl, a3, h2 _ _ _ _ h5⟩
theorem Zfn {j pos'} (hr : PF X es f) : PF X (.Constant (.str z) j pos' :: es) fun acc => (((M.ret (D.sc (.str z))).bnd fun d => M.ret (Op.tmp d)).bnd view).bnd fun w => (lift (fmtW acc w)).bnd f := by
 obtain ⟨ts, h1, h2⟩ := hr
 refine ⟨_ :: ts, .cons Zn h1, fun acc σ H Q h => ?_⟩
 have h' : tM X.K ((lift (fmtW acc (.sc (.str z)))).bnd f) σ H Q := h
 obtain ⟨y, h4, h5⟩ := ZfJ h'
 obtain ⟨y, a1, a2, a3, rfl⟩ := ZgD (K := X.K) (H := H) (Hs := H) (View.sc (V.str z) (fun _ => 0)) h4
 cases a1
 exact ⟨_, rfl, a3, h2 _ _ _ _ h5⟩
theorem Zfo (h : PF X (a :: b :: es) f) : PE X (.JoinedStr (a :: b :: es) pos) (tM X.K (f Str.empty)) := by
 obtain ⟨ts, h1, h2⟩ := h
 exact PE.imp (ZkC h1) fun σ H Q h => h2 _ _ _ _ h
end
end T
namespace T
open PySem PySem.Spec L2
theorem Ze7 (h : keyD v = some k) : v = kV k := by
 unfold keyD at h
 split at h <;> cases h <;> rfl
theorem ZdN : ∀ {ks : List Key} {vs : List V}, L2.valV (ks.zip vs) k = ZO k ks vs
 | [], _ => by simp [ZO, L2.Zfx]
 | _ :: _, [] => by simp [ZO, L2.Zfx]
 | j :: ks, v :: vs => by
  rw [List.zip_cons_cons]
  unfold ZO
  by_cases e : j = k
  . rw [if_pos e, L2.Zc2 (p := (j, v)) e]
  . rw [if_neg e, L2.Zc3 (p := (j, v)) e]
    exact ZdN
section
variable {K : Fg} {H Hs : Hp}
theorem RepL.look : ∀ {ks : List Key} {vs : List V} {ds : List D} {m : Bud}, RepL K H Hs vs ds m -> ZO k ks ds = some d -> ∃ (v : V) (m1 : Bud), ZO k ks vs = some v /\ Rep K H Hs v d m1 /\ ∀ b, m1 b <= m b
 | [], _, _, _, .nil _, e => by cases e
 | _ :: _, _, _, _, .nil _, e => by cases e
 | [], _, _, _, .cons x r l, e => by cases e
 | j :: ks, _, _, _, .cons (m1 := m1) (m2 := m2) x r l, e => by
  unfold ZO at e ⊢
  by_cases h : j = k
  . rw [if_pos h] at e ⊢
    cases e
    exact ⟨_, m1, rfl, x, fun b => by have := l b; omega⟩
  . rw [if_neg h] at e ⊢
    obtain ⟨v, n1, h1, h2, h3⟩ := RepL.look r e
    exact ⟨v, n1, h1, h2, fun b => by have := l b; have := h3 b; omega⟩
theorem RepL.lookS : ∀ {ks : List Key} {vs : List V} {ds : List D} {m : Bud}, RepL K H Hs vs ds m -> (ZO k ks vs).isSome = (ZO k ks ds).isSome
 | [], _, _, _, .nil _ => rfl
 | _ :: _, _, _, _, .nil _ => rfl
 | [], _, _, _, .cons x r l => rfl
 | j :: ks, _, _, _, .cons x r l => by
  unfold ZO
  by_cases h : j = k
  . rw [if_pos h, if_pos h]; rfl
  . rw [if_neg h, if_neg h]; exact RepL.lookS r
theorem Zjf {p : Key × V} {r : List (Key × V)} {k : Key} {v : V} (e : ¬ p.1 = k) : putK (p :: r) k v = p :: putK r k v := by
 unfold putK
 rw [List.any_cons, decide_eq_false e, Bool.false_or]
 split
 . rw [List.map_cons, if_neg e]
 . rfl
theorem ZfK : ∀ {ks : List Key} {vs : List V}, k ∉ ks -> (ks.zip vs).map (fun kv => if kv.1 = k then (kv.1, v) else kv) = ks.zip vs
 | [], _, _ => rfl
 | _ :: _, [], _ => rfl
 | j :: ks, x :: vs, h => by
  rw [List.zip_cons_cons, List.map_cons, if_neg (fun e : j = k => h (e ▸ List.mem_cons_self)), ZfK fun q => h (List.mem_cons_of_mem _ q)]
theorem RepL.stor {k : Key} {d : D} {v : V} {n : Bud} (x : Rep K H Hs v d n) : ∀ {ks ks' : List Key} {vs : List V} {ds ds' : List D} {m : Bud}, ks.length = vs.length -> RepL K H Hs vs ds m -> Zfj k d ks ds = some (ks', ds') ->
 ∃ vs', ks'.length = vs'.length /\ RepL K H Hs vs' ds' (fun b => m b + n b) /\ putK (ks.zip vs) k v = ks'.zip vs'
 | [], _, _, _, _, _, hl, .nil m, e => by
  cases e
  exact ⟨[v], rfl, .cons x (.nil m) fun b => by omega, rfl⟩
 | _ :: _, _, _, _, _, _, hl, .nil m, e => by cases e
 | [], _, _, _, _, _, hl, .cons y r l, e => by cases e
 | j :: ks, ks', y0 :: vs, x0 :: ds, ds', m, hl, .cons (m1 := m1) (m2 := m2) y r l, e => by
  have hl : ks.length = vs.length := Nat.succ.inj hl
  unfold Zfj at e
  by_cases h : j = k
  . rw [if_pos h] at e
    split at e
    . cases e
    . rename_i hk
      have hk : k ∉ ks := fun hm => hk (List.any_eq_true.mpr ⟨k, hm, decide_eq_true rfl⟩)
      cases e
      refine ⟨v :: vs, by simp [hl], .cons x r fun b => by have := l b; (try dsimp only); omega, ?_⟩
      rw [List.zip_cons_cons, List.zip_cons_cons]
      unfold putK
      rw [List.any_cons, decide_eq_true (show (j, y0).1 = k from h), Bool.true_or, if_pos rfl, List.map_cons, if_pos h, ZfK hk]
  . rw [if_neg h] at e
    simp only [Option.map_eq_some_iff] at e
    obtain ⟨⟨ks2, ds2⟩, e2, e3⟩ := e
    cases e3
    obtain ⟨vs2, h1, h2, h3⟩ := RepL.stor x hl r e2
    refine ⟨y0 :: vs2, by simp [h1], .cons y h2 fun b => by have := l b; (try dsimp only); omega, ?_⟩
    rw [List.zip_cons_cons, Zjf (show ¬ (j, y0).1 = k from h), h3]
    rfl
end
section
variable {X : Cx} {a b o e k : Expr} {pos pos' : Pos} {i : Nat} {lk : Nat -> Bool}
theorem Zd7 (h : tP K c σ H R) (w : ∀ v H', R v H' -> R' v H') : tP K c σ H R' := by
 obtain ⟨δ, Hs, M, a, δ', g, s, e, q⟩ := h
 exact ⟨δ, Hs, M, a, δ', g, s, e, fun v H' Hs' m M' g' st r s' => w v H' (q v H' Hs' m M' g' st r s')⟩
theorem Zct {α β : Type} {c : M α} {f : α -> M β} {δ δ' : List D} {x : α} (h : c δ = .ok (x, δ')) : c.bnd f δ = f x δ' := by
 unfold M.bnd
 rw [h]
theorem PE.or (h : PE X e t) (h' : PE X e t') : PE X e fun σ H Q => t σ H Q \/ t' σ H Q := fun pins s σ H Q I q => q.elim (h pins s σ H Q I) (h' pins s σ H Q I)
theorem Zan {ca cb : M Op} (hu : X.A.units + 64 < cLine) (ha : PE X a (tP X.K ca)) (hb : PE X b (tP X.K cb)) (hs : Zg3 b := by intro _ _; rfl) :
 PE X (.Subscript a b pos) (tM X.K (ca.bnd fun p => cb.bnd fun q => (view p).bnd fun x => (view q).bnd fun y => lift (ixW2 x y))) :=
 PE.imp (PE.or (Zou ZoD ha hb hs) (Zkx (by omega) ha hb hs)) fun σ H Q h => by
  obtain ⟨δ, Hs, M, d, δ', g, s, e, q⟩ := h
  obtain ⟨p, δ1, e1, e⟩ := Zb e
  obtain ⟨p2, δ2, e2, e⟩ := Zb e
  obtain ⟨w1, δ3, e3, e⟩ := Zb e
  obtain ⟨w2, δ4, e4, e⟩ := Zb e
  obtain ⟨e5, rfl⟩ := ZM e
  have back : ∀ f : W -> W -> Option D, f w1 w2 = some d -> tM X.K (ca.bnd fun p => cb.bnd fun q => (view p).bnd fun x => (view q).bnd fun y => lift (f x y)) σ H Q := fun f hf => by
   refine ⟨δ, Hs, M, d, _, g, s, ?_, q⟩
   rw [Zct e1, Zct e2, Zct e3, Zct e4, hf]
   rfl
  unfold ixW2 at e5
  split at e5
  . right
    refine Zd7 (op2 (back ixD e5)) fun x H1 h1 => Zd7 h1 fun y H2 h2 => ?_
    obtain ⟨Hs2, w1', w2', m1, m2, d2, hs2, l1, l2, v1, v2, e6, oo⟩ := h2
    unfold ixD at e6
    split at e6
    . simp only [Option.bind_eq_some_iff] at e6
      obtain ⟨kk, hk, hl⟩ := e6
      cases v1 with
      | nd n r =>
       cases v2
       obtain ⟨z, n1, h3, h4, h5⟩ := r.look hl
       have hy := Ze7 hk
       subst hy
       have g := DGet.k (k := kk) n.2
       rw [ZdN, h3] at g
       exact ⟨_, z, rfl, g, oo.part l1 l2 (fun b => by have := h5 b; omega) h4⟩
    . cases e6
  . exact .inl (op2 (back ixW e5))
theorem ZjR (p : Bool) (op : CmpOp) (hop : op = if p then .In else .NotIn) (hu : X.A.units + 64 < cLine) : OpR X (compareOp op) (r2C X.K (inD p)) := by
 intro pins s σ H x y v u Q I rx ry h
 obtain ⟨Hs, w1, w2, m1, m2, t, hs, v1, v2, e, q⟩ := h
 unfold inD at e
 split at e
 . simp only [Option.map_eq_some_iff] at e
   obtain ⟨kk, hk, rfl⟩ := e
   cases v2 with
   | @nd a _ vs _ _ n r =>
    cases v1
    have hy := Ze7 hk
    subst hy
    obtain rfl : u = Value.ref a := ry
    have g := DGet.k (k := kk) n.2
    rw [ZdN] at g
    have es := fun ks => r.lookS (k := kk) (ks := ks)
    cases p with
    | true =>
     subst hop
     refine d_in (by omega) I g rx fun s' I' => ⟨.bl _, H, I', rfl, ?_⟩
     rw [es]
     simpa using q
    | false =>
     subst hop
     refine Zkv (by omega) I g rx fun s' I' => ⟨.bl _, H, I', rfl, ?_⟩
     rw [es]
     have z : ∀ c : Bool, (c == false) = !c := by decide
     rw [z] at q
     exact q
 . cases e
theorem ZgE (op : CmpOp) (hu : X.A.units + 64 < cLine) : OpR X (compareOp op) (r2C X.K (Za8 op)) := by
 by_cases h1 : op = .In
 . subst h1
   exact ZjR true .In rfl hu
 . by_cases h2 : op = .NotIn
   . subst h2
     exact ZjR false .NotIn rfl hu
   . have e : Za8 op = cmpW op := by
      funext x y
      unfold Za8
      split
      . exact absurd rfl h1
      . exact absurd rfl h2
      . rfl
     rw [e]
     exact Zld op hu
theorem op2C (h : tM K (ca.bnd fun p => cb.bnd fun q => (view p).bnd fun x => (view q).bnd fun y => lift ((f x y).map fun t => .sc (.bl t))) σ H Q) : tOp (r2C K f) (tP K ca) (tP K cb) σ H Q :=
 Zd7 (op2 (f := fun x y => (f x y).map fun t => .sc (.bl t)) h) fun x H1 h1 => Zd7 h1 fun y H2 h2 => by
  obtain ⟨Hs2, w1, w2, m1, m2, d2, hs2, l1, l2, v1, v2, e, oo⟩ := h2
  simp only [Option.map_eq_some_iff] at e
  obtain ⟨t, e, rfl⟩ := e
  exact ⟨Hs2, w1, w2, m1, m2, t, hs2, v1, v2, e, oo.sc⟩
theorem Ze8 (hu : X.A.units + 64 < cLine) (ha : PE X a (tP X.K ca)) (hb : PE X b (tP X.K cb)) (hm : behindInMarks op b = false := by first | exact nomark _ | with_unfolding_all rfl) :
 PE X (.Compare a [op] [b] pos) (tM X.K (ca.bnd fun p => cb.bnd fun q => (view p).bnd fun x => (view q).bnd fun y => lift ((Za8 op x y).map fun t => .sc (.bl t)))) := PE.imp (Zkk (ZgE op hu) ha hb hm) fun σ H Q h => op2C h
theorem Z5 (hu : X.A.units + 64 < cLine) (ha : PE X a (tP X.K ca)) (hb : PE X b (tP X.K cb)) (hm : behindInMarks op b = false := by first | exact nomark _ | with_unfolding_all rfl) :
 PT X (.Compare a [op] [b] pos) (tT X.K (ZbI (ca.bnd fun p => cb.bnd fun q => (view p).bnd fun x => (view q).bnd fun y => lift ((Za8 op x y).map fun t => .sc (.bl t))))) := PT.imp (Zkl (ZgE op hu) ha hb hm) fun σ H Q h => op2C (Zg8 h)
theorem Zqs : PE X (.Dict [] [] pos) (tM X.K (M.ret (.node (.dic []) true []))) := PE.imp ZiB fun σ H Q h => by
 obtain ⟨δ, Hs, M, d, δ', g, s, e, q⟩ := h
 have := Zf e
 cases this
 have oo : Outs X.K H Hs (fun _ => 0) _ Q := Zbu (B := fun _ => 0) (M := M) (stp0 H Hs M) (Zat g) s q
 exact fun p hp => oo.new (fun b => by simp) (fun b hb => by simp at hb) hp (vs := []) ⟨rfl, Zi⟩ (.nil _)
def Zqt : V -> V -> V -> Hp -> (Hp -> Prop) -> Prop := fun o i v H Q => ZjG o i v H Q \/ ∃ a H', o = .ref a /\ DPut H a i v H' /\ Q H'
theorem Zqu (hu : X.A.units + 64 < cLine) : PSet X Zqt := by
 intro pins s σ H o i v ov iv u Q I ro ri rv h
 rcases h with h | ⟨a, H', rfl, g, q⟩
 . exact Zi9 pins s σ H o i v ov iv u Q I ro ri rv h
 . obtain rfl : ov = Value.ref a := ro
   exact ZhQ (by omega) I g ri rv fun s' I' => ⟨H', I', q⟩
theorem Zcu (hu : X.A.units + 64 < cLine) (ho : PE X o (tVar i)) (hk : PE X k (tP X.K ck)) (he : PE X e (tM X.K c))
 (ha : ∀ v, assign (.Subscript o k pos') X.env v = (do
  let ov <- holding [v] (eval o X.env)
  let iv <- holding [v, ov] (eval k X.env)
  standAt pos'
  holding [v, ov, iv] (setItem ov iv v)
  release [v, ov, iv] []) := by intro _; rfl)
 (hs : swapsWithSole [.Subscript o k pos'] e pos.line X.env = pure false := by rfl) (hw : swappedStores [.Subscript o k pos'] e X.env = pure none := by rfl)
 (h1 : (assignEach [.Subscript o k pos'] X.env).map (·.2) = [assign (.Subscript o k pos') X.env] := by rfl) :
 PS X (.Assign [.Subscript o k pos'] e pos) (tS X.K lk (c.bnd fun d => (ZB i).bnd fun _ => (ck.bnd view).bnd fun w => (modS i (Zea w d)).bnd fun _ => M.ret .nx)) :=
 PS.imp (ZhB he (ZlS ho hk (Zqu hu) ha) hs hw h1) fun E σ H h => by
 obtain ⟨δ, Hs, M, f, δ', g, s, ea, q⟩ := h
 obtain ⟨d, δ1, e1, eb⟩ := Zb ea
 obtain ⟨p0, δ2, e2, ec⟩ := Zb eb
 obtain ⟨w, δ3, e3, ed⟩ := Zb ec
 obtain ⟨p, δ4, e4, e5⟩ := Zb e3
 obtain ⟨r0, δ5, e6, e7⟩ := Zb ed
 have := Zf e7
 cases this
 obtain ⟨kk, ds0, k', ds', hi, hf, rfl⟩ := Zcr e6
 refine ⟨δ, Hs, M, d, δ1, g, s, e1, fun v H1 Hs1 m1 M1 g1 st1 r1 s1 => ?_⟩
 obtain ⟨rfl, vo, ho⟩ := Zd0 s1 e2
 refine ⟨vo, ho, δ2, Hs1, M1, p, δ4, g1.re, s1, e4, fun y H2 Hs2 m2 M2 g2 st2 r2 s2 => ?_⟩
 obtain ⟨G2, S2, k2⟩ := Zr g g1 st1 g2 st2
 have r1' := r1.frame st2.grow k2
 obtain ⟨Hs3, M3, g3, st3, v3, s3⟩ := Zaj (B := fun b => m1 b + m2 b) (G2.re fun b => by (try dsimp only); omega) s2 r2 e5
 have r1'' := r1'.frame (H' := H2) st3.grow fun _ _ _ => rfl
 obtain ⟨p1, us, m', n2, e8, n, rl, le, fin⟩ := modL g3 s3 hi
 rw [ho] at e8
 cases e8
 have S2' : Stp H Hs M H2 Hs2 (fun b => m1 b + m2 b + M2 b) := S2.drop (fun b => by omega) G2.le
 have G2' : Good H2 Hs2 (fun b => m1 b + m2 b + M2 b) := G2.re fun b => by omega
 have z3 := Zr (m1 := fun _ => 0) g (G2'.re fun b => by simp) (S2'.drop (fun b => by simp) G2'.le) g3 st3
 have S3 : Stp H Hs M H2 Hs3 (fun b => m1 b + m2 b + M3 b) := z3.2.1.drop (fun b => by simp) z3.1.le
 have last : ∀ (ob : HO) (us' : List V) (n' : Bud), (∀ b, n' b <= m' b + m1 b) -> Za7 X.K (upd H2 p1 ob) p1 us' k' -> RepL X.K H2 Hs3 us' ds' n' -> E.nx σ (upd H2 p1 ob) := fun ob us' n' hn no rn => by
  obtain ⟨G, S, R, SS⟩ := fin ob k' us' ds' n' (fun _ => 0) .non (.sc .non) (fun b => by have := hn b; (try dsimp only); omega) no rn (.sc _ _)
  have z := Zr (m1 := fun _ => 0) g (g3.re fun b => by simp) (S3.drop (fun b => by simp) g3.le) G S
  exact q σ _ Hs3 _ (Keeps.refl _ _) (G.re fun b => by (try dsimp only); omega) ((z.2.1.drop (fun b => by simp) z.1.le).drop (fun b => by (try dsimp only); omega) G.le) SS
 unfold Zea at hf
 split at hf
 . split at hf
   . split at hf
     . rename_i hz
       simp only [Option.bind_eq_some_iff, Option.map_eq_some_iff] at hf
       obtain ⟨kk, hk, rr, hst, hf⟩ := hf
       cases hf
       cases v3
       have hy := Ze7 hk
       subst hy
       obtain ⟨us', h1, h2, h3⟩ := RepL.stor r1'' n.1 rl hst
       right
       have hl := rl.len
       have hp := DPut.k (k := kk) (v := v) n.2 (by rw [List.length_zip, n.1]; omega)
       rw [h3] at hp
       exact ⟨p1, _, rfl, hp, last _ us' _ (fun b => Nat.le_refl _) ⟨h1, Zi⟩ h2⟩
     . cases hf
   . cases hf
 . unfold setD at hf
   split at hf
   . split at hf
     . rename_i nn
       simp only [Option.map_eq_some_iff] at hf
       obtain ⟨jj, hj, hf⟩ := hf
       cases hf
       cases v3
       have hl := rl.len
       have hjj : ixN us.length nn = some jj := by rw [hl]; exact hj
       have hlt : jj < ds0.length := by
        unfold ixN' at hj
        split at hj
        . split at hj
          . cases hj; omega
          . cases hj
        . split at hj
          . cases hj; omega
          . cases hj
       exact .inl ⟨p1, us, nn, jj, rfl, rfl, n, hjj, last (.lst (us.set jj v)) (us.set jj v) _ (fun b => Nat.le_refl _) Zi (rl.set (List.getElem?_eq_getElem hlt) r1'')⟩
     . cases hf
   . cases hf
end
end T
namespace T
open PySem PySem.Spec L2
theorem Zqv (hg : Gl X x) (h : ∃ t, X.mg x = some (.int i t)) (hd : (x == ("__debug__" : Str)) = false) : PE X (.Name x p) (tM X.K (M.ret (.sc (.int i)))) := by
 obtain ⟨t, h⟩ := h
 exact ok_k (Zds hg h ⟨t, rfl⟩ hd)
end T
namespace T
open PySem PySem.Spec L2 PySem.W
noncomputable abbrev dI (xs : List Int) : List D := xs.map fun i => D.sc (.int i)
theorem Zby (x : Int) (xs : List Int) : dI (x :: xs) = .sc (.int x) :: dI xs := (rfl)
theorem Zn5 (xs ys : List Int) : dI (xs ++ ys) = dI xs ++ dI ys := List.map_append
theorem ZfL (xs : List Int) : (dI xs).length = xs.length := List.length_map _
theorem ZdO (xs : List Int) : shrL (dI xs) = dI xs := by
 induction xs with
 | nil => rfl
 | cons x xs ih => simp only [List.map_cons, shrL, shr] at ih ⊢; rw [ih]
noncomputable def cutI (xs : List Int) (lo hi : Option Int) : List Int := (xs.drop (HT.sIx xs.length 0 lo)).take (HT.sIx xs.length xs.length hi - HT.sIx xs.length 0 lo)
theorem Zjg (xs : List Int) (lo hi : Option Int) : cutD (dI xs) lo hi = dI (cutI xs lo hi) := by
 unfold cutD cutI
 simp only [List.length_map, List.map_take, List.map_drop]
noncomputable def rngI : Int -> Nat -> List Int
 | _, 0 => []
 | a, n + 1 => a :: rngI (a + 1) n
theorem Zle (a : Int) : ∀ (n : Nat) (f : Nat -> Int), (∀ k, f k = a + k) -> (List.range n).map (fun k => D.sc (.int (f k))) = dI (rngI a n) := by
 intro n
 induction n generalizing a with
 | zero => intro f _; rfl
 | succ n ih =>
  intro f hf
  (rw [List.range_succ_eq_map, List.map_cons, List.map_map])
  show _ = D.sc (.int a) :: dI (rngI (a + 1) n)
  have h0 : f 0 = a := by rw [hf]; simp
  rw [h0]
  congr 1
  exact ih (a + 1) (fun k => f (k + 1)) fun k => by rw [hf]; omega
theorem ZfM (a b : Int) : rng a b = dI (rngI a (b - a).toNat) := Zle a _ (fun k => a + k) fun k => rfl
theorem Zhp (n : Int) (h : -(2 ^ 62) <= n /\ n < 2 ^ 62) : itW .rng1 [.sc (.int n)] = some (dI (rngI 0 n.toNat)) := by
 rw [it_1 n (by simp only [okR, Bool.and_eq_true, decide_eq_true_eq]; exact h), ZfM]
 have : n - 0 = n := by omega
 rw [this]
theorem Zqw (a b : Int) (h : -(2 ^ 62) <= a /\ a < 2 ^ 62 /\ -(2 ^ 62) <= b /\ b < 2 ^ 62) : itW .rng2 [.sc (.int a), .sc (.int b)] = some (dI (rngI a (b - a).toNat)) := by
 rw [it_2 a b (by simp only [okR, Bool.and_eq_true, decide_eq_true_eq]; exact ⟨⟨h.1, h.2.1⟩, h.2.2⟩), ZfM]
theorem ixI (xs : List Int) (k : Int) (h0 : 0 <= k) (h : k < xs.length) : ((ixN' (dI xs).length k).bind fun j => (dI xs)[j]?) = some (.sc (.int (xs.getD k.toNat 0))) := by
 rw [List.length_map]
 unfold ixN'
 rw [if_pos h0, if_pos h]
 (have hk : k.toNat < xs.length := by omega)
 show (dI xs)[k.toNat]? = _
 rw [List.getElem?_map, List.getElem?_eq_getElem hk, List.getD_eq_getElem?_getD, List.getElem?_eq_getElem hk]
 rfl
noncomputable def notV : E -> Bool
 | .v _ => false
 | _ => true
theorem Zdb (h : notV e = true) : ZbO (Zp e c) lk := by
 rw [ZkO fun j z => by subst z; cases h]
 exact ZfE
section
variable {asg : D -> M Unit} {cond : M Bool} {elt : M D} {d : D} {ds acc δ δ' δ1 caps : List D} {k : Nat} {js : List Nat} {loop : M (List D)}
theorem Zdc : Zab asg cond elt (d :: ds) acc δ = ((asg d).bnd fun _ => cond.bnd fun b => if b then elt.bnd fun x => Zab asg cond elt ds (acc ++ [x]) else Zab asg cond elt ds acc) δ := (rfl)
noncomputable def Zbe (fok : Addr -> Str -> Bool) (fuel k : Nat) (tg : Tg) (cond : List E) (elt : E) (items acc : List D) : M (List D) := Zab (asgT (fun i => decide (k <= i)) tg) (tsts ⟨fun i => decide (k <= i), fok, fuel⟩ cond) (evb ⟨fun i => decide (k <= i), fok, fuel⟩ elt).1 items acc
theorem Zlf (C : Ctx) (k : Nat) (js : List Nat) (tg : Tg) (ik : IK) (es es' : List E) (a : E) : (evb C (.comp k js tg ik es es' a)).1 = ((opds C es).bnd fun ps => (Zw ps).bnd fun h => (lift (itW ik h.1)).bnd fun items => (Za1 k js (Zbe C.fok C.fuel k tg es' a items [])).bnd fun d => (ZA h.2).bnd fun _ => M.ret d) := (rfl)
theorem ZbZ (h1 : Zbs js δ = .ok (caps, δ1)) (h2 : loop (List.replicate k .hole ++ caps) = .ok (acc, δ')) (h3 : acc.length <= sizeLine) : Za1 k js loop δ = ((ZaK js (δ'.drop k)).bnd fun _ => M.ret (.node .lst true acc)) δ1 := by
 unfold Za1
 rw [Zif h1, h2]
 show ((ZaK js (δ'.drop k)).bnd fun _ => lift (newL acc)) δ1 = _
 rw [Zbx _ h3]
 rfl
end
end T
namespace T
open PySem PySem.Spec L2
theorem ZgF {K : Fg} {ca : M Op} {p : Bool} {σ : St} {H : Hp} {Q : Bool -> Hp -> Prop} (h : tT K ((((ca.bnd view).bnd fun x => M.ret (isNW p x)).bnd fun d => M.ret (.tmp d)).bnd fun q => (view q).bnd fun w => lift (truW w)) σ H Q) :
 tM K ((ca.bnd view).bnd fun x => M.ret (isNW p x)) σ H (fun x H' => ∃ k, x = .bl k /\ Q k H') := by
 obtain ⟨δ, Hs, M, b, δ', g, s, e, q⟩ := h
 obtain ⟨op, δ1, e1, e2⟩ := Zb e
 obtain ⟨d, δ2, e3, e4⟩ := Zb e1
 have := Zf e4
 cases this
 have hb : ∃ t, d = .sc (.bl t) := by
  obtain ⟨x, δ3, e5, e6⟩ := Zb e3
  have := Zf e6
  cases this
  cases x <;> exact ⟨_, rfl⟩
 obtain ⟨t, rfl⟩ := hb
 obtain ⟨w, δ4, e7, e8⟩ := Zb e2
 have := Zf (show T.M.ret (W.sc (.bl t)) δ1 = .ok (w, δ4) from e7)
 cases this
 obtain ⟨e9, rfl⟩ := ZM e8
 cases e9
 refine Zg8 (c := (ca.bnd view).bnd fun x => T.M.ret (isNW p x)) ⟨δ, Hs, M, _, _, g, s, ?_, q⟩
 unfold ZbI
 rw [Zif e3]
 rfl
section
theorem Zlg (ha : PE X a (tP X.K ca)) {j} : PT X (.Compare a [.Is] [.Constant .none j pos'] pos) (tT X.K ((((ca.bnd view).bnd fun x => M.ret (isNW true x)).bnd fun d => M.ret (.tmp d)).bnd fun q => (view q).bnd fun w => lift (truW w))) := PT.imp (ZhA (Zh9 ha)) fun σ H Q h => by
 have h2 : tM X.K ((ca.bnd view).bnd fun x => lift (some (isNW true x))) σ H _ := ZgF h
 exact op1 (r := fun x H1 Q => Q (.bl (decide (x = .non))) H1) h2 fun x H Hs w m d g h1 h2 v e o => by
  cases e
  rw [(Ze5 v).1] at o
  exact o.sc
theorem Zjh (ha : PE X a (tP X.K ca)) {j} : PT X (.Compare a [.IsNot] [.Constant .none j pos'] pos) (tT X.K ((((ca.bnd view).bnd fun x => M.ret (isNW false x)).bnd fun d => M.ret (.tmp d)).bnd fun q => (view q).bnd fun w => lift (truW w))) := PT.imp (ZhA (Zke ha)) fun σ H Q h => by
 have h2 : tM X.K ((ca.bnd view).bnd fun x => lift (some (isNW false x))) σ H _ := ZgF h
 exact op1 (r := fun x H1 Q => Q (.bl (!decide (x = .non))) H1) h2 fun x H Hs w m d g h1 h2 v e o => by
  cases e
  rw [(Ze5 v).2] at o
  exact o.sc
end
end T
namespace T
open PySem PySem.Spec L2
def NX {α : Type} (c : M α) : Prop := ∀ δ x δ', c δ ≠ .exc x δ'
section
theorem Zl (a : α) : NX (M.ret a) := fun δ x δ' h => by cases h
theorem ZF : NX (stk (α := α)) := fun δ x δ' h => by cases h
theorem Zc (h : NX c) (k : ∀ a, NX (f a)) : NX (c.bnd f) := fun δ x δ' e => by
 unfold M.bnd at e
 split at e
 . exact k _ _ _ _ e
 . rename_i y z q; exact h _ _ _ q
 . cases e
theorem Z2 (o : Option α) : NX (lift o) := by cases o <;> first | exact Zl _ | exact ZF
theorem Zdd [Decidable p] (h : NX a) (k : NX b) : NX (if p then a else b) := by split <;> assumption
end
theorem Zcv (i : Nat) : NX (ZB i) := fun δ x δ' h => by unfold ZB at h; split at h <;> cases h
theorem Zaa (h : NX c) : NX (Zp e c) := by
 cases e <;> first | exact Zcv _ | exact Zc h fun _ => Zl _
theorem ZT (p : Op) : NX (view p) := by
 cases p with
 | tmp d => cases d <;> first | exact Zl _ | exact ZF
 | late i => intro δ x δ' h; unfold view at h; dsimp only at h; split at h <;> cases h
theorem Zc8 : ∀ ps, NX (views ps)
 | [] => Zl _
 | p :: ps => Zc (ZT p) fun _ => Zc (Zc8 ps) fun _ => Zl _
theorem Ze9 (i : Nat) : NX (valV i) := fun δ x δ' h => by unfold valV at h; split at h <;> cases h
theorem Zlh (i : Nat) : NX (movV i) := fun δ x δ' h => by unfold movV at h; split at h <;> cases h
theorem Zji (l : Bool) (p : Op) : NX (takeA l p) := by
 cases p with
 | tmp d => exact Zl _
 | late i => intro δ x δ' h; unfold takeA at h; dsimp only at h; split at h <;> (first | cases h | (split at h <;> cases h))
theorem ZaY (l : Bool) : ∀ ps, NX (ZI l ps)
 | [] => Zl _
 | p :: ps => Zc (Zji l p) fun _ => Zc (ZaY l ps) fun _ => Zl _
theorem Zjj (p : Op) (d : D) : NX (giveA p d) := by
 cases p with
 | tmp d => exact Zl _
 | late i => intro δ x δ' h; unfold giveA at h; dsimp only at h; split at h <;> cases h
theorem Zde : ∀ ps ds, NX (Z0 ps ds)
 | p :: ps, d :: ds => Zc (Zjj p d) fun _ => Zde ps ds
 | [], _ => Zl _
 | _ :: _, [] => Zl _
theorem ZfN (f : FI) (ps : List Op) : NX (ZaI f ps) := Zc (ZaY _ _) fun ds => by
 cases f.run ds with
 | ok r => exact Zc (Zde _ _) fun _ => Zl _
 | exc x y => exact ZF
 | stuck => exact ZF
theorem Zli (A : Addr) (m : Str) (p : Op) : NX (chkI A m p) := by
 cases p with
 | late i => intro δ x δ' h; unfold chkI at h; dsimp only at h; split at h <;> (first | cases h | (split at h <;> cases h))
 | tmp d =>
  cases d with
  | node k o ds =>
   cases k with
   | ins B fs => intro δ x δ' h; unfold chkI at h; dsimp only at h; split at h <;> cases h
   | _ => exact ZF
  | _ => exact ZF
theorem Zlj (C : Addr) (f : FI) (ps : List Op) : NX (newF C f ps) := Zc (ZaY _ _) fun ds => by
 cases f.run (.node (.ins C []) true [] :: ds) with
 | ok r =>
  obtain ⟨d, l⟩ := r
  cases d with
  | sc v =>
   cases v with
   | non =>
    cases l with
    | nil => exact ZF
    | cons d ds => exact Zc (Zde _ _) fun _ => Zl _
   | _ => exact ZF
  | _ => exact ZF
 | exc x y => exact ZF
 | stuck => exact ZF
theorem Zd8 (lk : Nat -> Bool) (i : Nat) (d : D) : NX (asgN lk i d) := fun δ x δ' h => by unfold asgN at h; split at h <;> cases h
theorem Zc9 (lk : Nat -> Bool) : ∀ is ds, NX (Zbb lk is ds)
 | [], [] => Zl _
 | i :: is, d :: ds => Zc (Zd8 lk i d) fun _ => Zc9 lk is ds
 | [], _ :: _ => ZF
 | _ :: _, [] => ZF
theorem Zlk (lk : Nat -> Bool) (t : Tg) (d : D) : NX (asgT lk t d) := by
 cases t with
 | name i => exact Zd8 _ _ _
 | tup is =>
  cases d with
  | node k o ds => cases k <;> first | exact Zc9 _ _ _ | exact ZF
  | _ => exact ZF
theorem ZbP (i : Nat) (f : Kd -> List D -> Option (D × Kd × List D)) : NX (modS i f) := fun δ x δ' h => by
 unfold modS at h
 split at h
 . split at h <;> cases h
 . cases h
theorem Zll (i : Nat) (ds : List D) : NX (appM i ds) := by
 unfold appM
 split
 . exact ZbP _ _
 . exact ZF
theorem ZgG (i : Nat) : NX (chkL i) := fun δ x δ' h => by unfold chkL at h; split at h <;> cases h
theorem Zjk (p : Op) : NX (holdV p) := by
 cases p with
 | tmp d => cases d <;> first | exact Zl _ | exact ZF
 | late i => intro δ x δ' h; unfold holdV at h; dsimp only at h; split at h <;> cases h
theorem Zdf : ∀ ps, NX (Zw ps)
 | [] => Zl _
 | p :: ps => Zc (Zjk p) fun _ => Zc (Zdf ps) fun _ => Zl _
theorem ZfO : ∀ h, NX (ZA h)
 | [] => Zl _
 | (i, d) :: r => fun δ x δ' e => ZfO r _ _ _ e
theorem Zei : ∀ js, NX (Zbs js)
 | [] => Zl _
 | j :: js => fun δ x δ' e => by
  unfold Zbs at e
  split at e
  . exact Zc (Zei js) (fun _ => Zl _) _ _ _ e
  . cases e
theorem Zej : ∀ js ds, NX (ZaK js ds)
 | j :: js, d :: ds => fun δ x δ' e => Zej js ds _ _ _ e
 | [], _ => Zl _
 | _ :: _, [] => Zl _
theorem Zjl (k : Nat) (js : List Nat) (l : M (List D)) : NX (Za1 k js l) := Zc (Zei js) fun caps δ x δ' e => by
 split at e
 . exact Zc (Zej _ _) (fun _ => Z2 _) _ _ _ e
 . cases e
 . cases e
theorem ZfP (h : NX c) : NX (ZaS e c) := by
 unfold ZaS
 split
 . exact Zl _
 . exact Zc (Zc h fun p => ZT p) fun _ => Z2 _
theorem Zlm (h : NX b) (w : W) : NX (andM b w) := by
 unfold andM
 split
 . exact h
 . exact Zl _
 . exact ZF
theorem Zn6 (h : NX b) (w : W) : NX (T.orM b w) := by
 unfold T.orM
 split
 . exact h
 . exact Zl _
 . exact ZF
theorem ZfQ (h : NX c) : NX (ZbI c) := Zc h fun _ => Z2 _
theorem Z3 (h : NX c) : NX (tdef e c) := Zc (Zaa h) fun p => Zc (ZT p) fun _ => Z2 _
theorem Zay (h : NX c) : NX (vdef e c) := Zc (Zaa h) fun p => ZT p
theorem Zln (lk : Nat -> Bool) (is : List Nat) (w : W) : NX (unpM lk is w) := by
 unfold unpM
 split
 . exact Zc9 _ _ _
 . exact Zc9 _ _ _
 . exact ZF
mutual
theorem Zs (C : Ctx) : ∀ e : E, NX (evb C e).1 /\ NX (evb C e).2
 | .k v => ⟨Zl _, Z3 (e := .k v) (c := M.ret (D.sc v)) (Zl _)⟩
 | .g d => ⟨Zl _, Z3 (e := .g d) (Zl d)⟩
 | .v i => ⟨Ze9 i, Z3 (Ze9 i)⟩
 | .bin op a b => by
  have h : NX (evb C (.bin op a b)).1 := Zc (Zaa (Zs C a).1) fun p => Zc (Zaa (Zs C b).1) fun q => Zc (ZT p) fun x => Zc (ZT q) fun y => Z2 _
  exact ⟨h, Z3 h⟩
 | .neg a => by
  have h : NX (evb C (.neg a)).1 := Zc (Zay (Zs C a).1) fun x => Z2 _
  exact ⟨h, Z3 h⟩
 | .cmp op a b => by
  have h : NX (evb C (.cmp op a b)).1 := Zc (Zaa (Zs C a).1) fun p => Zc (Zaa (Zs C b).1) fun q => Zc (ZT p) fun x => Zc (ZT q) fun y => Z2 _
  exact ⟨h, ZfQ h⟩
 | .chain op op' a b e => by
  have h : NX (evb C (.chain op op' a b e)).1 := Zc (Zaa (Zs C a).1) fun p => Zc (Zaa (Zs C b).1) fun q => Zc (ZT p) fun x => Zc (ZT q) fun y => Zc (Z2 _) fun t =>
   Zdd (Zc (Zaa (Zs C e).1) fun r => Zc (ZT q) fun y => Zc (ZT r) fun z => Z2 _) (Zl _)
  exact ⟨h, ZfQ h⟩
 | .isN p a => by
  have h : NX (evb C (.isN p a)).1 := Zc (Zay (Zs C a).1) fun x => Zl _
  exact ⟨h, Z3 h⟩
 | .isB c p a => by
  have h : NX (evb C (.isB c p a)).1 := Zc (Zay (Zs C a).1) fun x => Z2 _
  exact ⟨h, Z3 h⟩
 | .nt a => ⟨Zc (Zay (Zs C a).1) fun w => Z2 _, Zc (Zs C a).2 fun b => Zl _⟩
 | .and a b => ⟨Zc (Zay (Zs C a).1) (Zlm (Zs C b).1), Zc (Zs C a).2 fun t => Zdd (Zs C b).2 (Zl _)⟩
 | .or a b => ⟨Zc (Zay (Zs C a).1) (Zn6 (Zs C b).1), Zc (Zs C a).2 fun t => Zdd (Zl _) (Zs C b).2⟩
 | .ife c a b => by
  have h : NX (evb C (.ife c a b)).1 := Zc (Zs C c).2 fun t => Zdd (Zs C a).1 (Zs C b).1
  exact ⟨h, Z3 h⟩
 | .ix a i => by
  have h : NX (evb C (.ix a i)).1 := Zc (Zaa (Zs C a).1) fun p => Zc (Zaa (Zs C i).1) fun q => Zc (ZT p) fun x => Zc (ZT q) fun y => Z2 _
  exact ⟨h, Z3 h⟩
 | .sl a lo hi => by
  have h : NX (evb C (.sl a lo hi)).1 := Zc (Zaa (Zs C a).1) fun p => Zc (ZfP (Zaa (Zs C lo).1)) fun q => Zc (ZfP (Zaa (Zs C hi).1)) fun x => Zc (ZT p) fun y => Z2 _
  exact ⟨h, Z3 h⟩
 | .fld a f => by
  have h : NX (evb C (.fld a f)).1 := Zc (Zay (Zs C a).1) fun x => Z2 _
  exact ⟨h, Z3 h⟩
 | .lst es => by
  have h : NX (evb C (.lst es)).1 := Zc (Zek C es) fun x => Z2 _
  exact ⟨h, Z3 h⟩
 | .tup es => by
  have h : NX (evb C (.tup es)).1 := Zc (Zek C es) fun x => Z2 _
  exact ⟨h, Z3 h⟩
 | .kl vs => ⟨Z2 _, Z3 (Z2 _)⟩
 | .kt vs => ⟨Z2 _, Z3 (Z2 _)⟩
 | .dct0 => ⟨Zl _, Z3 (e := .dct0) (c := M.ret (D.node (.dic []) true [])) (Zl _)⟩
 | .call f es => by
  have h : NX (evb C (.call f es)).1 := Zc (ZN C es) fun x => ZfN _ _
  exact ⟨h, Z3 h⟩
 | .bf f es => by
  have h : NX (evb C (.bf f es)).1 := Zc (ZN C es) fun x => Zc (Zc8 _) fun _ => Z2 _
  exact ⟨h, Z3 h⟩
 | .bm m o es => by
  have h : NX (evb C (.bm m o es)).1 := Zc (Zay (Zs C o).1) fun w => Zc (Z2 _) fun z => Zc (ZN C es) fun x => Zc (Zc8 _) fun _ => Z2 _
  exact ⟨h, Z3 h⟩
 | .mut m i ps es => by
  have h1 : NX ((chkL i).bnd fun _ => (evs C es).bnd fun ds => appM i ds) := Zc (ZgG i) fun _ => Zc (Zek C es) fun _ => Zll _ _
  have h2 : ∀ m, NX ((chkL i).bnd fun _ => (opds C es).bnd fun ps => (views ps).bnd fun ws => modS i (mutD m ws)) := fun m => Zc (ZgG i) fun _ => Zc (ZN C es) fun _ => Zc (Zc8 _) fun _ => ZbP _ _
  have h : NX (evb C (.mut m i ps es)).1 := by
   cases ps with
   | nil => cases m <;> first | exact h1 | exact h2 _
   | cons p ps => cases m <;> exact ZF
  exact ⟨h, Z3 h⟩
 | .meth A m f o es => by
  have h : NX (evb C (.meth A m f o es)).1 := Zc (Zaa (Zs C o).1) fun p => Zc (Zli _ _ _) fun _ => Zc (ZN C es) fun x => ZfN _ _
  exact ⟨h, Z3 h⟩
 | .new A f es => by
  have h : NX (evb C (.new A f es)).1 := Zc (ZN C es) fun x => Zlj _ _ _
  exact ⟨h, Z3 h⟩
 | .comp k js tg ik ies cond elt => by
  have h : NX (evb C (.comp k js tg ik ies cond elt)).1 := Zc (ZN C ies) fun ps => Zc (Zdf _) fun h => Zc (Z2 _) fun items => Zc (Zjl _ _ _) fun d => Zc (ZfO _) fun _ => Zl _
  exact ⟨h, Z3 h⟩
 | .fs es => by
  have h : NX (evb C (.fs es)).1 := Zih C es _
  exact ⟨h, Z3 h⟩
 | .dct1 k e => by
  have h : NX (evb C (.dct1 k e)).1 := Zc (Zs C e).1 fun d => Zl _
  exact ⟨h, Z3 h⟩
theorem Zih (C : Ctx) : ∀ (es : List E) (acc : Str), NX (fss C es acc)
 | [], acc => Zl _
 | e :: es, acc => Zc (Zay (Zs C e).1) fun w => Zc (Z2 _) fun acc' => Zih C es acc'
theorem ZN (C : Ctx) : ∀ es : List E, NX (opds C es)
 | [] => Zl _
 | e :: es => Zc (Zaa (Zs C e).1) fun p => Zc (ZN C es) fun ps => Zl _
theorem Zek (C : Ctx) : ∀ es : List E, NX (evs C es)
 | [] => Zl _
 | e :: es => Zc (Zs C e).1 fun p => Zc (Zek C es) fun ps => Zl _
end
theorem Zlo (C : Ctx) (e : E) : NX (retV C e) := by
 unfold retV
 split
 . exact Zdd (Ze9 _) (Zlh _)
 . exact (Zs C _).1
noncomputable def leaf : S -> Bool
 | .asg _ _ => true | .unp _ _ => true | .sub _ [] _ _ => true | .attr _ _ _ => true | .attrX _ _ _ => true | .ex _ => true | .ret _ => true | .retN => true | .pass => true | .brk => true | .cnt => true
 | _ => false
theorem Zlp (C : Ctx) (s : S) (h : leaf s = true) : NX (ex C s) := by
 cases s with
 | asg i e => exact Zc (Zs C e).1 fun d => Zc (Zd8 _ _ _) fun _ => Zl _
 | unp is e => exact Zc (Zay (Zs C e).1) fun w => Zc (Zln _ _ _) fun _ => Zl _
 | sub i ps x e =>
  cases ps with
  | nil => exact Zc (Zs C e).1 fun d => Zc (Zcv i) fun _ => Zc (Zay (Zs C x).1) fun w => Zc (ZbP _ _) fun _ => Zl _
  | cons p ps => cases h
 | attr i f e => exact Zc (Zs C e).1 fun d => Zc (Zcv i) fun _ => Zc (ZbP _ _) fun _ => Zl _
 | attrX i f e => exact Zc (Zs C e).1 fun d => Zc (Zcv i) fun _ => Zc (ZbP _ _) fun _ => Zl _
 | ex e => exact Zc (Zs C e).1 fun _ => Zl _
 | ret e => exact Zc (Zlo C e) fun _ => Zl _
 | retN => exact Zl _
 | pass => exact Zl _
 | brk => exact Zl _
 | cnt => exact Zl _
 | _ => cases h
end T
namespace T
open PySem PySem.Spec L2
def Zd9 (K : Fg) (lk : Nat -> Bool) (xc : Addr -> St -> Hp -> Prop) (σ : St) (H Hs : Hp) (M : Bud) (x : D) (δ' : List D) : Prop :=
 ∀ (ea : Addr) (σ' : St) (H' Hs' : Hp) (m M' : Bud), Keeps lk σ σ' -> Good H' Hs' (fun b => m b + M' b) -> Stp H Hs M H' Hs' (fun b => m b + M' b) -> Rep K H' Hs' (.ref ea) x m -> RepS K H' Hs' σ' δ' M' -> xc ea σ' H'
def Zao (K : Fg) (lk : Nat -> Bool) (E : EndX) (σ : St) (H Hs : Hp) (M : Bud) : Rs (Fl × List D) -> Prop
 | .ok (f, δ') => Post K lk E.toEnds σ H Hs M f δ'
 | .exc x δ' => Zd9 K lk E.xc σ H Hs M x δ'
 | .stuck => False
def tX (K : Fg) (lk : Nat -> Bool) (c : M Fl) : TX := fun E σ H => ∃ (δ : List D) (Hs : Hp) (M : Bud), Good H Hs M /\ RepS K H Hs σ δ M /\ Zao K lk E σ H Hs M (c δ)
section
variable {K : Fg} {H H' Hs H0 Hs0 : Hp} {M M0 : Bud}
theorem Good.up (g : Good H Hs M) (k : Same H H') : Good H' Hs M := ⟨fun b o e => k b o (g.sub b o e), g.le, g.ne, fun b h => by
 have := g.has b h
 cases e : H b with
 | none => exact absurd e this
 | some o => rw [k b o e]; simp⟩
theorem Stp.up (s : Stp H0 Hs0 M0 H Hs M) (k : Same H H') : Stp H0 Hs0 M0 H' Hs M := ⟨fun b o e z => k b o (s.keep b o e z), s.own, s.grow, s.shr, fun b h => by
 have := s.stay b h
 cases e : H b with
 | none => exact absurd e this
 | some o => rw [k b o e]; simp⟩
theorem Zbz (k : Same H H') : ∀ b, H b ≠ none -> H' b = H b := fun b h => by
 cases e : H b with
 | none => exact absurd e h
 | some o => exact k b o e
theorem Zd9.ahead {lk : Nat -> Bool} {xc : Addr -> St -> Hp -> Prop} {σ σ1 : St} {H1 Hs1 : Hp} {M1 : Bud} {x : D} {δ' : List D} (k : Keeps lk σ σ1) (g : Good H Hs M) (g1 : Good H1 Hs1 M1) (st : Stp H Hs M H1 Hs1 M1) (h : Zd9 K lk xc σ H Hs M x δ') : Zd9 K lk xc σ1 H1 Hs1 M1 x δ' :=
 fun ea σ' H' Hs' m M' k' g' st' rv r => h ea σ' H' Hs' m M' (k.trans k') g' (by
  have z := Zr (m1 := fun _ => 0) g (g1.re fun b => by simp) (st.drop (fun b => by simp) g1.le) g' st'
  exact z.2.1.drop (fun b => by simp) z.1.le) rv r
theorem Zao.ahead {lk : Nat -> Bool} {E : EndX} {σ σ1 : St} {H1 Hs1 : Hp} {M1 : Bud} {r : Rs (Fl × List D)} (k : Keeps lk σ σ1) (g : Good H Hs M) (g1 : Good H1 Hs1 M1) (st : Stp H Hs M H1 Hs1 M1) (h : Zao K lk E σ H Hs M r) : Zao K lk E σ1 H1 Hs1 M1 r := by
 cases r with
 | ok z => exact Post.ahead k g g1 st h
 | exc x δ' => exact Zd9.ahead k g g1 st h
 | stuck => exact h
end
section
variable {X : Cx} {e a b c o : Expr} {st : Stmt} {rest : List Stmt} {pos pos' : Pos} {lk : Nat -> Bool} {i : Nat} {x : Str}
theorem Zii {c : M Fl} (h : PS X st (tS X.K lk c)) (n : NX c) : PX X st (tX X.K lk c) := PX.imp (PS.x h) fun E σ H z0 => by
 obtain ⟨δ, Hs, M, g, s, q⟩ := z0
 cases e : c δ with
 | ok z => rw [e] at q; exact ⟨δ, Hs, M, z.1, z.2, g, s, e, q⟩
 | exc x δ' => exact absurd e (n _ _ _)
 | stuck => rw [e] at q; exact q.elim
theorem Zar {C : Ctx} {s : S} (h : PS X st (tS X.K lk (ex C s))) (n : leaf s = true := by rfl) : PX X st (tX X.K lk (ex C s)) := Zii h (Zlp C s n)
theorem ZC : PXs X [] (tX X.K lk (M.ret .nx)) := PXs.imp Zk1 fun E σ H ⟨δ, Hs, M, g, s, q⟩ => q σ H Hs M (Keeps.refl _ _) g (Stp.refl _ _ _) s
theorem Zy {c r : M Fl} (h1 : PX X st (tX X.K lk c)) (h2 : PXs X rest (tX X.K lk r)) : PXs X (st :: rest) (tX X.K lk (seqL c r)) := PXs.imp (ZiG h1 h2) fun E σ H z0 => by
 obtain ⟨δ, Hs, M, g, s, q⟩ := z0
 refine ⟨δ, Hs, M, g, s, ?_⟩
 unfold seqL T.M.bnd at q
 cases e : c δ with
 | ok z =>
  obtain ⟨f, δ1⟩ := z
  rw [e] at q
  cases f with
  | nx => exact fun σ' H' Hs' M' k g' st' r => ⟨δ1, Hs', M', g', r, Zao.ahead k g g' st' q⟩
  | bk => exact q
  | ct => exact q
  | rt d => exact q
 | exc x δ' => rw [e] at q; exact q
 | stuck => rw [e] at q; exact q
theorem Zlq (n : NX cc) (hc : PT X c (tT X.K cc)) (ha : PXs X A (tX X.K lk ca)) (hb : PXs X B (tX X.K lk cb)) : PX X (.If c A B pos) (tX X.K lk (cc.bnd fun t => if t then ca else cb)) := PX.imp (Zo1 hc ha hb) fun E σ H z0 => by
 obtain ⟨δ, Hs, M, g, s, q⟩ := z0
 unfold T.M.bnd at q
 cases e : cc δ with
 | ok z =>
  obtain ⟨t, δ1⟩ := z
  rw [e] at q
  refine ⟨δ, Hs, M, t, δ1, g, s, e, fun H' Hs' M' g' st' s' => ?_⟩
  cases t with
  | true => exact ⟨δ1, Hs', M', g', s', Zao.ahead (Keeps.refl _ _) g g' st' q⟩
  | false => exact ⟨δ1, Hs', M', g', s', Zao.ahead (Keeps.refl _ _) g g' st' q⟩
 | exc x δ' => exact absurd e (n _ _ _)
 | stuck => rw [e] at q; exact q.elim
theorem Zdg (hc : PT X c (tT X.K (evb C ce).2)) (ha : PXs X A (tX X.K lk (exs C sa))) (hb : PXs X B (tX X.K lk (exs C sb))) : PX X (.If c A B pos) (tX X.K lk (ex C (.iff ce sa sb))) := Zlq (Zs C ce).2 hc ha hb
end
end T
namespace T
open PySem PySem.Spec L2
section
theorem Zb9 : ∀ (h : List (Nat × D)) (δ : List D), ∃ δ', ZA h δ = .ok ((), δ')
 | [], δ => ⟨δ, rfl⟩
 | (i, d) :: r, δ => Zb9 r (δ.set i d)
theorem ZfR (nx : NX cs) (F : Fr0 X X.A) (hx : ∀ e s, ¬ X.xe e s) (hc : X.calm = true) (hl : LkLe lk lk') (hw : HWs cs lk')
 (hi : PI X tg iter (tI X.K ik cs)) (hg : PG X tg (gT X.K tgt)) (hb : PXs X body (tX X.K lk' cb)) (hs : ∀ x, foldedSetIterable iter X.env x = pure x := by intro _; rfl) :
 PX X (.For tg iter body [] pos) (tX X.K lk (cs.bnd fun ps => (Zw ps).bnd fun h => (lift (itW ik h.1)).bnd fun items δ => finB h.2 (forL (asgT lk' tgt) cb items δ))) :=
 PX.imp (Zml F hx hc hi hg hb hs) fun E σ H z0 => by
 obtain ⟨δ, Hs, M, g, s, q⟩ := z0
 have nx2 : NX (cs.bnd Zw) := Zc nx fun p => Zdf p
 have hbb : (cs.bnd fun ps => (Zw ps).bnd fun h => (lift (itW ik h.1)).bnd fun items δ => finB h.2 (forL (asgT lk' tgt) cb items δ)) δ = ((cs.bnd Zw).bnd fun h => (lift (itW ik h.1)).bnd fun items δ => finB h.2 (forL (asgT lk' tgt) cb items δ)) δ := by
  unfold T.M.bnd
  cases cs δ <;> rfl
 rw [hbb] at q
 cases e12 : (cs.bnd Zw) δ with
 | exc x δ' => exact absurd e12 (nx2 _ _ _)
 | stuck => unfold T.M.bnd at e12 q; rw [e12] at q; exact q.elim
 | ok z =>
  obtain ⟨hh, δ3⟩ := z
  have q : Zao X.K lk E σ H Hs M (((lift (itW ik hh.1)).bnd fun items δ => finB hh.2 (forL (asgT lk' tgt) cb items δ)) δ3) := by
   have : ((cs.bnd Zw).bnd fun h => (lift (itW ik h.1)).bnd fun items δ => finB h.2 (forL (asgT lk' tgt) cb items δ)) δ = ((lift (itW ik hh.1)).bnd fun items δ => finB hh.2 (forL (asgT lk' tgt) cb items δ)) δ3 := by
    show T.M.bnd (cs.bnd Zw) _ δ = _
    unfold T.M.bnd at e12 ⊢
    rw [e12]
   rw [this] at q
   exact q
  cases e3' : itW ik hh.1 with
  | none => rw [e3'] at q; exact q.elim
  | some items =>
   rw [e3'] at q
   have q : Zao X.K lk E σ H Hs M (finB hh.2 (forL (asgT lk' tgt) cb items δ3)) := q
   have locked := hw _ _ _ e12
   refine ⟨δ, Hs, M, hh, items, δ3, g, s, e12, e3', fun J Pp H1 Hs1 B M1 g1 st1 s1 held wk pp => ?_⟩
   have kl : ∀ {σ1 σ2 : St}, Keeps lk' σ1 σ2 -> Keeps lk σ1 σ2 := fun k i h => k i (hl i h)
   refine ⟨fun i m σ2 H2 => m = items.length - i /\ i <= items.length /\ Keeps lk' σ σ2 /\ ∃ (δ2 : List D) (Hs2 : Hp) (M2 : Bud), Good H2 Hs2 (fun b => B b + M2 b) /\ Stp H Hs M H2 Hs2 (fun b => B b + M2 b) /\ RepS X.K H2 Hs2 σ2 δ2 M2 /\ Held X.K H2 Hs2 σ2 hh.2 B /\ Pp H2 Hs2 /\ Zao X.K lk E σ H Hs M (finB hh.2 (forL (asgT lk' tgt) cb (items.drop i) δ2)),
    ⟨items.length, by simp, Nat.zero_le _, Keeps.refl _ _, δ3, Hs1, M1, g1, st1, s1, held, pp, by rw [List.drop_zero]; exact q⟩, ?_⟩
   rintro i m σ2 H2 ⟨rfl, hle, k2, δ2, Hs2, M2, g2, st2, s2, held2, pp2, q7⟩
   by_cases hlt : i < items.length
   . right
     have hd : items[i]? = some (items[i]'(by omega)) := List.getElem?_eq_getElem (by omega)
     have hdrop : items.drop i = items[i]'(by omega) :: items.drop (i + 1) := List.drop_eq_getElem_cons (by omega)
     rw [hdrop, Zcf] at q7
     refine ⟨wk.go g2.sub pp2 hlt, fun σ3 H3 => Keeps lk' σ σ3 /\ ∃ (δ2 : List D) (Hs2 : Hp) (M2 : Bud), Good H3 Hs2 (fun b => B b + M2 b) /\ Stp H Hs M H3 Hs2 (fun b => B b + M2 b) /\ RepS X.K H3 Hs2 σ3 δ2 M2 /\ Held X.K H3 Hs2 σ3 hh.2 B /\ Pp H3 Hs2 /\ Zao X.K lk E σ H Hs M (finB hh.2 (forL (asgT lk' tgt) cb (items.drop (i + 1)) δ2)),
      fun σ3 H3 ⟨k3, z⟩ => ⟨items.length - (i + 1), by omega, rfl, hlt, k3, z⟩, fun x H' y => ?_⟩
     obtain ⟨Hs3, gr, rv⟩ := wk.yld g2.sub pp2 hd y
     obtain ⟨sm, fr, _⟩ := gr.same g2.sub
     have pp2 := wk.stay pp2 sm fun b _ n => fr b n
     have s2 := RepS.frame sm (fun b _ n => fr b n) s2
     have held2 := held2.frame sm fun b _ n => fr b n
     have st2 := gr.stp g2 st2
     have g2 := gr.good g2
     clear gr sm fr y
     generalize Hs3 = Hs2 at *
     cases e8 : asgT lk' tgt (items[i]'(by omega)) δ2 with
     | exc x δ' => exact absurd e8 (Zlk _ _ _ _ _ _)
     | stuck => rw [show ((asgT lk' tgt (items[i]'(by omega))).bnd fun _ => cb) δ2 = .stuck by show T.M.bnd _ _ δ2 = _; unfold T.M.bnd; rw [e8]] at q7; exact q7.elim
     | ok z =>
      obtain ⟨u1, δ5'⟩ := z
      rw [show ((asgT lk' tgt (items[i]'(by omega))).bnd fun _ => cb) δ2 = cb δ5' by show T.M.bnd _ _ δ2 = _; unfold T.M.bnd; rw [e8]] at q7
      refine Ze3 (Hs := Hs2) g2.sub e8 rv s2 fun σ3 k3 s3 => ?_
      refine ⟨δ5', Hs2, M2, g2.re, s3, ?_⟩
      have held3 : Held X.K H' Hs2 σ3 hh.2 B := held2.keeps k3 locked
      have nxt : ∀ {σ4 : St} {H4 Hs4 : Hp} {M4 : Bud}, Keeps lk' σ3 σ4 -> Good H4 Hs4 M4 -> Stp H' Hs2 M2 H4 Hs4 M4 ->
       Keeps lk' σ σ4 /\ Good H4 Hs4 (fun b => B b + M4 b) /\ Stp H Hs M H4 Hs4 (fun b => B b + M4 b) /\ Held X.K H4 Hs4 σ4 hh.2 B /\ Pp H4 Hs4 := fun {σ4 H4 Hs4 M4} k4 g4 st4 => by
       obtain ⟨G, S, kk⟩ := Zr g g2 st2 g4 st4
       exact ⟨k2.trans (k3.trans k4), G, S, (held3.keeps k4 locked).frame st4.grow kk, wk.stay pp2 st4.grow kk⟩
      cases e10 : cb δ5' with
      | stuck => rw [e10] at q7; exact q7.elim
      | exc x δ6 =>
       rw [e10] at q7
       obtain ⟨δ7, e11⟩ := Zb9 hh.2 δ6
       have q8 : Zd9 X.K lk E.xc σ H Hs M x δ7 := by
        have : Zao X.K lk E σ H Hs M (match ZA hh.2 δ6 with | .ok (_, δ') => .exc x δ' | _ => .stuck) := q7
        rw [e11] at this
        exact this
       refine fun ea σ4 H4 Hs4 m4 M4 k4 g4 st4 rd s4 => ?_
       obtain ⟨a1, a2, a3, a4, a6⟩ := nxt k4 g4 st4
       exact q8 ea σ4 H4 Hs4 m4 (fun b => B b + M4 b) (kl a1) (a2.re fun b => by (try dsimp only); omega) (a3.drop (fun b => by (try dsimp only); omega) a2.le) rd (ZaC e11 a4 s4)
      | ok z =>
       obtain ⟨fl, δ6⟩ := z
       rw [e10] at q7
       cases fl with
       | nx =>
        refine fun σ4 H4 Hs4 M4 k4 g4 st4 s4 => ?_
        obtain ⟨a1, a2, a3, a4, a6⟩ := nxt k4 g4 st4
        exact ⟨a1, δ6, Hs4, M4, a2, a3, s4, a4, a6, q7⟩
       | ct =>
        refine fun σ4 H4 Hs4 M4 k4 g4 st4 s4 => ?_
        obtain ⟨a1, a2, a3, a4, a6⟩ := nxt k4 g4 st4
        exact ⟨a1, δ6, Hs4, M4, a2, a3, s4, a4, a6, q7⟩
       | bk =>
        obtain ⟨δ7, e11⟩ := Zb9 hh.2 δ6
        have q8 : Post X.K lk E.toEnds σ H Hs M .nx δ7 := by
         have : Zao X.K lk E σ H Hs M (((ZA hh.2).bnd fun _ => T.M.ret Fl.nx) δ6) := q7
         rw [show ((ZA hh.2).bnd fun _ => T.M.ret Fl.nx) δ6 = .ok (.nx, δ7) by show T.M.bnd _ _ δ6 = _; unfold T.M.bnd; rw [e11]; rfl] at this
         exact this
        refine fun σ4 H4 Hs4 M4 k4 g4 st4 s4 => ?_
        obtain ⟨a1, a2, a3, a4, a6⟩ := nxt k4 g4 st4
        exact q8 σ4 H4 Hs4 _ (kl a1) a2 a3 (ZaC e11 a4 s4)
       | rt d =>
        obtain ⟨δ7, e11⟩ := Zb9 hh.2 δ6
        have q8 : Post X.K lk E.toEnds σ H Hs M (.rt d) δ7 := by
         have : Zao X.K lk E σ H Hs M (((ZA hh.2).bnd fun _ => T.M.ret (Fl.rt d)) δ6) := q7
         rw [show ((ZA hh.2).bnd fun _ => T.M.ret (Fl.rt d)) δ6 = .ok (.rt d, δ7) by show T.M.bnd _ _ δ6 = _; unfold T.M.bnd; rw [e11]; rfl] at this
         exact this
        refine fun v σ4 H4 Hs4 m4 M4 k4 g4 st4 rd s4 => ?_
        obtain ⟨a1, a2, a3, a4, a6⟩ := nxt k4 g4 st4
        exact q8 v σ4 H4 Hs4 m4 (fun b => B b + M4 b) (kl a1) (a2.re fun b => by (try dsimp only); omega) (a3.drop (fun b => by (try dsimp only); omega) a2.le) rd (ZaC e11 a4 s4)
   . left
     have hi : i = items.length := by omega
     have hd0 : items.drop i = [] := by rw [hi]; simp
     rw [hd0, Zp5] at q7
     obtain ⟨δ7, e11⟩ := Zb9 hh.2 δ2
     have q8 : Post X.K lk E.toEnds σ H Hs M .nx δ7 := by
      have : Zao X.K lk E σ H Hs M (((ZA hh.2).bnd fun _ => T.M.ret Fl.nx) δ2) := q7
      rw [show ((ZA hh.2).bnd fun _ => T.M.ret Fl.nx) δ2 = .ok (.nx, δ7) by show T.M.bnd _ _ δ2 = _; unfold T.M.bnd; rw [e11]; rfl] at this
      exact this
     exact ⟨wk.stop g2.sub pp2 (by omega), q8 σ2 H2 Hs2 _ (kl k2) g2 st2 (ZaC e11 held2 s2)⟩
end
def spX (K : Fg) (F : List D -> Rs (D × List D)) : Sp := fun vs H Q E => ∃ (ds : List D) (Hs : Hp) (m : Bud), Good H Hs m /\ RepL K H Hs vs ds m /\ match F ds with
 | .ok (d, ds') => ∀ (v : V) (H' Hs' : Hp) (m1 m' : Bud), Good H' Hs' (fun b => m1 b + m' b) -> Stp H Hs m H' Hs' (fun b => m1 b + m' b) -> Rep K H' Hs' v d m1 -> RepL K H' Hs' vs ds' m' -> Q v H'
 | .exc x ds' => ∀ (ea : Addr) (H' Hs' : Hp) (m1 m' : Bud), Good H' Hs' (fun b => m1 b + m' b) -> Stp H Hs m H' Hs' (fun b => m1 b + m' b) -> Rep K H' Hs' (.ref ea) x m1 -> RepL K H' Hs' vs ds' m' -> E (.ref ea) none H'
 | .stuck => False
section
theorem ZgH (F : Fun K x qual st f fd) (Sc : FnScope N ps (Zq st)) (hn : ps.length = n) (hN : N.length = nN)
 (hb : ∀ (cdv : Value) (A : Around) (outer : List Env) (s : Shared) (H : Hp) (E : XK), Fr0 (cxOf CX0 P w K mg base N qual (Zq st) f cdv A outer s H E).nox (A.deeper (PyProof.Rows.envOfC qual (Zq st) s.heap.objs.size f cdv)) -> Room k (A.deeper (PyProof.Rows.envOfC qual (Zq st) s.heap.objs.size f cdv)) ->
  PXs (cxOf CX0 P w K mg base N qual (Zq st) f cdv A outer s H E).nox (ZS st) (tX K (fun i => decide (i < n)) (exs { C with lock := fun i => decide (i < n) } body))) :
 FnOk P w K mg base (CXx P w) (k + 1) f fd ps (spX K (Zu C n nN body)) := by
 subst hn hN
 obtain ⟨oc, od, kV, doc, pm, an, cdv, ct, osl, rfl, lk, hcd⟩ := F.ex
 refine Zmm lk hcd Sc (fun vs H Q E h => ?_) fun A outer s H vs Q E hr h => ⟨_, fun hfr => hb cdv A outer s H E ⟨rfl, rfl, Around.frames_deeper hfr⟩ hr, ?_⟩
 . obtain ⟨ds, Hs, m, g, r, q⟩ := h
   unfold Zu at q
   rw [r.len]
   split at q
   . rename_i hl
     split at hl
     . assumption
     . cases hl
   . rename_i hl
     split at hl
     . assumption
     . cases hl
   . exact q.elim
 . obtain ⟨ds, Hs, m, g, r, q⟩ := h
   unfold Zu at q
   by_cases hl : ds.length = ps.length
   . rw [if_pos hl] at q
     have hv : vs.length = ps.length := by rw [r.len]; exact hl
     have hr0 := ZeV (N := N) r
     rw [hl] at hr0
     refine ⟨_, Hs, m, g, hr0, ?_⟩
     have back : ∀ {δ' : List D} {σ' : St} {H' Hs' : Hp} {M' : Bud}, Keeps (fun i => decide (i < ps.length)) (L2.start N vs) σ' -> RepS K H' Hs' σ' δ' M' -> RepL K H' Hs' vs (δ'.take ps.length) M' := fun k' s' => by
      have z := s'.take ps.length
      rw [Zef hv k'] at z
      exact RepS.toL z
     cases he : exs { C with lock := fun i => decide (i < ps.length) } body (ds ++ List.replicate (N.length - ps.length) .hole) with
     | ok z =>
      obtain ⟨fl, δ'⟩ := z
      rw [he] at q
      cases fl with
      | nx => exact fun σ' H' Hs' M' k' g' st' s' => q .non H' Hs' (fun _ => 0) M' (Zat g') (st'.drop (fun b => by simp) g'.le) (.sc _ _) (back k' s')
      | rt dd => exact fun v σ' H' Hs' m1 M' k' g' st' rv s' => q v H' Hs' m1 M' g' st' rv (back k' s')
      | bk => exact q.elim
      | ct => exact q.elim
     | exc x y =>
      rw [he] at q
      exact fun ea σ' H' Hs' m1 M' k' g' st' rv s' => q ea H' Hs' m1 M' g' st' rv (back k' s')
     | stuck => rw [he] at q; exact q.elim
   . rw [if_neg hl] at q
     exact q.elim
theorem FnOk.calm (F : FnOk P w K mg base (CXx P w) k f fd ps (spX K R)) : FnOk P w K mg base CX0 k f fd ps (spF K R) := by
 have im : ∀ {vs : List V} {H : Hp} {Q : VK} {E : XK}, spF K R vs H Q E -> spX K R vs H Q E0 := fun {vs H Q E} h => by
  obtain ⟨ds, Hs, m, d, ds', g, r, e, q⟩ := h
  refine ⟨ds, Hs, m, g, r, ?_⟩
  rw [e]
  exact q
 refine ⟨fun vs H Q E h => F.len vs H Q E0 (im h), fun A outer s H args us vs Q E hr e0 hb hv hs => codeAny_mono (F.run A outer s H args us vs Q E0 hr e0 hb hv (im hs)) fun r s' h => ?_⟩
 cases r with
 | error e =>
  obtain ⟨ea, H', rfl, os, bare, un, hok, fl, q⟩ := h
  exact q H' (Same.refl _)
 | ok fl => cases fl <;> exact h
end
structure FnAtX (P : Program) (w : World) (K : Fg) (mg : Str -> Option Value) (base : Heap) (x : Str) (k : Nat) (ps : List Str) (sp : Sp) : Prop where
 ex : ∃ (f : Addr) (fd : FuncData), FnOk P w K mg base (CXx P w) k f fd ps sp /\ mg x = some (.ref f) /\ PySem.W.keepIn K (.ref f) = true /\ Binds K fd ps []
theorem FnAtX.calm (G : FnAtX P w K mg base x k ps (spX K R)) : FnAt P w K mg base x k ps (spF K R) := by
 obtain ⟨f, fd, F, h⟩ := G.ex
 exact ⟨f, fd, FnOk.calm F, h⟩
noncomputable def tMX (K : Fg) (c : M D) : TEX := fun σ H Q Ex => ∃ (δ : List D) (Hs : Hp) (M : Bud), Good H Hs M /\ RepS K H Hs σ δ M /\ match c δ with
 | .ok (d, δ') => ∀ (v : V) (H' Hs' : Hp) (m M' : Bud), Good H' Hs' (fun b => m b + M' b) -> Stp H Hs M H' Hs' (fun b => m b + M' b) -> Rep K H' Hs' v d m -> RepS K H' Hs' σ δ' M' -> Q v H'
 | .exc x δ' => ∀ (ea : Addr) (H' Hs' : Hp) (m M' : Bud), Good H' Hs' (fun b => m b + M' b) -> Stp H Hs M H' Hs' (fun b => m b + M' b) -> Rep K H' Hs' (.ref ea) x m -> RepS K H' Hs' σ δ' M' -> Ex ea H'
 | .stuck => False
theorem ZaN : ∀ (ps : List Op) (ds : List D) (δ : List D), ∃ δ', Z0 ps ds δ = .ok ((), δ')
 | [], ds, δ => ⟨δ, by unfold Z0; rfl⟩
 | _ :: _, [], δ => ⟨δ, by unfold Z0; rfl⟩
 | p :: ps, d :: ds, δ => by
  have : ∃ δ1, giveA p d δ = .ok ((), δ1) := by
   cases p with
   | tmp d' => exact ⟨δ, rfl⟩
   | late i =>
    unfold giveA
    dsimp only
    split
    . exact ⟨_, rfl⟩
    . exact ⟨_, rfl⟩
  obtain ⟨δ1, e1⟩ := this
  obtain ⟨δ2, e2⟩ := ZaN ps ds δ1
  refine ⟨δ2, ?_⟩
  show T.M.bnd _ _ δ = _
  unfold T.M.bnd
  rw [e1]
  exact e2
theorem Zij {K : Fg} {fi : FI} {σ : St} {H H1 Hs Hs1 : Hp} {M m1 M1 : Bud} {δ1 : List D} {ps : List Op} {vs : List V} {Q : VK} {Ex : Addr -> Hp -> Prop} (g : Good H Hs M) (g1 : Good H1 Hs1 (fun b => m1 b + M1 b)) (st1 : Stp H Hs M H1 Hs1 (fun b => m1 b + M1 b))
 (r1 : ZaL K H1 Hs1 σ vs ps m1) (s1 : RepS K H1 Hs1 σ δ1 M1)
 (q : match ZaJ fi ps δ1 with
  | .ok (d, δ') => ∀ (v : V) (H' Hs' : Hp) (m M' : Bud), Good H' Hs' (fun b => m b + M' b) -> Stp H Hs M H' Hs' (fun b => m b + M' b) -> Rep K H' Hs' v d m -> RepS K H' Hs' σ δ' M' -> Q v H'
  | .exc x δ' => ∀ (ea : Addr) (H' Hs' : Hp) (m M' : Bud), Good H' Hs' (fun b => m b + M' b) -> Stp H Hs M H' Hs' (fun b => m b + M' b) -> Rep K H' Hs' (.ref ea) x m -> RepS K H' Hs' σ δ' M' -> Ex ea H'
  | .stuck => False) : spX K fi.run vs H1 Q (fun v _ H' => ∃ ea, v = .ref ea /\ Ex ea H') := by
 unfold ZaJ T.M.bnd at q
 cases e2 : ZI fi.lend ps δ1 with
 | exc x y => exact absurd e2 (ZaY _ _ _ _ _)
 | stuck => rw [e2] at q; exact q.elim
 | ok z =>
  obtain ⟨ds, δ2⟩ := z
  rw [e2] at q
  dsimp only at q
  obtain ⟨Hs2, m2, M2, g2, st2, q2, s2⟩ := Zbw (B := fun _ => 0) (g1.re fun b => by simp) s1 r1 e2
  have z0 := Zr (m1 := fun _ => 0) g (g1.re fun b => by simp) (st1.drop (fun b => by simp) g1.le) (g2.re fun b => by simp) (M1 := fun b => m1 b + M1 b) (M2 := fun b => m2 b + M2 b) (by
   have := st2
   exact ⟨fun b o h z => this.keep b o h (by simpa using z), fun b h => by have := this.own b (by simpa using h); simpa using this, this.grow, fun b h h' => by have := this.shr b h h'; simpa using this, this.stay⟩)
  have G2 : Good H1 Hs2 (fun b => M2 b + m2 b) := g2.re fun b => by simp; omega
  have S2 : Stp H Hs M H1 Hs2 (fun b => M2 b + m2 b) := z0.2.1.drop (fun b => by simp; omega) z0.1.le
  refine ⟨ds, Hs2, m2, G2.re fun b => by omega, q2, ?_⟩
  cases hF : fi.run ds with
  | stuck => rw [hF] at q; exact q.elim
  | ok r =>
   obtain ⟨d', ds'⟩ := r
   rw [hF] at q
   obtain ⟨δ3, e3⟩ := ZaN ps ds' δ2
   dsimp only at q
   rw [e3] at q
   intro v H3 Hs3 n1 n2 g3 st3 r3 r4
   obtain ⟨G, S, k⟩ := Zr g G2 S2 g3 st3
   have s3 := RepS.frame st3.grow k s2
   have fin := ZaA s3 r4 (lates r1) e3
   exact q v H3 Hs3 n1 (fun b => n2 b + M2 b) (G.re fun b => by (try dsimp only); omega) (S.drop (fun b => by (try dsimp only); omega) G.le) r3 fin
  | exc x ds' =>
   rw [hF] at q
   obtain ⟨δ3, e3⟩ := ZaN ps ds' δ2
   dsimp only at q
   rw [e3] at q
   intro ea H3 Hs3 n1 n2 g3 st3 r3 r4
   obtain ⟨G, S, k⟩ := Zr g G2 S2 g3 st3
   have s3 := RepS.frame st3.grow k s2
   have fin := ZaA s3 r4 (lates r1) e3
   exact ⟨ea, rfl, q ea H3 Hs3 n1 (fun b => n2 b + M2 b) (G.re fun b => by (try dsimp only); omega) (S.drop (fun b => by (try dsimp only); omega) G.le) r3 fin⟩
section
variable {X : Cx} {a e c : Expr} {es : List Expr} {pos p : Pos} {x : Str} {j n : Nat} {fi : FI} {ps : List Str} {cs : M (List Op)}
theorem Zel (nx : NX cs) (G : FnAtX X.prog X.w X.K X.mg X.base x j ps (spX X.K fi.run)) (hr : Room n X.A) (ha : PA X (e :: es) (tPs X.K cs)) (hj : j <= n := by decide) (hz : glOk X.env.scope x = true := by kernel_rfl) (he : starEach (e :: es) X.env = (false, eval e X.env) :: starEach es X.env := by rfl) (hpl : (backTo pos (starEach es X.env)).any (·.1) = false := by rfl) :
 PEx X (.Call (.Name x p) (e :: es) [] pos) (tMX X.K (cs.bnd fun ps => ZaJ fi ps)) := by
 obtain ⟨f, fd, F, hm, hk, hb⟩ := G.ex
 refine PEx.imp (ZiH F (hr.mono hj) (glk hz) hm hk hb .nil ha (dbk hz) he hpl) fun σ H Q Ex z0 => ?_
 obtain ⟨δ, Hs, M, g, s, q⟩ := z0
 unfold T.M.bnd at q
 cases e1 : cs δ with
 | exc x y => exact absurd e1 (nx _ _ _)
 | stuck => rw [e1] at q; exact q.elim
 | ok z =>
  obtain ⟨ps, δ1⟩ := z
  rw [e1] at q
  refine ⟨δ, Hs, M, ps, δ1, g, s, e1, fun vs H1 Hs1 m1 M1 g1 st1 r1 s1 => ?_⟩
  show spX X.K fi.run (vs ++ []) H1 Q _
  rw [List.append_nil]
  exact Zij g g1 st1 r1 s1 q
end
section
theorem Zjm (hN : X.N.Nodup) (hi : X.N[i]? = some x) (hx : Loc X.env.scope x) (he : PEx X e (tMX X.K c)) (hs : swapsWith e (some (.Name x pos')) pos.line X.env = pure false := by rfl)
 (hf : X.fn x = true \/ X.env.scope.names.lookup x = some .local := by first | exact .inl rfl | exact .inr rfl | assumption) :
 PX X (.Assign [.Name x pos'] e pos) (tX X.K lk (c.bnd fun d => (asgN lk i d).bnd fun _ => M.ret .nx)) := PX.imp (Zmo hN hi hx he hs hf) fun E σ H z0 => by
 obtain ⟨δ, Hs, M, g, s, q⟩ := z0
 refine ⟨δ, Hs, M, g, s, ?_⟩
 unfold T.M.bnd at q
 cases e1 : c δ with
 | stuck => rw [e1] at q; exact q.elim
 | exc x δ' => rw [e1] at q; exact fun ea H' Hs' m M' g' st' r s' => q ea σ H' Hs' m M' (Keeps.refl _ _) g' st' r s'
 | ok z =>
  obtain ⟨d, δ1⟩ := z
  rw [e1] at q
  dsimp only at q ⊢
  cases e3 : asgN lk i d δ1 with
  | exc x y => exact absurd e3 (Zd8 _ _ _ _ _ _)
  | stuck => rw [e3] at q; exact q.elim
  | ok z =>
   obtain ⟨u, δ2⟩ := z
   rw [e3] at q
   obtain ⟨h1, h2, rfl⟩ := Zcs e3
   exact fun v H' Hs' m M' g' st' r s' => q _ H' Hs' _ (ZaB h2) g' st' (ZaU s' h1 r)
theorem ZeX (he : PEx X e (tMX X.K c)) (hs : swapsWith e none pos.line X.env = pure false := by rfl) : PX X (.Expr e pos) (tX X.K lk (c.bnd fun _ => M.ret .nx)) := PX.imp (Zk3 he hs) fun E σ H z0 => by
 obtain ⟨δ, Hs, M, g, s, q⟩ := z0
 refine ⟨δ, Hs, M, g, s, ?_⟩
 unfold T.M.bnd at q
 cases e1 : c δ with
 | stuck => rw [e1] at q; exact q.elim
 | exc x δ' => rw [e1] at q; exact fun ea H' Hs' m M' g' st' r s' => q ea σ H' Hs' m M' (Keeps.refl _ _) g' st' r s'
 | ok z =>
  obtain ⟨d, δ1⟩ := z
  rw [e1] at q
  exact fun v H' Hs' m M' g' st' r s' => q σ H' Hs' M' (Keeps.refl _ _) g'.re (st'.drop (fun b => by omega) g'.le) s'
end
end T
namespace T
open PySem PySem.Spec L2
section
variable {X : Cx} {e : Expr} {es : List Expr} {pos pos' p : Pos} {lk : Nat -> Bool} {i n j : Nat} {x : Str} {ns : List Str} {C f : Addr} {fi : FI} {ps : List Str} {cs : M (List Op)}
theorem Zn7 {K : Fg} {H Hs H'' : Hp} {M : Bud} {σ : St} {δ : List D} {a : Addr} {o : HO} (ha : H a = none) (g : Good H Hs M) (s : RepS K H Hs σ δ M) (k : Same (upd H a o) H'') :
 Good H'' Hs (fun b => one a b + M b) /\ Stp H Hs M H'' Hs (fun b => one a b + M b) /\ RepS K H'' Hs σ δ M /\ H'' a = some o /\ Same H H'' := by
 have k1 : Same H H'' := fun b u e => k b u (by rw [Zj (ZV e ha)]; exact e)
 have ka : H'' a = some o := k a o Zi
 have m0 : M a = 0 := by
  have := g.le a
  by_cases q : M a = 1
  . exact absurd ha (g.has a q)
  . omega
 have hs0 : Hs a = none := by
  cases e : Hs a with
  | none => rfl
  | some u => rw [g.sub a u e] at ha; cases ha
 have cs1 : ∀ b, one a b + M b = 1 -> b = a \/ M b = 1 := fun b h => by
  by_cases q : b = a
  . exact .inl q
  . simp only [one, if_neg q] at h; exact .inr (by omega)
 refine ⟨⟨fun b u e => k1 b u (g.sub b u e), fun b => ?_, fun b h => ?_, fun b h => ?_⟩, ⟨fun b u e _ => k1 b u e, fun b h => ?_, Same.refl _, fun b h h' => absurd h h', fun b h => ?_⟩, s.frame (Same.refl _) fun b _ hn => Zbz k1 b hn, ka, k1⟩
 . have := g.le b
   unfold one
   split
   . rename_i q; subst q; omega
   . omega
 . rcases cs1 b h with q | q
   . rw [q]; exact hs0
   . exact g.ne b q
 . rcases cs1 b h with q | q
   . rw [q, ka]; simp
   . rw [Zbz k1 b (g.has b q)]; exact g.has b q
 . rcases cs1 b h with q | q
   . exact .inr (by rw [q]; exact ha)
   . exact .inl q
 . rw [Zbz k1 b h]; exact h
theorem Zlr {K : Fg} {σ : St} {H : Hp} {Q : VK} (xn : XN K ns C) (nx : NX cs) {E : EndX} (h : ∃ (δ : List D) (Hs : Hp) (M : Bud), Good H Hs M /\ RepS K H Hs σ δ M /\ Zao K lk E σ H Hs M (((cs.bnd fun ps => newX ns fi ps).bnd Zb8) δ)) :
 tPs K cs σ H fun vs H1 => vs.length <= sizeLine /\ ∀ x, H1 x = none -> spF K fi.run (.ref x :: vs) (upd H1 x (.exc C none true [])) (fun v H2 => v = .non /\ ∃ a C dx fs, V.ref x = .ref a /\ XC K C /\ H2 a = some (.exc C dx true fs) /\ ∀ H'', Same (upd H2 a (.exc C dx false fs)) H'' -> E.xc a σ H'') E0 := by
 obtain ⟨δ, Hs, M, g, s, q⟩ := h
 unfold T.M.bnd at q
 cases e1 : cs δ with
 | exc x y => exact absurd e1 (nx _ _ _)
 | stuck => rw [e1] at q; exact q.elim
 | ok z =>
  obtain ⟨ps, δ1⟩ := z
  rw [e1] at q
  dsimp only at q
  unfold newX at q
  by_cases hlen : 1000 < ps.length
  . rw [if_pos hlen] at q; exact q.elim
  rw [if_neg hlen] at q
  unfold T.M.bnd at q
  refine ⟨δ, Hs, M, ps, δ1, g, s, e1, fun vs H1 Hs1 m1 M1 g1 st1 r1 s1 => ?_⟩
  have hlv : vs.length = ps.length := by
   have : ∀ {vs : List V} {ps : List Op} {m : Bud}, ZaL K H1 Hs1 σ vs ps m -> vs.length = ps.length := by
    intro vs
    induction vs with
    | nil => intro ps m h; cases ps with
     | nil => rfl
     | cons _ _ => exact h.elim
    | cons v vs ih => intro ps m h; cases ps with
     | nil => exact h.elim
     | cons p ps => obtain ⟨a, b, c, d, _⟩ := h; rw [List.length_cons, List.length_cons, ih d]
   exact this r1
  refine ⟨by rw [hlv, sizeLine_eq]; omega, fun x hx => ?_⟩
  cases e2 : ZI fi.lend ps δ1 with
  | exc x y => exact absurd e2 (ZaY _ _ _ _ _)
  | stuck => rw [e2] at q; exact q.elim
  | ok z =>
   obtain ⟨ds, δ2⟩ := z
   rw [e2] at q
   dsimp only at q
   obtain ⟨Hs2, m2, M2, g2, st2, q2, s2⟩ := Zbw (B := fun _ => 0) (g1.re fun b => by simp) s1 r1 e2
   have z0 := Zr (m1 := fun _ => 0) g (g1.re fun b => by simp) (st1.drop (fun b => by simp) g1.le) (g2.re fun b => by simp) (M1 := fun b => m1 b + M1 b) (M2 := fun b => m2 b + M2 b) (by
    have := st2
    exact ⟨fun b o h z => this.keep b o h (by simpa using z), fun b h => by have := this.own b (by simpa using h); simpa using this, this.grow, fun b h h' => by have := this.shr b h h'; simpa using this, this.stay⟩)
   have G2 : Good H1 Hs2 (fun b => m2 b + M2 b) := g2.re fun b => by simp
   have S2 : Stp H Hs M H1 Hs2 (fun b => m2 b + M2 b) := z0.2.1.drop (fun b => by simp) z0.1.le
   have full : RepS K H1 Hs2 (vs.map some ++ σ) (ds ++ δ2) (fun b => m2 b + M2 b) := Sep.append (RepL.slots q2) s2
   obtain ⟨G3, S3, R3, ka, k1⟩ := Zn7 (o := .exc C none true []) hx G2 full (Same.refl _)
   have q3 := q2.frame (H' := upd H1 x (.exc C none true [])) (Same.refl _) fun b _ hn => Zbz k1 b hn
   have s3 := s2.frame (H' := upd H1 x (.exc C none true [])) (Same.refl _) fun b _ hn => Zbz k1 b hn
   have S3' := Zr (m1 := fun _ => 0) g (G2.re fun b => by simp) (S2.drop (fun b => by simp) G2.le) G3 S3
   have SA : Stp H Hs M (upd H1 x (.exc C none true [])) Hs2 (fun b => M2 b + (one x b + m2 b)) := S3'.2.1.drop (fun b => by simp; omega) S3'.1.le
   have GA : Good (upd H1 x (.exc C none true [])) Hs2 (fun b => M2 b + (one x b + m2 b)) := G3.re fun b => by omega
   cases hF : fi.run (.node (.exc ns true []) true [] :: ds) with
   | exc x y => rw [hF] at q; exact q.elim
   | stuck => rw [hF] at q; exact q.elim
   | ok r =>
    obtain ⟨d', ds'⟩ := r
    rw [hF] at q
    match d', ds', q, hF with
    | .sc .non, dI :: ds', q, hF =>
     dsimp only at q
     obtain ⟨δ3, e3⟩ := ZaN ps ds' δ2
     rw [e3] at q
     have q : Zao K lk E σ H Hs M (Zb8 dI δ3) := q
     refine ⟨.node (.exc ns true []) true [] :: ds, Hs2, fun b => one x b + m2 b, .sc .non, dI :: ds', GA.re fun b => by omega, .cons (m1 := one x) (m2 := m2) (.own (vs := []) (m' := fun _ => 0) ⟨rfl, C, none, xn, ka⟩ (.nil _) fun b => by simp) q3 fun b => Nat.le_refl _, hF, fun v H4 Hs4 n1 n2 g4 st4 r4 r5 => ?_⟩
     cases r4
     refine ⟨rfl, ?_⟩
     obtain ⟨G, S, kk⟩ := Zr g GA SA g4 st4
     have s4 := RepS.frame st4.grow kk s3
     cases r5 with
     | @cons _ _ _ _ n3 n4 _ rI rd l5 =>
      have fin := ZaA s4 rd (lates r1) e3
      unfold Zb8 at q
      split at q
      . rename_i nsI fsI dsI hqI
        cases rI with
        | @own a _ vsI _ _ mI n r lI =>
         obtain ⟨hl, C', dx', xn', hH⟩ := n
         refine ⟨x, C', dx', _, rfl, xn'.toXC, hH, fun H'' k => ?_⟩
         have hx4 : H4 x ≠ none := by rw [hH]; simp
         have k1' : ∀ b, b ≠ x -> H4 b ≠ none -> H'' b = H4 b := fun b hb hn => by
          have := Zbz k b (by rw [Zj hb]; exact hn)
          rw [this, Zj hb]
         have kx : H'' x = some (.exc C' dx' false (fsI.zip vsI)) := k x _ Zi
         have one_x : one x x = 1 := by simp [one]
         have le5 : ∀ b, (one x b + mI b) + (n4 b + M2 b) <= n1 b + (n2 b) + M2 b := fun b => by have := lI b; have := l5 b; omega
         have GG : Good H4 Hs4 (fun b => M2 b + (n1 b + n2 b)) := G
         have G5 : Good H4 Hs4 (fun b => (one x b + mI b) + (n4 b + M2 b)) := GG.re fun b => by have := le5 b; omega
         have S5 : Stp H Hs M H4 Hs4 (fun b => (one x b + mI b) + (n4 b + M2 b)) := S.drop (fun b => by have := le5 b; omega) GG.le
         have zx : mI x = 0 /\ n4 x = 0 /\ M2 x = 0 := by
          have : (one x x + mI x) + (n4 x + M2 x) <= 1 := G5.le x
          omega
         have up : ∀ b, H4 b ≠ none -> H'' b ≠ none := fun b hn => by
          by_cases hb : b = x
          . rw [hb, kx]; simp
          . rw [k1' b hb hn]; exact hn
         have hsx : Hs4 x = none := G5.ne x (by show (one x x + mI x) + (n4 x + M2 x) = 1; omega)
         have G6 : Good H'' Hs4 (fun b => (one x b + mI b) + (n4 b + M2 b)) := ⟨fun b o e => by
          have hb : b ≠ x := fun z => by rw [z, hsx] at e; cases e
          have e4 := G5.sub b o e
          rw [k1' b hb (by rw [e4]; simp)]; exact e4, G5.le, G5.ne, fun b h => up b (G5.has b h)⟩
         have S6 : Stp H Hs M H'' Hs4 (fun b => (one x b + mI b) + (n4 b + M2 b)) := ⟨fun b o e z => by
          have e4 := S5.keep b o e z
          have hb : b ≠ x := fun w => by
           rw [w] at e z
           rcases S5.own x (by show (one x x + mI x) + (n4 x + M2 x) = 1; omega) with t | t
           . omega
           . rw [e] at t; cases t
          rw [k1' b hb (by rw [e4]; simp)]; exact e4, S5.own, S5.grow, S5.shr, fun b h => up b (S5.stay b h)⟩
         refine q x σ H'' Hs4 (fun b => one x b + mI b) (fun b => n4 b + M2 b) (Keeps.refl _ _) G6 S6 (.own (vs := vsI) (m' := mI) ⟨hl, C', dx', xn', kx⟩ (r.frame (Same.refl _) fun b hb hn => k1' b (fun w => by rw [w] at hb; omega) hn) fun b => Nat.le_refl _) (fin.frame (Same.refl _) fun b hb hn => k1' b (fun w => by rw [w] at hb; (try dsimp only at hb); omega) hn)
      . exact q.elim
    | .sc .non, [], q, hF => exact q.elim
    | .sc (.bl _), _, q, hF => exact q.elim
    | .sc (.int _), _, q, hF => exact q.elim
    | .sc (.str _), _, q, hF => exact q.elim
    | .sc (.byt _), _, q, hF => exact q.elim
    | .sc (.flt _), _, q, hF => exact q.elim
    | .sc (.ref _), _, q, hF => exact q.elim
    | .sc (.ty _), _, q, hF => exact q.elim
    | .hole, _, q, hF => exact q.elim
    | .node _ _ _, _, q, hF => exact q.elim
structure XMk (P : Program) (w : World) (K : Fg) (mg : Str -> Option Value) (base : Heap) (x : Str) (ns : List Str) (k : Nat) (ps : List Str) (sp : Sp) : Prop where
 ex : ∃ (C f : Addr) (fd : FuncData), XN K ns C /\ PySem.W.findIn K (.ref C) (Str.ofString "__init__") = some (some (.ref f)) /\ PySem.W.typeIn K (.ref f) = some (.type "function") /\ FnOk P w K mg base CX0 k f fd ps sp /\ mg x = some (.ref C) /\ Binds K fd ps []
theorem Zem (hc : X.calm = true) (nx : NX cs) (G : XMk X.prog X.w X.K X.mg X.base x ns j ps (spF X.K fi.run)) (hr : Room n X.A) (ha : PA X (e :: es) (tPs X.K cs)) (hj : j + 1 <= n := by decide) (hz : glOk X.env.scope x = true := by kernel_rfl) (he : starEach (e :: es) X.env = (false, eval e X.env) :: starEach es X.env := by rfl) (hpl : (backTo pos' (starEach es X.env)).any (·.1) = false := by rfl) :
 PX X (.Raise (some (.Call (.Name x p) (e :: es) [] pos')) none pos) (tX X.K lk ((cs.bnd fun ps => newX ns fi ps).bnd Zb8)) := by
 obtain ⟨C, f, fd, xn, hi, hf, F, hm, hb⟩ := G.ex
 refine PX.imp (ZiN hc (Zk5 xn.toXC hi hf F (hr.mono hj) (glk hz) hm hb .nil ha (dbk hz) he hpl)) fun E σ H h => ?_
 obtain ⟨δ, Hs, M, aa, δ', g, s, e, q⟩ := Zlr (Q := fun _ _ => True) xn nx h
 refine ⟨δ, Hs, M, aa, δ', g, s, e, fun vs H' Hs' m M' g' st r s' => ?_⟩
 obtain ⟨l, q⟩ := q vs H' Hs' m M' g' st r s'
 refine ⟨l, fun x hx => ?_⟩
 have := q x hx
 rw [List.append_nil]
 exact this
end
end T
namespace L2
open PySem PySem.Spec PyProof.Rows
section
def Zqx (K : Fg) (ta : TE) (f : Str) : TE := fun σ H Q => ta σ H fun x H1 => ∃ a C dx fr fs v, x = .ref a /\ H1 a = some (.exc C dx fr fs) /\ XD K C /\ ZD K C f /\ fs.lookup f = some v /\ Q v H1
theorem Zls (he : PE X e ta) (hb : attributeBase e f X.env (eval e X.env) = eval e X.env) : PE X (.Attribute e f pos) (Zqx X.K ta f) := by
 intro pins s σ H Q I h
 refine Zg0 hb (thn (he pins s σ H _ I h) fun u s1 z0 => ?_)
 obtain ⟨x, H1, I1, rx, a, C, dx, fr, fs, v, ex, ea, c, n, l, q⟩ := z0
 subst ex
 obtain rfl : u = Value.ref a := rx
 exact Zgq I1 ea c n l fun u' s2 I2 ru => ⟨v, H1, I2, ru, q⟩
def Zqy (K : Fg) (ta tv : TE) (f : Str) : TS := fun D σ H => tv σ H fun y H1 => ta σ H1 fun x H2 => ∃ a C dx fr fs, x = .ref a /\ H2 a = some (.exc C dx fr fs) /\ XC K C /\ ZD K C f /\ fs.length < 1000 /\
 ∀ H' d', H' a = some (.exc C (some d') fr (putF f y fs)) -> (∀ b o, b ≠ a -> H2 b = some o -> H' b = some o) -> D.nx σ H'
theorem Zlt (ha : PE X o ta) (hv : PE X value tv) (hs : swapsWith value (some (.Attribute o f pos')) pos.line X.env = pure false) : PS X (.Assign [.Attribute o f pos'] value pos) (Zqy X.K ta tv f) := by
 intro pins s σ H D I h
 refine plainObj_wpAny_Assign_Attribute (thn (hv pins s σ H _ I h) fun u s1 ⟨y, H1, I1, ry, q⟩ => thn (ha pins s1 σ H1 _ I1 q) fun ov s2 ⟨x, H2, I2, rx, a, C, dx, fr, fs, ex, ea, c, n, l, q2⟩ => ?_) hs
 subst ex
 obtain rfl : ov = Value.ref a := rx
 exact Zgr I2 ea c n l ry fun s3 H' d' h1 h2 I3 => ⟨σ, _, I3, q2 H' d' h1 h2⟩
theorem ZeY (cv : V) (cu : Value) (rc : RelV cv cu) (huniq : ∀ u, RelV cv u -> u = cu) : Zag X (.builtin "isinstance") (fun xs H Q => ∃ a C dx fr fs b, xs = [.ref a, cv] /\ XD X.K C /\ H a = some (.exc C dx fr fs) /\ PySem.W.kitOne X.K (.ref C) cu = some b /\ Q (.bl b) H) := by
 intro pins s σ H xs us Q I r h
 obtain ⟨a, C, dx, fr, fs, b, ex, xd, ea, k, q⟩ := h
 subst ex
 cases r with
 | @cons _ u1 _ _ r1 r2 =>
  cases r2 with
  | @cons _ u2 _ _ r2 r3 =>
   cases r3
   obtain rfl := huniq _ r2
   obtain rfl : u1 = Value.ref a := r1
   exact ZgZ I ea xd k fun tk => ⟨.bl b, H, I.tok tk, rfl, q⟩
end
end L2
namespace T
open PySem PySem.Spec L2
section
variable {X : Cx} {a o e c : Expr} {es : List Expr} {body suite : List Stmt} {b₀ : Stmt} {pos pos' p apos np hp : Pos} {lk : Nat -> Bool} {i j n : Nat} {x nm cn f : Str} {ca : M Op} {cs : M (List Op)}
theorem Zlu (F : Fr0 X X.A) (hx : ∀ e s, ¬ X.xe e s) (hb : PXs X body (tX X.K lk cb)) (hs : ∀ v, PSs (X.inH v) (b₀ :: suite) (tS X.K lk csu)) (hg : Gl X cn) (hm : X.mg cn = some (.ref D')) (xc : XC X.K D') (gx : GX X.K cn D') (hdb : (cn == ("__debug__" : Str)) = false)
 (hN : X.N.Nodup) (hi : X.N[i]? = some nm) (hl : X.env.scope.names.lookup nm = some .local) :
 PX X (.Try body [.ExceptHandler (some (.Name cn np)) (some nm) (b₀ :: suite) hp] [] [] pos) (tX X.K lk (tryM lk cb cn (some i) csu)) :=
 PX.imp (Zms F hx hb (.cons (.as_ hg hm xc gx hdb hN hi hl hs) .nil)) fun E σ H z0 => by
 obtain ⟨δ, Hs, M, g, s, q⟩ := z0
 refine ⟨δ, Hs, M, g, s, ?_⟩
 unfold tryM at q
 cases e1 : cb δ with
 | ok z => rw [e1] at q; exact q
 | stuck => rw [e1] at q; exact q.elim
 | exc xd δ' =>
  rw [e1] at q
  dsimp only at q
  intro ea σ' H' Hs' m M' k' g' st' r s'
  by_cases hh : hits cn xd = true
  . rw [if_pos hh] at q
    unfold hits at hh
    split at hh
    . rename_i ns fs ds
      have hc : cn ∈ ns := of_decide_eq_true hh
      cases r with
      | @own _ _ vs _ _ m' nd rl lm =>
       obtain ⟨hl', C, dx, xn, hH⟩ := nd
       refine ⟨C, dx, _, ns, xn, hH, ?_⟩
       unfold Zcd
       rw [if_pos hc]
       by_cases hi' : (decide (i < δ'.length) && !lk i) = true
       . rw [if_pos hi'] at q
         simp only [Bool.and_eq_true, decide_eq_true_eq, Bool.not_eq_true'] at hi'
         have rx : Rep X.K H' Hs' (.ref ea) (.node (.exc ns false fs) true ds) m := .own ⟨hl', C, dx, xn, hH⟩ rl lm
         have s2 := ZaU s' hi'.1 rx
         cases e2 : csu (δ'.set i (.node (.exc ns false fs) true ds)) with
         | exc y z => rw [e2] at q; exact q.elim
         | stuck => rw [e2] at q; exact q.elim
         | ok z =>
          obtain ⟨fl, δ2⟩ := z
          rw [e2] at q
          have q : Post X.K lk E.toEnds σ H Hs M fl (δ2.set i .hole) := q
          have q2 := Post.ahead k' g g' st' q
          refine ⟨_, Hs', _, fl, δ2, g', s2, e2, ?_⟩
          have hole : ∀ {σ2 : St} {H2 Hs2 : Hp} {M2 : Bud}, RepS X.K H2 Hs2 σ2 δ2 M2 -> RepS X.K H2 Hs2 (σ2.set i none) (δ2.set i .hole) M2 := fun {σ2 H2 Hs2 M2} r2 => by
           by_cases hlt : i < δ2.length
           . obtain ⟨o, m1, m2, z1, z2, z3, ff⟩ := r2.focus (List.getElem?_eq_getElem hlt)
             exact (ff (RepO X.K H2 Hs2) none .hole (fun _ => 0) (fun a d m' _ q => q) (.inl rfl)).mono fun b => by have := z3 b; (try dsimp only); omega
           . have hlσ := r2.length
             rw [List.set_eq_of_length_le (by omega), List.set_eq_of_length_le (by omega)]
             exact r2
          have kp : ∀ {σ2 : St}, Keeps lk (σ'.set i (some (.ref ea))) σ2 -> Keeps lk σ' (σ2.set i none) := fun k2 => (ZaB hi'.2).trans (k2.trans (ZaB hi'.2))
          cases fl with
          | nx => exact fun σ2 H2 Hs2 M2 k2 g2 st2 r2 => q2 _ H2 Hs2 M2 (kp k2) g2 st2 (hole r2)
          | bk => exact fun σ2 H2 Hs2 M2 k2 g2 st2 r2 => q2 _ H2 Hs2 M2 (kp k2) g2 st2 (hole r2)
          | ct => exact fun σ2 H2 Hs2 M2 k2 g2 st2 r2 => q2 _ H2 Hs2 M2 (kp k2) g2 st2 (hole r2)
          | rt d => exact fun v σ2 H2 Hs2 m2 M2 k2 g2 st2 rv r2 => q2 v _ H2 Hs2 m2 M2 (kp k2) g2 st2 rv (hole r2)
       . rw [if_neg hi'] at q; exact q.elim
    . cases hh
  . rw [if_neg hh] at q; exact q.elim
theorem Zjn (ho : PE X o (tVar i)) (hv : PE X value (tM X.K cv)) (hs : swapsWith value (some (.Attribute o f pos')) pos.line X.env = pure false := by rfl) :
 PS X (.Assign [.Attribute o f pos'] value pos) (tS X.K lk (cv.bnd fun d => (ZB i).bnd fun _ => (modS i (putX f d)).bnd fun _ => M.ret .nx)) := PS.imp (Zlt ho hv hs) fun E σ H h => by
 obtain ⟨δ, Hs, M, fl, δ', g, s, ea, q⟩ := h
 obtain ⟨d, δ1, e1, eb⟩ := Zb ea
 obtain ⟨p0, δ2, e2, ec⟩ := Zb eb
 obtain ⟨r0, δ3, e3, ed⟩ := Zb ec
 have := Zf ed
 cases this
 obtain ⟨kk, ds0, k', ds', hi, hff, rfl⟩ := Zcr e3
 refine ⟨δ, Hs, M, d, δ1, g, s, e1, fun v H1 Hs1 m1 M1 g1 st1 r1 s1 => ?_⟩
 obtain ⟨rfl, vo, hvo⟩ := Zd0 s1 e2
 obtain ⟨p1, us, m', n2, e8, nn, rl, le, fin⟩ := modL g1 s1 hi
 rw [hvo] at e8
 cases e8
 refine ⟨_, hvo, ?_⟩
 unfold putX at hff
 split at hff
 . rename_i ds ns fr fs
   split at hff
   . rename_i hc
     cases hff
     obtain ⟨hl, C, dx, xn, hH⟩ := nn
     obtain ⟨z1, z2⟩ := Zc7 f v fs us hl
     refine ⟨p1, C, dx, fr, fs.zip us, rfl, hH, xn.toXC, xn.nof f hc.2, ?_, fun H' d' h1 h2 => ?_⟩
     . rw [List.length_zip, hl, Nat.min_self]
       rw [<- hl]
       exact hc.1
     . obtain ⟨G, S, R, SS⟩ := fin (.exc C (some d') fr (putF f v (fs.zip us))) (.exc ns fr (putN f fs)) (T.putV f v fs us) (T.putV f d fs ds0) (fun b => m' b + m1 b) (fun _ => 0) .non (.sc .non) (fun b => by (try dsimp only); omega) ⟨z2, C, some d', xn, by rw [Zi, z1]⟩ (rl.putV f r1 hl) (.sc _ _)
       have z := Zr (m1 := fun _ => 0) g (g1.re fun b => by simp) (st1.drop (fun b => by simp) g1.le) G S
       have k : Same (upd H1 p1 (.exc C (some d') fr (putF f v (fs.zip us)))) H' := fun b o eb => by
        by_cases hb : b = p1
        . subst hb
          rw [Zi] at eb
          cases eb
          exact h1
        . rw [Zj hb] at eb
          exact h2 b o hb eb
       exact q σ _ Hs1 _ (Keeps.refl _ _) ((G.re fun b => by (try dsimp only); omega).up k) (((z.2.1.drop (fun b => by simp) z.1.le).drop (fun b => by (try dsimp only); omega) G.le).up k) (SS.frame (Same.refl _) fun b _ hn => Zbz k b hn)
   . cases hff
 . cases hff
theorem arg1 {K : Fg} {f : BF} {σ : St} {H : Hp} {Q : VK} (h : tM K ((ca.bnd fun p => (M.ret ([] : List Op)).bnd fun ps => M.ret (p :: ps)).bnd fun ps => (views ps).bnd fun ws => lift (bfW f ws)) σ H Q) : tM K ((ca.bnd view).bnd fun w => lift (bfW f [w])) σ H Q := by
 obtain ⟨δ, Hs, M, d, δ', g, s, e, q⟩ := h
 refine ⟨δ, Hs, M, d, δ', g, s, ?_, q⟩
 obtain ⟨ps, δ1, e1, e⟩ := Zb e
 obtain ⟨pp, δ2, e2, e3⟩ := Zb e1
 obtain ⟨z, δ3, e4, e5⟩ := Zb e3
 have := Zf e4
 cases this
 have := Zf e5
 cases this
 obtain ⟨ws, δ4, e6, e⟩ := Zb e
 obtain ⟨w, δ5, e7, e8⟩ := Zb e6
 obtain ⟨z, δ6, e9, e10⟩ := Zb e8
 have := Zf e9
 cases this
 have := Zf e10
 cases this
 show T.M.bnd (ca.bnd view) _ δ = _
 unfold T.M.bnd
 rw [e2]
 dsimp only
 rw [e7]
 exact e
theorem ZeA (ha : PE X a (tP X.K ca)) (hb : attributeBase a f X.env (eval a X.env) = eval a X.env := by rfl) :
 PE X (.Attribute a f pos) (tM X.K ((ca.bnd fun p => (M.ret ([] : List Op)).bnd fun ps => M.ret (p :: ps)).bnd fun ps => (views ps).bnd fun ws => lift (bfW (.xfld f) ws))) :=
 PE.imp (Zls ha hb) fun σ H Q h => by
  have h2 := arg1 h
  refine op1 (r := fun x H1 Q => ∃ a C dx fr fs v, x = .ref a /\ H1 a = some (.exc C dx fr fs) /\ XD X.K C /\ ZD X.K C f /\ fs.lookup f = some v /\ Q v H1) h2 fun x H Hs w m d g h1 h2 v e o => ?_
  replace e : Zhi f [w] = some d := e
  unfold Zhi at e
  split at e
  . rename_i ns fr fs ds hw
    cases hw
    split at e
    . rename_i hf
      cases v with
      | nd n r =>
       obtain ⟨hl, C, dx, xn, n⟩ := n
       obtain ⟨z, m1, e1, rz, l⟩ := Ze2 r hl e
       exact ⟨_, C, dx, _, _, z, rfl, n, xn.toXD, xn.nof f hf, e1, o.part h1 h2 l rz⟩
    . cases e
  . cases e
end
end T
namespace T
open PySem PySem.Spec L2
section
theorem Zlv (gx : GX X.K cn D') (ht : PySem.W.typeIn X.K (.ref D') = some (.type "type")) (hg : Gl X "isinstance") (hm : X.mg "isinstance" = none) (ha : PE X a (tP X.K ca)) (hc : PE X c (tC (.ref D'))) (hs : starEach [a, c] X.env = [(false, eval a X.env), (false, eval c X.env)] := by rfl)
 (hs1 : starEach [c] X.env = [(false, eval c X.env)] := by rfl) :
 PE X (.Call (.Name "isinstance" p) [a, c] [] pos) (tM X.K ((ca.bnd fun p => (M.ret ([] : List Op)).bnd fun ps => M.ret (p :: ps)).bnd fun ps => (views ps).bnd fun ws => lift (bfW (.isiX cn) ws))) :=
 PE.imp (Zc1 (ZeY (.ref D') (.ref D') rfl fun u h => h) hg hm ZbT (Zai ha (Zai hc Zb5 (by rw [hs1]; rfl)) (by rw [hs, hs1])) (by decide) (by decide) (by rw [hs, hs1]) (by rw [hs1]; rfl)) fun σ H Q h => by
  refine op1 (r := fun x H1 Q => ∃ a C dx fr fs b, [x, V.ref D'] = [V.ref a, V.ref D'] /\ XD X.K C /\ H1 a = some (.exc C dx fr fs) /\ PySem.W.kitOne X.K (.ref C) (.ref D') = some b /\ Q (.bl b) H1) (arg1 h) fun x H Hs w m d g h1 h2 v e o => ?_
  replace e : Zhg cn [w] = some d := e
  unfold Zhg at e
  split at e
  . rename_i ns fr fs ds hw
    cases hw
    cases e
    cases v with
    | nd n r =>
     obtain ⟨hl, C, dx, xn, n⟩ := n
     exact ⟨_, C, dx, _, _, _, rfl, xn.toXD, n, xn.isa gx ht, o.sc⟩
  . cases e
theorem Zlw : PySem.W.kitMeta "ValueError" = true := by decide +kernel
theorem Zn8 : bmV.contains (.type "ValueError") = true := by decide +kernel
theorem Zlx (hg : Gl X "isinstance") (hm : X.mg "isinstance" = none) (ha : PE X a (tP X.K ca)) (hc : PE X c (tC (.ty "ValueError"))) (hs : starEach [a, c] X.env = [(false, eval a X.env), (false, eval c X.env)] := by rfl)
 (hs1 : starEach [c] X.env = [(false, eval c X.env)] := by rfl) :
 PE X (.Call (.Name "isinstance" p) [a, c] [] pos) (tM X.K ((ca.bnd fun p => (M.ret ([] : List Op)).bnd fun ps => M.ret (p :: ps)).bnd fun ps => (views ps).bnd fun ws => lift (bfW .isiV ws))) :=
 PE.imp (Zc1 (ZeY (.ty "ValueError") (.type "ValueError") rfl fun u h => h) hg hm ZbT (Zai ha (Zai hc Zb5 (by rw [hs1]; rfl)) (by rw [hs, hs1])) (by decide) (by decide) (by rw [hs, hs1]) (by rw [hs1]; rfl)) fun σ H Q h => by
  refine op1 (r := fun x H1 Q => ∃ a C dx fr fs b, [x, V.ty "ValueError"] = [V.ref a, V.ty "ValueError"] /\ XD X.K C /\ H1 a = some (.exc C dx fr fs) /\ PySem.W.kitOne X.K (.ref C) (.type "ValueError") = some b /\ Q (.bl b) H1) (arg1 h) fun x H Hs w m d g h1 h2 v e o => ?_
  replace e : Zhh [w] = some d := e
  unfold Zhh at e
  split at e
  . rename_i ns fr fs ds hw
    cases hw
    cases e
    cases v with
    | nd n r =>
     obtain ⟨hl, C, dx, xn, n⟩ := n
     exact ⟨_, C, dx, _, _, _, rfl, xn.toXD, n, xn.isaB Zn8 Zlw, o.sc⟩
  . cases e
theorem Zjo (M1 : XI X.K L) (hg : Gl X x) (hm : X.mg x = some (.ref L)) (ha : PA X (e :: es) (tPs X.K cs)) (hdb : (x == ("__debug__" : Str)) = false := by decide)
 (hst : starEach (e :: es) X.env = (false, eval e X.env) :: starEach es X.env := by rfl) (hpl : (backTo pos (starEach es X.env)).any (·.1) = false := by rfl)
 (ht : eval (.Call (.Attribute (.Name x p) "__init__" apos) (e :: es) [] pos) X.env = (do
  let ov <- eval (.Name x p) X.env
  standAt apos.atName
  let (f, first) <- holding [ov] (getMethod ov "__init__" pl)
  callWith pos f first (backTo pos (starEach (e :: es) X.env)) (backToKw pos (keywordEach [] X.env))) := by rfl) :
 PE X (.Call (.Attribute (.Name x p) "__init__" apos) (e :: es) [] pos) (tM X.K (cs.bnd fun ps => (views ps).bnd fun ws => lift (bfW .xinit ws))) :=
 PE.imp (ZiM (pl := pl) M1 hg hm ha hdb hst hpl ht) fun σ H Q h => by
  obtain ⟨δ, Hs, M, ps, δ', g, s, e, q⟩ := opN h
  refine ⟨δ, Hs, M, ps, δ', g, s, e, fun vs H' Hs' m M' g' st r s' => ?_⟩
  obtain ⟨Hs2, ws, m2, d, hs, h1, h2, v, e2, o⟩ := q vs H' Hs' m M' g' st r s'
  replace e2 : Zf6 ws = some d := e2
  unfold Zf6 at e2
  split at e2
  . rename_i ns fr fs ds u
    cases e2
    obtain ⟨y, y', m1, m3, rfl, v1, v2, l⟩ := v.two
    cases v1 with
    | nd n r =>
     obtain ⟨hl, C, dx, xn, n⟩ := n
     exact ⟨_, y', C, dx, _, _, rfl, xn.toXC, n, o.sc⟩
  . cases e2
end
end T
namespace L2
open PySem PySem.Spec PyProof.Rows
section
variable {K : Fg} {n : Str} {C L : Addr} {q qL : Str} {N NL : Addr} {bs bsL : List Value} {sn snL : List Str} {sub subL : List Value} {ab abL : Bool} {col colL : Option Bool} {dd ddL : Option Addr} {k0 k1 k2 k3 k5 l0 l1 l2 l3 l5 : Option Value}
theorem ZjS (lk : K.lookup C = some (excClassObj n q C N bs bm true sn sub ab col dd k0 k1 k2 k3 k5 "ValueError.__new__")) (tl : PySem.W.tailIn K bmV bm = true) (tv : Zb0 bm = true)
 (sa : PySem.W.findIn K (.ref C) (Str.ofString "__setattr__") = some (some (.builtin "object.__setattr__"))) (ga : PySem.W.findIn K (.ref C) (Str.ofString "__getattribute__") = some (some (.builtin "BaseException.__getattribute__"))) (kp : PySem.W.keepIn K (.ref C) = true) : XC K C :=
 ⟨⟨n, q, N, bs, bm, sn, sub, ab, col, dd, k0, k1, k2, k3, k5, lk, tl, tv⟩, sa, ga, kp⟩
noncomputable def ZfS (e : DictEntry) : Bool := match e.key with
 | .str _ _ => true
 | _ => false
theorem ZjT : PySem.W.tailIn K bmV bmV = true := by
 unfold PySem.W.tailIn bmV
 simp
theorem Zqz (lL : K.lookup L = some (excClassObj "LabelError" qL L NL bsL bmV true snL subL abL colL ddL l0 l1 l2 l3 l5 "ValueError.__new__")) (ln : K.lookup NL = some ⟨oc, od, .dict es ep, sl⟩) (he : es.all ZfS = true)
 (hi : PySem.W.nsIn K NL (Str.ofString "__init__") = some none) : PySem.W.tailIn K bmV (.ref L :: bmV) = true := by
 unfold PySem.W.tailIn
 dsimp only
 rw [lL]
 have ok : PySem.W.nsOkIn K NL = true := by
  unfold PySem.W.nsOkIn
  rw [ln]
  exact he
 show ((_ :: _ == bmV) || (PySem.W.nsOkIn K NL && PySem.W.nsIn K NL (Str.ofString "__init__") == some none && PySem.W.tailIn K bmV bmV)) = true
 rw [ok, hi, ZjT]
 simp
theorem Zhq (x : PySem.W.nsIn K mainGlobals n = some (some (.ref C))) (lk : K.lookup C = some (excClassObj n q C N bs bm true sn sub ab col dd k0 k1 k2 k3 k5 "ValueError.__new__")) : GX K n C := ⟨x, by unfold PySem.W.clsIn; rw [lk]; rfl⟩
theorem Zq0 (lk : K.lookup C = some (excClassObj n q C N bs bm true sn sub ab col dd k0 k1 k2 k3 k5 "ValueError.__new__")) : PySem.W.typeIn K (.ref C) = some (.type "type") := by
 show Option.map (fun x => x.cls) (List.lookup C K) = _
 rw [lk]
 rfl
theorem Zq1 (x : PySem.W.nsIn K mainGlobals n = some (some (.ref C))) (lk : K.lookup C = some (excClassObj n q C N bs (.ref L :: bmV) true sn sub ab col dd k0 k1 k2 k3 k5 "ValueError.__new__"))
 (gL : GX K "LabelError" L) (tl : PySem.W.tailIn K bmV (.ref L :: bmV) = true)
 (sa : PySem.W.findIn K (.ref C) (Str.ofString "__setattr__") = some (some (.builtin "object.__setattr__"))) (ga : PySem.W.findIn K (.ref C) (Str.ofString "__getattribute__") = some (some (.builtin "BaseException.__getattribute__"))) (kp : PySem.W.keepIn K (.ref C) = true)
 (hk : PySem.W.findIn K (.ref C) (Str.ofString "__getattr__") = some none) (hc : PySem.W.findIn K (.ref C) "__class__" = some (some (.builtin "object.__class__")))
 (hn : PySem.W.specialIn K (.builtin "object.__class__") "__get__" = some (some (.builtin "getset_descriptor.__get__"))) (ht : PySem.W.takesIn K (.builtin "object.__class__") = some true)
 (n1 : PySem.W.findIn K (.ref C) "row" = some none) (n2 : PySem.W.findIn K (.ref C) "number" = some none) (n3 : PySem.W.findIn K (.ref C) "length" = some none) (n4 : PySem.W.findIn K (.ref C) "numbers" = some none) : XN K [n, "LabelError"] C :=
 ⟨⟨ZjS lk tl (show Zb0 bmV = true by decide +kernel) sa ga kp, hk, hc, hn, ht⟩, ⟨_, by unfold PySem.W.clsIn; rw [lk], C, _, rfl, Zhq x lk, L, _, rfl, gL, rfl⟩, fun f hf => by
   simp only [Zdw, List.mem_cons, List.not_mem_nil, or_false] at hf
   rcases hf with rfl | rfl | rfl | rfl
   . exact n1
   . exact n2
   . exact n3
   . exact n4⟩
end
end L2
namespace T
open PySem PySem.Spec L2
section
theorem Zjp (h : Zv sc N i x b = true) (nd : N.Nodup) (he : PEx X e (tMX X.K c)) (hs : swapsWith e (some (.Name x pos')) pos.line X.env = pure false := by rfl) (e1 : X.env.scope = sc := by rfl) (e2 : X.N = N := by rfl)
 (hf : X.fn x = true \/ b = false := by first | exact .inl rfl | exact .inr rfl) : PX X (.Assign [.Name x pos'] e pos) (tX X.K lk (c.bnd fun d => (asgN lk i d).bnd fun _ => M.ret .nx)) := by
 obtain ⟨h1, h2, h3, h4⟩ := Zv.at h
 have l := Zv.loc h
 subst e1 e2
 refine Zjm nd h1 l he hs ?_
 rcases hf with q | q
 . exact .inl q
 . subst q
   exact .inr h2
theorem Zjq (F : Fr0 X X.A) (hx : ∀ e s, ¬ X.xe e s) (h : Zv sc N i x false = true) (nd : N.Nodup) (hb : PXs X body (tX X.K lk cb)) (hs : ∀ v, PSs (X.inH v) (b₀ :: suite) (tS X.K lk csu)) (hg : Gl X cn) (hm : X.mg cn = some (.ref D')) (xc : XC X.K D') (gx : GX X.K cn D') (hdb : (cn == ("__debug__" : Str)) = false)
 (e1 : X.env.scope = sc := by rfl) (e2 : X.N = N := by rfl) :
 PX X (.Try body [.ExceptHandler (some (.Name cn np)) (some x) (b₀ :: suite) hp] [] [] pos) (tX X.K lk (tryM lk cb cn (some i) csu)) := by
 obtain ⟨h1, h2, h3, h4⟩ := Zv.at h
 subst e1 e2
 exact Zlu F hx hb hs hg hm xc gx hdb nd h1 h2
theorem ZfT : bootBuiltins "ValueError" = some (.type "ValueError") := by decide +kernel
end
section
theorem Zn9 (C : Ctx) (i : Nat) (f : FI) (es : List E) : ex C (.asgX i f es) = (((opds C es).bnd fun ps => ZaJ f ps).bnd fun d => (asgN C.lock i d).bnd fun _ => M.ret .nx) := (rfl)
theorem Zq2 (C : Ctx) (f : FI) (es : List E) : ex C (.exX f es) = (((opds C es).bnd fun ps => ZaJ f ps).bnd fun _ => M.ret .nx) := (rfl)
theorem Zjr (C : Ctx) (ns : List Str) (f : FI) (es : List E) : ex C (.raiseI ns f es) = (((opds C es).bnd fun ps => newX ns f ps).bnd Zb8) := (rfl)
theorem ZnA (ns : List Str) (fs : List Str) (ds δ : List D) : Zb8 (α := Fl) (.node (.exc ns true fs) true ds) δ = .exc (.node (.exc ns false fs) true ds) δ := (rfl)
theorem Zly (C : Ctx) (i : Nat) (f : Str) (e : E) : ex C (.attrX i f e) = ((evb C e).1.bnd fun d => (ZB i).bnd fun _ => (modS i (putX f d)).bnd fun _ => M.ret .nx) := (rfl)
theorem ZnB (C : Ctx) (tg : Tg) (ik : IK) (ies : List E) (body : List S) : ex C (.forX tg ik ies body) = ((opds C ies).bnd fun ps => (Zw ps).bnd fun h => (lift (itW ik h.1)).bnd fun items δ => finB h.2 (forL (asgT (fun j => C.lock j || walked ies j) tg) (exs { C with lock := fun j => C.lock j || walked ies j } body) items δ)) := (rfl)
noncomputable def cxR (ps : List Op) (δ : List D) : Rs (D × List D) -> Rs (D × List D)
 | .ok (d, ds') => ((Z0 ps ds').bnd fun _ => M.ret d) δ
 | .exc x ds' => (match Z0 ps ds' δ with
  | .ok (_, δ') => .exc x δ'
  | _ => .stuck)
 | .stuck => .stuck
theorem ZnC : ZaJ fi ps = (ZI fi.lend ps).bnd fun ds δ => cxR ps δ (fi.run ds) := by
 unfold ZaJ cxR
 congr 1
 funext ds δ
 cases fi.run ds with
 | ok r => obtain ⟨d, ds'⟩ := r; rfl
 | exc x y => rfl
 | stuck => rfl
theorem ZnD : cxR ps δ (.ok (d, ds')) = ((Z0 ps ds').bnd fun _ => M.ret d) δ := (rfl)
theorem Zjs (f : α -> M β) (x : D) (δ : List D) : bndR f (.exc x δ) = .exc x δ := (rfl)
theorem Zjt (r : M Fl) (x : D) (δ : List D) : seqR r (.exc x δ) = .exc x δ := (rfl)
theorem Zju (asg : D -> M Unit) (body : M Fl) (ds : List D) (x : D) (δ : List D) : forR asg body ds (.exc x δ) = .exc x δ := (rfl)
theorem endX : ZE n (.exc x δ) = .exc x (δ.take n) := (rfl)
noncomputable def nxR (ps : List Op) (δ : List D) : Rs (D × List D) -> Rs (D × List D)
 | .ok (.sc .non, d :: ds') => ((Z0 ps ds').bnd fun _ => M.ret d) δ
 | _ => .stuck
theorem ZcA (h : ¬ 1000 < ps.length) : newX ns fi ps = (ZI fi.lend ps).bnd fun ds δ => nxR ps δ (fi.run (.node (.exc ns true []) true [] :: ds)) := by
 unfold newX nxR
 rw [if_neg h]
 congr 1
 funext ds δ
 cases fi.run (.node (.exc ns true []) true [] :: ds) with
 | ok r =>
  obtain ⟨d, ds'⟩ := r
  cases d with
  | sc v => cases v <;> cases ds' <;> rfl
  | _ => rfl
 | exc x y => rfl
 | stuck => rfl
theorem ZnE : nxR ps δ (.ok (.sc .non, d :: ds')) = ((Z0 ps ds').bnd fun _ => M.ret d) δ := (rfl)
theorem Zlz (h : List (Nat × D)) (f : Fl) (δ : List D) : finB h (.ok (f, δ)) = ((ZA h).bnd fun _ => M.ret f) δ := (rfl)
theorem Zik (x : D) (δ : List D) : finB [] (.exc x δ) = .exc x δ := (rfl)
theorem Zq3 (ns : List Str) (fr : Bool) (fs : List Str) (ds : List D) (v : V) : bfW .xinit [.nd (.exc ns fr fs) ds, .sc v] = some (.sc .non) := (rfl)
end
end T
namespace T
open PySem PySem.Spec L2
section
variable {X : Cx} {e k v : Expr} {pos : Pos}
theorem Zjv (hk : PE X k (tC (kV key))) (hv : PE X v (tM X.K c)) : PE X (.Dict [some k] [v] pos) (tM X.K (c.bnd fun d => M.ret (.node (.dic [key]) true [d]))) := PE.imp (Zkz (ZiC hk hv Zky) rfl rfl (by simp) (by simp)) fun σ H Q h => by
 obtain ⟨δ, Hs, M, d, δ', g, s, e, q⟩ := h
 obtain ⟨d0, δ1, e1, e2⟩ := Zb e
 have := Zf e2
 cases this
 intro p hp
 have hs := ZcV (o := .dK []) hp
 have Mp : M p = 0 := by
  have := g.le p
  by_cases q : M p = 1
  . exact absurd hp (g.has p q)
  . omega
 have ne : ∀ b, H b ≠ none -> b ≠ p := fun b h e => by subst e; exact h hp
 have Hsp : Hs p = none := by
  cases q : Hs p with
  | none => rfl
  | some o => rw [g.sub p o q] at hp; cases hp
 refine ⟨δ, Hs, M, d0, δ', ⟨fun b o e => hs b o (g.sub b o e), g.le, g.ne, fun b h => by rw [Zj (ne b (g.has b h))]; exact g.has b h⟩, s.frame (Same.refl _) fun b _ hn => Zj (ne b hn), e1, fun v H' Hs' m M' g2 st r s2 => ?_⟩
 have tot : m p + M' p = 0 := by
  have l : m p + M' p <= 1 := g2.le p
  by_cases q : m p + M' p = 1
  . rcases st.own p q with z | z
    . omega
    . rw [Zi] at z; cases z
  . omega
 have Hsp' : Hs' p = none := by
  cases q : Hs' p with
  | none => rfl
  | some o =>
   rcases st.shr p Hsp (by rw [q]; simp) with z | z
   . omega
   . rw [Zi] at z; cases z
 refine ⟨st.keep p _ Zi Mp, [(key, v)], rfl, by simp, ?_⟩
 have u1 : ∀ {o : HO} {b : Addr}, b ≠ p -> upd H' p o b = H' b := fun h => Zj h
 refine q (.ref p) _ Hs' (fun b => one p b + m b) M' ⟨fun b o e => ?_, fun b => ?_, fun b h => ?_, fun b h => ?_⟩ ⟨fun b o e z => ?_, fun b h => ?_, st.grow, fun b h h' => ?_, fun b h => ?_⟩ (.own (vs := [v]) (m' := m) ⟨rfl, Zi⟩ (.cons (m1 := m) (m2 := fun _ => 0) (r.frame (Same.refl _) fun b hb hn => ?_) (.nil _) fun b => by simp) fun b => Nat.le_refl _) (s2.frame (Same.refl _) fun b hb hn => ?_)
 . have : b ≠ p := fun z => by subst z; rw [Hsp'] at e; cases e
   rw [u1 this]
   exact g2.sub b o e
 . have l : m b + M' b <= 1 := g2.le b
   show one p b + m b + M' b <= 1
   unfold one
   split
   . rename_i z; subst z; omega
   . omega
 . by_cases z : b = p
   . rw [z]; exact Hsp'
   . have h : one p b + m b + M' b = 1 := h
     simp only [one, if_neg z] at h
     exact g2.ne b (by show m b + M' b = 1; omega)
 . by_cases z : b = p
   . rw [z, Zi]; simp
   . have h : one p b + m b + M' b = 1 := h
     simp only [one, if_neg z] at h
     rw [u1 z]
     exact g2.has b (by show m b + M' b = 1; omega)
 . have z1 : b ≠ p := ne b (by rw [e]; simp)
   rw [u1 z1]
   exact st.keep b o (by rw [Zj z1]; exact e) z
 . by_cases z : b = p
   . right; rw [z]; exact hp
   . have h : one p b + m b + M' b = 1 := h
     simp only [one, if_neg z] at h
     rcases st.own b (show m b + M' b = 1 by omega) with y | y
     . exact .inl y
     . rw [Zj z] at y; exact .inr y
 . rcases st.shr b h h' with y | y
   . exact .inl y
   . by_cases z : b = p
     . right; rw [z]; exact hp
     . rw [Zj z] at y; exact .inr y
 . have z1 := ne b h
   rw [u1 z1]
   exact st.stay b (by rw [Zj z1]; exact h)
 . have : b ≠ p := fun z => by subst z; omega
   exact u1 this
 . have : b ≠ p := fun z => by subst z; omega
   exact u1 this
theorem Zq4 (hg : Gl X x) (h : ∃ t, X.mg x = some (.str z t)) (hd : (x == ("__debug__" : Str)) = false) : PE X (.Name x p) (tM X.K (M.ret (.sc (.str z)))) := by
 obtain ⟨t, h⟩ := h
 exact ok_k (Zds hg h ⟨t, rfl⟩ hd)
structure ModT (K : Fg) (mg : Str -> Option Value) (x : Str) (vs : List V) : Prop where
 ex : ∃ a, mg x = some (.ref a) /\ ∃ (o : Obj) (its : Array Value) (n : Nat), K.lookup a = some o /\ o.cls = .type "tuple" /\ o.data = .seq its n /\ its.size <= sizeLine /\ Vals vs its.toList
theorem Zl0 (hg : Gl X x) (h : ModT X.K X.mg x vs) (hd : (x == ("__debug__" : Str)) = false) : PE X (.Name x p) (tM X.K (M.ret (.node .ftp false (vs.map D.sc)))) := by
 obtain ⟨a, h, z⟩ := h.ex
 exact Zpp (Zds (v := .ref a) hg h rfl hd) fun H Hs m => .shd (vs := vs) (.inr z) (Zd5 vs)
theorem Zcb : ∀ {is : List Int} {its : List Value}, (its.map fun u => match u with | .int i _ => some i | _ => none) = is.map some -> Vals (is.map V.int) its
 | [], [], _ => .nil
 | [], _ :: _, h => by simp at h
 | _ :: _, [], h => by simp at h
 | i :: is, u :: its, h => by
  (simp only [List.map_cons, List.cons.injEq] at h)
  refine .cons ?_ (Zcb h.2)
  cases u <;> simp at h
  rename_i j t
  exact ⟨t, by rw [h.1]⟩
end
section
theorem Zl1 (hp : PassesOwn (model X.prog X.w) X.A X.env X.xe) (hc : X.calm = true) (he : PE X iter (tM X.K (M.ret (.sc v)))) (hg : PG X tg (gT X.K tgt)) (hb : PSs X body (tS X.K (fun j => C.lock j || walked [.k v] j) (exs { C with lock := fun j => C.lock j || walked [.k v] j } body'))) (hs : ∀ x, foldedSetIterable iter X.env x = pure x := by intro _; rfl) (hl : C.lock = lk := by rfl) :
 PS X (.For tg iter body [] pos) (tS X.K lk (ex C (.for_ tgt .val [.k v] body'))) := by
 subst hl
 have e : ex C (.for_ tgt .val [.k v] body') = ((((M.ret (D.sc v)).bnd fun d => M.ret (.tmp d)).bnd fun p => (M.ret ([] : List Op)).bnd fun ps => M.ret (p :: ps)).bnd fun ps => (Zw ps).bnd fun h => (lift (itW .val h.1)).bnd fun items => (forL (asgT (fun j => C.lock j || walked [.k v] j) tgt) (exs { C with lock := fun j => C.lock j || walked [.k v] j } body') items).bnd fun f => (ZA h.2).bnd fun _ => M.ret f) := rfl
 rw [e]
 exact ZbX hp hc (ZbK _ _) (hw_1 ZfE) (Zbc (Za he)) hg hb hs
end
theorem us1 {P : List Value -> Prop} (h : ∀ a, P [a]) : ∀ us : List Value, us.length = 1 -> P us
 | [a], _ => h a
theorem us2 {P : List Value -> Prop} (h : ∀ a b, P [a, b]) : ∀ us : List Value, us.length = 2 -> P us
 | [a, b], _ => h a b
theorem us3 {P : List Value -> Prop} (h : ∀ a b c, P [a, b, c]) : ∀ us : List Value, us.length = 3 -> P us
 | [a, b, c], _ => h a b c
end T
namespace T
open PySem PySem.Spec L2 PyProof.Rows
noncomputable def nmOk (X : Cx) (i : Nat) (x : Str) : Bool := Zv X.env.scope X.N i x false || Zv X.env.scope X.N i x true || Zf5 X.env.scope X.N i x
noncomputable def tgOk (X : Cx) (i : Nat) (x : Str) : Bool := (Zv X.env.scope X.N i x false || Zv X.env.scope X.N i x true && X.fn x) && decide X.N.Nodup
abbrev glX (X : Cx) (x : Str) : Prop := glOk X.env.scope x = true
section
theorem qv (h : nmOk X i x = true := by kernel_rfl) : PE X (.Name x pos) (tVar i) := by
 unfold nmOk at h
 simp only [Bool.or_eq_true] at h
 rcases h with (h | h) | h
 . exact pvs h
 . exact pvs h
 . exact pvf h
theorem ql (h : nmOk X i x = true := by kernel_rfl) : PE X (.Name x pos) (tP X.K (ZB i)) := Zg7 (qv h)
theorem qq (h : tgOk X i x = true) : ∃ b, Zv X.env.scope X.N i x b = true /\ X.N.Nodup /\ (X.fn x = true \/ b = false) := by
 unfold tgOk at h
 simp only [Bool.or_eq_true, Bool.and_eq_true, decide_eq_true_eq] at h
 rcases h with ⟨h | ⟨h, hf⟩, n⟩
 . exact ⟨_, h, n, .inr rfl⟩
 . exact ⟨_, h, n, .inl hf⟩
theorem qa (he : PE X e (tM X.K c)) (h : tgOk X i x = true := by kernel_rfl) (hs : swapsWith e (some (.Name x pos')) pos.line X.env = pure false := by rfl) : PS X (.Assign [.Name x pos'] e pos) (tS X.K lk (c.bnd fun d => (asgN lk i d).bnd fun _ => M.ret .nx)) := by
 obtain ⟨b, h, n, f⟩ := qq h
 exact ZkQ h n he hs (hf := f)
theorem qg (hr : PGs X es (gNs is)) (h : tgOk X i x = true := by kernel_rfl) (hs : (assignEach (.Name x pos :: es) X.env).map (·.2) = assign (.Name x pos) X.env :: (assignEach es X.env).map (·.2) := by rfl) : PGs X (.Name x pos :: es) (gNs (i :: is)) := by
 obtain ⟨b, h, n, f⟩ := qq h
 exact Zpn h n hr rfl rfl f hs
theorem qt (h : tgOk X i x = true := by kernel_rfl) : PG X (.Name x pos) (gT X.K (.name i)) := by
 obtain ⟨b, h, n, f⟩ := qq h
 exact Zpo h n rfl rfl f
theorem cS (N' : List Str) (h : Zf4 X.env.scope X.N k js N' scope = true := by kernel_rfl) : CompScope X k js N' scope := .of h rfl rfl
theorem qs (S : CompScope X k js N' scope) (hi : PI X tg iter (tI X.K ik cs))
 (hin : ∀ (cl : List (Str × Addr)) (C : Addr) (s₀ : Shared) (H₀ : Hp) (ex : List Addr), PG (cxC X N' scope cl C s₀ H₀ ex) tg (gT X.K tgt) /\ PIf (cxC X N' scope cl C s₀ H₀ ex) ifs (tT X.K cc) /\ PE (cxC X N' scope cl C s₀ H₀ ex) elt (tM X.K celt))
 (h : (Zv X.env.scope X.N i x false && decide X.N.Nodup && ZcT X.env.scope scope x) = true := by kernel_rfl) (hc : X.calm = true := by rfl) (hl : (pos'.line == pos.line) = true := by rfl) (hs : ∀ x, foldedSetIterable iter X.env x = pure x := by intro _; rfl) :
 PS X (.Assign [.Name x pos'] (.ListComp elt [⟨tg, iter, ifs, 0⟩] scope pos) spos) (tS X.K lk ((cs.bnd fun ps => (Zw ps).bnd fun h => (lift (itW ik h.1)).bnd fun items => (Za1 k js (Zab (asgT (fun i => decide (k <= i)) tgt) cc celt items [])).bnd fun d => (ZA h.2).bnd fun _ => M.ret d).bnd fun d => (asgN lk i d).bnd fun _ => M.ret .nx)) := by
 simp only [Bool.and_eq_true, decide_eq_true_eq] at h
 exact ZkP h.1.1 h.1.2 h.2 hc S hi hin hl rfl rfl hs
end
section
variable {X : Cx} {e a b l r o k ke : Expr} {es : List Expr} {p pos p2 pos2 : Pos} {x : Str} {j n : Nat} {ps : List Str} {fi : FI} {cs : M (List Op)} {ca cb : M Op} {A : Addr} {f : BF} {id ty : String} {tg : Expr}
theorem qi {t : Ty} {n : String} (hm : X.mg "isinstance" = none) (ha : PE X a (tP X.K ca)) (hm2 : X.mg (Str.ofString n) = none) (hv : bootBuiltins (Str.ofString n) = some (.type n)) (h : glX X "isinstance" := by kernel_rfl) (h2 : glX X (Str.ofString n) := by kernel_rfl) (hn : tyS t = some n := by rfl)
 (hs : starEach [a, .Name (Str.ofString n) p2] X.env = [(false, eval a X.env), (false, eval (.Name (Str.ofString n) p2) X.env)] := by rfl) (hs1 : starEach [.Name (Str.ofString n) p2] X.env = [(false, eval (.Name (Str.ofString n) p2) X.env)] := by rfl) :
 PE X (.Call (.Name "isinstance" p) [a, .Name (Str.ofString n) p2] [] pos) (tM X.K ((ca.bnd fun p => (M.ret ([] : List Op)).bnd fun ps => M.ret (p :: ps)).bnd fun ps => (views ps).bnd fun ws => lift (bfW (.isi t) ws))) :=
 ZmC hn (glk h) hm ha (Zgu (glk h2) hm2 hv rfl (nmk h2) (dbk h2)) hs hs1
theorem qb (ha : PE X a (tP X.K ca)) (hb : PE X b (tP X.K cb)) :
 PE X (.BinOp a op b pos) (tM X.K (ca.bnd fun p => cb.bnd fun q => (view p).bnd fun x => (view q).bnd fun y => lift (binW op x y))) := Zm3 (Zm4 _) ha hb
theorem qgi (h : ∃ t, X.mg x = some (.int i t)) (g : glX X x := by kernel_rfl) : PE X (.Name x p) (tM X.K (M.ret (.sc (.int i)))) := Zqv (glk g) h (dbk g)
theorem qgt (h : ∃ t, X.mg x = some (.str z t)) (g : glX X x := by kernel_rfl) : PE X (.Name x p) (tM X.K (M.ret (.sc (.str z)))) := Zq4 (glk g) h (dbk g)
theorem qgu (h : ModT X.K X.mg x vs) (g : glX X x := by kernel_rfl) : PE X (.Name x p) (tM X.K (M.ret (.node .ftp false (vs.map D.sc)))) := Zl0 (glk g) h (dbk g)
theorem g_ (h : glX X x := by kernel_rfl) : Gl X x := glk h
end
structure En where
 P : Program
 w : World
 K : Fg
 mg : Str -> Option Value
 base : Heap
abbrev En.fn (e : En) (x : Str) (k : Nat) (ps : List Str) (f : FI) : Prop := FnAt e.P e.w e.K e.mg e.base x k ps (spF e.K f.run)
abbrev En.me (e : En) (C : Addr) (x : Str) (k : Nat) (ps : List Str) (f : FI) : Prop := MeAt e.P e.w e.K e.mg e.base C x k ps (spF e.K f.run)
abbrev En.nw (e : En) (x : Str) (C : Addr) (k : Nat) (ps : List Str) (f : FI) : Prop := MkAt e.P e.w e.K e.mg e.base x C k ps (spF e.K f.run)
noncomputable def scOk (N P : List Str) (sc : Scope) : Bool := sc.kind == .function && !sc.isCoroutine && !sc.isGenerator && decide N.Nodup && N.take P.length == P && P.all (fun x => sc.names.lookup x == some .local || sc.names.lookup x == some .cell) && sc.names.all (fun y => y.2 != .free)
theorem ZdA (h : scOk N P sc = true) : FnScope N P sc := by
 unfold scOk at h
 simp only [Bool.and_eq_true, decide_eq_true_eq, List.all_eq_true, Bool.or_eq_true, beq_iff_eq, bne_iff_ne, Bool.not_eq_true'] at h
 obtain ⟨⟨⟨⟨⟨⟨h1, h2⟩, h3⟩, h4⟩, h5⟩, h6⟩, h7⟩ := h
 exact ⟨h1, h2, h3, h4, h5, h6, h7⟩
def NI (K : Fg) (x : Str) : Prop := PySem.W.nsIn K mainGlobals x = some none
def TI (K : Fg) (x : Str) (st : Stmt) : Prop := ∃ f fd, PySem.W.nsIn K mainGlobals x = some (some (.ref f)) /\ Fun K x x st f fd
def MI (K : Fg) (C : Addr) (x q : Str) (st : Stmt) : Prop := ∃ f fd, PySem.W.findIn K (.ref C) x = some (some (.ref f)) /\ PySem.W.isFn K (.ref f) = true /\ Fun K x q st f fd
structure CI (K : Fg) (x : Str) (C : Addr) : Prop where
 at_ : PySem.W.nsIn K mainGlobals x = some (some (.ref C))
 pg : PySem.W.plainGet K C Str.empty = true
 hd : PySem.W.hasDictIn K C = true
 po : PySem.W.plainOver K C = true
 sa : PySem.W.findIn K (.ref C) "__setattr__" = some (some (.builtin "object.__setattr__"))
 mk_ : PySem.W.makesIn K C = true
 kp : PySem.W.keepIn K (.ref C) = true
section
variable {K : Fg} {x q : Str} {st : Stmt} {f C : Addr} {oc : Value} {od an : Option Addr} {osl : Array (Option Value)} {kV doc pm cdv ct : Value}
theorem Zq5 (h : PySem.W.nsIn K mainGlobals x = some (some (.ref f))) (l : K.lookup f = some ⟨oc, od, .func (PySem.W.fnOf x x (ZaG st) (ZS st) (Zq st) .none kV doc pm an cdv ct), osl⟩) (c : PySem.W.codeIn K cdv x = true) (k : PySem.W.keepIn K (.ref f) = true) : TI K x st := ⟨f, _, h, Zf1 l c k⟩
theorem Zq6 (h : PySem.W.findIn K (.ref C) x = some (some (.ref f))) (y : PySem.W.isFn K (.ref f) = true) (l : K.lookup f = some ⟨oc, od, .func (PySem.W.fnOf x q (ZaG st) (ZS st) (Zq st) .none kV doc pm an cdv ct), osl⟩) (c : PySem.W.codeIn K cdv q = true) (k : PySem.W.keepIn K (.ref f) = true) : MI K C x q st := ⟨f, _, h, y, Zf1 l c k⟩
end
theorem CI.cl {K : Fg} {x : Str} {C : Addr} (c : CI K x C) : Cls K C := ⟨c.pg, c.hd, c.po, c.sa⟩
def Bo (e : En) : Prop := ∃ h, e.K.In h /\ h.Ns mainGlobals e.mg
section
variable {e : En} {x q : Str} {st : Stmt} {N ps : List Str} {k n nN : Nat} {C : Ctx} {body : List S} {A : Addr}
abbrev us_ (st : Stmt) (x q : Str) (ps : List Str) : Prop := ∀ (kV doc pm : Value) (an : Option Addr) (cdv ct : Value) (us : List Value), us.length = ps.length -> bindArgs (PySem.W.fnOf x q (ZaG st) (ZS st) (Zq st) .none kV doc pm an cdv ct) ⟨us, []⟩ = pure (ps.zip us)
abbrev bd_ (e : En) (N : List Str) (q : Str) (st : Stmt) (k n : Nat) (C : Ctx) (body : List S) : Prop := ∀ (f : Addr) (cdv : Value) (A : Around) (outer : List Env) (s : Shared) (H : Hp) (E : XK), Room k (A.deeper (envOfC q (Zq st) s.heap.objs.size f cdv)) ->
 PSs (cxOf CX0 e.P e.w e.K e.mg e.base N q (Zq st) f cdv A outer s H E).nox (ZS st) (tS e.K (fun i => decide (i < n)) (exs { C with lock := fun i => decide (i < n) } body))
theorem Zbf (Y : Bo e) (F : TI e.K x st) (N : List Str) (hb : bd_ e N x st k n C body) (hs : scOk N ps (Zq st) = true := by kernel_rfl) (hn : ps.length = n := by rfl) (hN : N.length = nN := by rfl)
 (us : us_ st x x ps := by intro _ _ _ _ _ _; first | exact us1 fun _ => rfl | exact us2 fun _ _ => rfl | exact us3 fun _ _ _ => rfl | exact us4 fun _ _ _ _ => rfl | exact us5 fun _ _ _ _ _ => rfl | exact us6 fun _ _ _ _ _ _ => rfl) :
 FnAt e.P e.w e.K e.mg e.base x (k + 1) ps (spF e.K (Zu C n nN body)) := by
 obtain ⟨f, fd, h1, F⟩ := F
 obtain ⟨h, X, G⟩ := Y
 exact ⟨f, fd, Zd3 F (ZdA hs) hn hN fun cdv A o s H E => hb f cdv A o s H E, PySem.W.mg_of X G h1, F.kp, F.binds us⟩
theorem Zq7 (cl : Cls e.K A) (F : MI e.K A x q st) (N : List Str) (hb : bd_ e N q st k n C body) (hs : scOk N ps (Zq st) = true := by kernel_rfl) (hn : ps.length = n := by rfl) (hN : N.length = nN := by rfl)
 (us : us_ st x q ps := by intro _ _ _ _ _ _; first | exact us1 fun _ => rfl | exact us2 fun _ _ => rfl | exact us3 fun _ _ _ => rfl | exact us4 fun _ _ _ _ => rfl | exact us5 fun _ _ _ _ _ => rfl | exact us6 fun _ _ _ _ _ _ => rfl) :
 MeAt e.P e.w e.K e.mg e.base A x (k + 1) ps (spF e.K (Zu C n nN body)) := by
 obtain ⟨f, fd, h1, y, F⟩ := F
 exact ⟨⟨f, fd, Zd3 F (ZdA hs) hn hN fun cdv A o s H E => hb f cdv A o s H E, ⟨h1, y, F.kp⟩, F.binds us⟩, cl⟩
theorem ZnF (F : Fun e.K x x st f fd) (N : List Str) (hb : bd_ e N x st k n C body) (hs : scOk N ps (Zq st) = true := by kernel_rfl) (hn : ps.length = n := by rfl) (hN : N.length = nN := by rfl) :
 FnOk e.P e.w e.K e.mg e.base CX0 (k + 1) f fd ps (spF e.K (Zu C n nN body)) := Zd3 F (ZdA hs) hn hN fun cdv A o s H E => hb f cdv A o s H E
end
end T
namespace T
open PySem PySem.Spec L2 PyProof.Rows
def LT (K : Fg) (mg : Str -> Option Value) (cn : Str) : Prop := ∃ D', mg cn = some (.ref D') /\ XC K D' /\ GX K cn D'
def LX (K : Fg) (mg : Str -> Option Value) (cn : Str) : Prop := ∃ D', mg cn = some (.ref D') /\ GX K cn D' /\ PySem.W.typeIn K (.ref D') = some (.type "type")
def LI (K : Fg) (mg : Str -> Option Value) (cn : Str) : Prop := ∃ D', mg cn = some (.ref D') /\ XI K D'
section
theorem qax (he : PEx X e (tMX X.K c)) (h : tgOk X i x = true := by kernel_rfl) (hs : swapsWith e (some (.Name x pos')) pos.line X.env = pure false := by rfl) : PX X (.Assign [.Name x pos'] e pos) (tX X.K lk (c.bnd fun d => (asgN lk i d).bnd fun _ => M.ret .nx)) := by
 obtain ⟨b, h, n, f⟩ := qq h
 exact Zjp h n he hs (hf := f)
theorem qty (F : Fr0 X X.A) (L : LT X.K X.mg cn) (hb : PXs X body (tX X.K lk cb)) (hs : ∀ v, PSs (X.inH v) (b₀ :: suite) (tS X.K lk csu)) (h : (Zv X.env.scope X.N i x false && decide X.N.Nodup) = true := by kernel_rfl) (g : glX X cn := by kernel_rfl) (hx : ∀ e s, ¬ X.xe e s := by exact fun _ _ h => h) :
 PX X (.Try body [.ExceptHandler (some (.Name cn np)) (some x) (b₀ :: suite) hp] [] [] pos) (tX X.K lk (tryM lk cb cn (some i) csu)) := by
 obtain ⟨D', h1, h2, h3⟩ := L
 simp only [Bool.and_eq_true, decide_eq_true_eq] at h
 exact Zjq F hx h.1 h.2 hb hs (glk g) h1 h2 h3 (dbk g)
theorem qiX (L : LX X.K X.mg cn) (hm : X.mg "isinstance" = none) (ha : PE X a (tP X.K ca)) (h : glX X "isinstance" := by kernel_rfl) (g : glX X cn := by kernel_rfl)
 (hs : starEach [a, .Name cn p2] X.env = [(false, eval a X.env), (false, eval (.Name cn p2) X.env)] := by rfl) (hs1 : starEach [.Name cn p2] X.env = [(false, eval (.Name cn p2) X.env)] := by rfl) :
 PE X (.Call (.Name "isinstance" p) [a, .Name cn p2] [] pos) (tM X.K ((ca.bnd fun p => (M.ret ([] : List Op)).bnd fun ps => M.ret (p :: ps)).bnd fun ps => (views ps).bnd fun ws => lift (bfW (.isiX cn) ws))) := by
 obtain ⟨D', h1, h2, h3⟩ := L
 exact Zlv h2 h3 (glk h) hm ha (Zds (v := .ref D') (glk g) h1 rfl (dbk g)) hs hs1
theorem qiV (hm2 : X.mg "ValueError" = none) (hm : X.mg "isinstance" = none) (ha : PE X a (tP X.K ca)) (h : glX X "isinstance" := by kernel_rfl) (g : glX X "ValueError" := by kernel_rfl)
 (hs : starEach [a, .Name "ValueError" p2] X.env = [(false, eval a X.env), (false, eval (.Name "ValueError" p2) X.env)] := by rfl) (hs1 : starEach [.Name "ValueError" p2] X.env = [(false, eval (.Name "ValueError" p2) X.env)] := by rfl) :
 PE X (.Call (.Name "isinstance" p) [a, .Name "ValueError" p2] [] pos) (tM X.K ((ca.bnd fun p => (M.ret ([] : List Op)).bnd fun ps => M.ret (p :: ps)).bnd fun ps => (views ps).bnd fun ws => lift (bfW .isiV ws))) :=
 Zlx (glk h) hm ha (Zgu (v := .ty "ValueError") (glk g) hm2 ZfT rfl (nmk g) (dbk g)) hs hs1
structure XMd (P : Program) (w : World) (K : Fg) (mg : Str -> Option Value) (base : Heap) (x : Str) (ns : List Str) (k : Nat) (ps : List Str) (sp : Sp) : Prop where
 ex : ∃ (C f : Addr) (fd : FuncData), XN K ns C /\ PySem.W.findIn K (.ref C) (Str.ofString "__init__") = some (some (.ref f)) /\ PySem.W.typeIn K (.ref f) = some (.type "function") /\ FnOk P w K mg base CX0 k f fd ps sp /\ mg x = some (.ref C) /\ Binds K fd ps [.none]
end
section
variable {e : En} {x q : Str} {st : Stmt} {N ps : List Str} {k n nN : Nat} {C : Ctx} {body : List S} {A L : Addr}
abbrev En.fx (e : En) (x : Str) (k : Nat) (ps : List Str) (f : FI) : Prop := FnAtX e.P e.w e.K e.mg e.base x k ps (spX e.K f.run)
abbrev En.xi (e : En) (x : Str) (k : Nat) (ps : List Str) (f : FI) : Prop := XMk e.P e.w e.K e.mg e.base x [x, "LabelError"] k ps (spF e.K f.run)
abbrev En.xd (e : En) (x : Str) (k : Nat) (ps : List Str) (f : FI) : Prop := XMd e.P e.w e.K e.mg e.base x [x, "LabelError"] k ps (spF e.K f.run)
abbrev bx_ (e : En) (N : List Str) (q : Str) (st : Stmt) (k n : Nat) (C : Ctx) (body : List S) : Prop := ∀ (f : Addr) (cdv : Value) (A : Around) (outer : List Env) (s : Shared) (H : Hp) (E : XK), Fr0 (cxOf CX0 e.P e.w e.K e.mg e.base N q (Zq st) f cdv A outer s H E).nox (A.deeper (envOfC q (Zq st) s.heap.objs.size f cdv)) -> Room k (A.deeper (envOfC q (Zq st) s.heap.objs.size f cdv)) ->
 PXs (cxOf CX0 e.P e.w e.K e.mg e.base N q (Zq st) f cdv A outer s H E).nox (ZS st) (tX e.K (fun i => decide (i < n)) (exs { C with lock := fun i => decide (i < n) } body))
theorem Zen (Y : Bo e) (F : TI e.K x st) (N : List Str) (hb : bx_ e N x st k n C body) (hs : scOk N ps (Zq st) = true := by kernel_rfl) (hn : ps.length = n := by rfl) (hN : N.length = nN := by rfl)
 (us : us_ st x x ps := by intro _ _ _ _ _ _; first | exact us1 fun _ => rfl | exact us2 fun _ _ => rfl | exact us3 fun _ _ _ => rfl | exact us4 fun _ _ _ _ => rfl | exact us5 fun _ _ _ _ _ => rfl | exact us6 fun _ _ _ _ _ _ => rfl) :
 FnAtX e.P e.w e.K e.mg e.base x (k + 1) ps (spX e.K (Zu C n nN body)) := by
 obtain ⟨f, fd, h1, F⟩ := F
 obtain ⟨h, X, G⟩ := Y
 exact ⟨f, fd, ZgH F (ZdA hs) hn hN fun cdv A o s H E => hb f cdv A o s H E, PySem.W.mg_of X G h1, F.kp, F.binds us⟩
def DI (K : Fg) (C : Addr) (q : Str) (st : Stmt) : Prop := ∃ f fd T dt it nt sl, PySem.W.findIn K (.ref C) (Str.ofString "__init__") = some (some (.ref f)) /\ PySem.W.typeIn K (.ref f) = some (.type "function") /\ FunV (.ref T) K "__init__" q st f fd /\ K.lookup T = some ⟨.type "tuple", dt, .seq it nt, sl⟩ /\ it = #[Value.none]
theorem Zq8 {K : Fg} {C f T : Addr} {oc : Value} {od an dt : Option Addr} {osl sl : Array (Option Value)} {kV doc pm cdv ct : Value} {it : Array Value} {nt : Nat} (h : PySem.W.findIn K (.ref C) (Str.ofString "__init__") = some (some (.ref f))) (y : PySem.W.typeIn K (.ref f) = some (.type "function")) (l : K.lookup f = some ⟨oc, od, .func (PySem.W.fnOf "__init__" q (ZaG st) (ZS st) (Zq st) (.ref T) kV doc pm an cdv ct), osl⟩)
 (c : PySem.W.codeIn K cdv q = true) (k : PySem.W.keepIn K (.ref f) = true) (t : K.lookup T = some ⟨.type "tuple", dt, .seq it nt, sl⟩) (z : it = #[Value.none]) : DI K C q st := ⟨f, _, T, dt, it, nt, sl, h, y, ⟨⟨oc, od, kV, doc, pm, an, cdv, ct, osl, rfl, l, c⟩, k⟩, t, z⟩
structure LB (K : Fg) (L : Addr) : Prop where
 x : PySem.W.nsIn K mainGlobals "LabelError" = some (some (.ref L))
 gx : GX K "LabelError" L
 xc : XC K L
 tl : PySem.W.tailIn K bmV (.ref L :: bmV) = true
structure XB (K : Fg) (L : Addr) (x : Str) (C : Addr) : Prop where
 at_ : PySem.W.nsIn K mainGlobals x = some (some (.ref C))
 lk : ∃ (q : Str) (N : Addr) (bs : List Value) (sn : List Str) (sub : List Value) (ab : Bool) (col : Option Bool) (dd : Option Addr) (k0 k1 k2 k3 k5 : Option Value), K.lookup C = some (excClassObj x q C N bs (.ref L :: bmV) true sn sub ab col dd k0 k1 k2 k3 k5 "ValueError.__new__")
structure XA (K : Fg) (C : Addr) : Prop where
 sa : PySem.W.findIn K (.ref C) (Str.ofString "__setattr__") = some (some (.builtin "object.__setattr__"))
 ga : PySem.W.findIn K (.ref C) (Str.ofString "__getattribute__") = some (some (.builtin "BaseException.__getattribute__"))
 kp : PySem.W.keepIn K (.ref C) = true
 hk : PySem.W.findIn K (.ref C) (Str.ofString "__getattr__") = some none
 hc : PySem.W.findIn K (.ref C) "__class__" = some (some (.builtin "object.__class__"))
 hn : PySem.W.specialIn K (.builtin "object.__class__") "__get__" = some (some (.builtin "getset_descriptor.__get__"))
 ht : PySem.W.takesIn K (.builtin "object.__class__") = some true
 n1 : PySem.W.findIn K (.ref C) "row" = some none
 n2 : PySem.W.findIn K (.ref C) "number" = some none
 n3 : PySem.W.findIn K (.ref C) "length" = some none
 n4 : PySem.W.findIn K (.ref C) "numbers" = some none
end
section
variable {K : Fg} {n : Str} {C L : Addr} {q qL : Str} {N NL : Addr} {bs bsL : List Value} {sn snL : List Str} {sub subL : List Value} {ab abL : Bool} {col colL : Option Bool} {dd ddL : Option Addr} {k0 k1 k2 k3 k5 l0 l1 l2 l3 l5 : Option Value}
theorem Zq9 (x : PySem.W.nsIn K mainGlobals "LabelError" = some (some (.ref L))) (lL : K.lookup L = some (excClassObj "LabelError" qL L NL bsL bmV true snL subL abL colL ddL l0 l1 l2 l3 l5 "ValueError.__new__")) (ln : K.lookup NL = some ⟨oc, od, .dict es ep, sl⟩) (he : es.all ZfS = true)
 (hi : PySem.W.nsIn K NL (Str.ofString "__init__") = some none) (sa : PySem.W.findIn K (.ref L) (Str.ofString "__setattr__") = some (some (.builtin "object.__setattr__"))) (ga : PySem.W.findIn K (.ref L) (Str.ofString "__getattribute__") = some (some (.builtin "BaseException.__getattribute__"))) (kp : PySem.W.keepIn K (.ref L) = true) : LB K L :=
 ⟨x, Zhq x lL, ZjS lL ZjT (show Zb0 bmV = true by decide +kernel) sa ga kp, Zqz lL ln he hi⟩
theorem ZqA (x : PySem.W.nsIn K mainGlobals n = some (some (.ref C))) (lk : K.lookup C = some (excClassObj n q C N bs (.ref L :: bmV) true sn sub ab col dd k0 k1 k2 k3 k5 "ValueError.__new__")) : XB K L n C := ⟨x, _, _, _, _, _, _, _, _, _, _, _, _, _, lk⟩
theorem XB.xn (b : XB K L n C) (l : LB K L) (a : XA K C) : XN K [n, "LabelError"] C := by
 obtain ⟨x, q, N, bs, sn, sub, ab, col, dd, k0, k1, k2, k3, k5, lk⟩ := b
 exact Zq1 x lk l.gx l.tl a.sa a.ga a.kp a.hk a.hc a.hn a.ht a.n1 a.n2 a.n3 a.n4
theorem XB.lx (b : XB K L n C) (X : K.In h) (G : h.Ns mainGlobals mg) : LX K mg n := by
 obtain ⟨x, q, N, bs, sn, sub, ab, col, dd, k0, k1, k2, k3, k5, lk⟩ := b
 exact ⟨C, PySem.W.mg_of X G x, Zhq x lk, Zq0 lk⟩
end
end T
namespace T
open PySem PySem.Spec L2 PyProof.Rows
section
variable {e : En} {x q : Str} {st : Stmt} {N ps : List Str} {k n nN : Nat} {C : Ctx} {body : List S} {A : Addr}
def II (K : Fg) (C : Addr) (q : Str) (st : Stmt) : Prop := ∃ f fd, PySem.W.findIn K (.ref C) (Str.ofString "__init__") = some (some (.ref f)) /\ PySem.W.typeIn K (.ref f) = some (.type "function") /\ Fun K "__init__" q st f fd
theorem ZqB {K : Fg} {C f : Addr} {oc : Value} {od an : Option Addr} {osl : Array (Option Value)} {kV doc pm cdv ct : Value} (h : PySem.W.findIn K (.ref C) (Str.ofString "__init__") = some (some (.ref f))) (y : PySem.W.typeIn K (.ref f) = some (.type "function")) (l : K.lookup f = some ⟨oc, od, .func (PySem.W.fnOf "__init__" q (ZaG st) (ZS st) (Zq st) .none kV doc pm an cdv ct), osl⟩)
 (c : PySem.W.codeIn K cdv q = true) (k : PySem.W.keepIn K (.ref f) = true) : II K C q st := ⟨f, _, h, y, Zf1 l c k⟩
theorem ZqC (Y : Bo e) (c : ∃ C, e.mg x = some (.ref C) /\ XN e.K [x, "LabelError"] C /\ II e.K C q st) (N : List Str) (hb : bd_ e N q st k n C body) (hs : scOk N ps (Zq st) = true := by kernel_rfl) (hn : ps.length = n := by rfl) (hN : N.length = nN := by rfl)
 (us : us_ st "__init__" q ps := by intro _ _ _ _ _ _; exact us2 fun _ _ => rfl) :
 XMk e.P e.w e.K e.mg e.base x [x, "LabelError"] (k + 1) ps (spF e.K (Zu C n nN body)) := by
 obtain ⟨C', m, xn, f, fd, h1, h2, F⟩ := c
 exact ⟨C', f, fd, xn, h1, h2, Zd3 F (ZdA hs) hn hN fun cdv A o s H E => hb f cdv A o s H E, m, F.binds us⟩
end
theorem us4 {P : List Value -> Prop} (h : ∀ a b c d, P [a, b, c, d]) : ∀ us : List Value, us.length = 4 -> P us
 | [a, b, c, d], _ => h a b c d
theorem us5 {P : List Value -> Prop} (h : ∀ a b c d e, P [a, b, c, d, e]) : ∀ us : List Value, us.length = 5 -> P us
 | [a, b, c, d, e], _ => h a b c d e
theorem us6 {P : List Value -> Prop} (h : ∀ a b c d e f, P [a, b, c, d, e, f]) : ∀ us : List Value, us.length = 6 -> P us
 | [a, b, c, d, e, f], _ => h a b c d e f
noncomputable def unV : Value -> Option V
 | .int i _ => some (.int i)
 | .none => some .non
 | _ => none
theorem ZgI : ∀ {vs : List V} {its : List Value}, its.map unV = vs.map some -> Vals vs its
 | [], [], _ => .nil
 | [], _ :: _, h => by simp at h
 | _ :: _, [], h => by simp at h
 | v :: vs, u :: its, h => by
  (simp only [List.map_cons, List.cons.injEq] at h)
  refine .cons ?_ (ZgI h.2)
  cases u <;> simp [unV] at h
  . rw [<- h.1]; exact rfl
  . rw [<- h.1]; exact ⟨_, rfl⟩
theorem Zjw {K : Fg} {h : Heap} {mg : Str -> Option Value} {x : Str} {a : Addr} {vs : List V} {dct : Option Addr} {its : Array Value} {n : Nat} {sl : Array (Option Value)} (X : K.In h) (G : h.Ns mainGlobals mg) (hx : PySem.W.nsIn K mainGlobals x = some (some (.ref a))) (hl : K.lookup a = some ⟨.type "tuple", dct, .seq its n, sl⟩) (hs : its.size <= sizeLine) (hi : its.toList.map unV = vs.map some) : ModT K mg x vs :=
 ⟨a, PySem.W.mg_of X G hx, _, its, n, hl, rfl, rfl, hs, ZgI hi⟩
end T
namespace T
open PySem PySem.Spec L2 PyProof.Rows
theorem ZgJ (C : Ctx) (A : Addr) (fi : FI) (es : List E) : yev C (.new A fi es) = ((opds C es).bnd fun ps => makX A fi ps) := (rfl)
theorem stand {K : Fg} {σ : L2.St} {H Hs H1 Hs2 : Hp} {M M2 m2 : Bud} {A x dx : Addr} {vs : List V} {ds δ2 : List D} (G2 : Good H1 Hs2 (fun b => M2 b + m2 b)) (S2 : Stp H Hs M H1 Hs2 (fun b => M2 b + m2 b)) (hx : H1 x = none) (hdx : H1 dx = none) (hne : dx ≠ x) (q2 : RepL K H1 Hs2 vs ds m2) (s2 : RepS K H1 Hs2 σ δ2 M2) :
 Good (upd (upd H1 dx (.own x)) x (.ins A dx [])) Hs2 (fun b => M2 b + (one x b + m2 b)) /\ Stp H Hs M (upd (upd H1 dx (.own x)) x (.ins A dx [])) Hs2 (fun b => M2 b + (one x b + m2 b)) /\ RepL K (upd (upd H1 dx (.own x)) x (.ins A dx [])) Hs2 (.ref x :: vs) (.node (.ins A []) true [] :: ds) (fun b => one x b + m2 b) /\ RepS K (upd (upd H1 dx (.own x)) x (.ins A dx [])) Hs2 σ δ2 M2 := by
 have hsx : Hs2 x = none := by
  cases w : Hs2 x with
  | none => rfl
  | some o => rw [G2.sub x o w] at hx; cases hx
 have zz : ∀ b, H1 b = none -> M2 b = 0 /\ m2 b = 0 := fun b hb => by
  have l : M2 b + m2 b <= 1 := G2.le b
  have : M2 b + m2 b ≠ 1 := fun e => G2.has b e hb
  omega
 have nw : ∀ b, b ≠ x -> b ≠ dx -> upd (upd H1 dx (.own x)) x (.ins A dx []) b = H1 b := fun b h1 h2 => by rw [Zj h1, Zj h2]
 have atx : upd (upd H1 dx (.own x)) x (.ins A dx []) x = some (.ins A dx []) := Zi
 have old : ∀ b, H1 b ≠ none -> b ≠ x /\ b ≠ dx := fun b hb => ⟨fun e => hb (by rw [e]; exact hx), fun e => hb (by rw [e]; exact hdx)⟩
 have same : Same H1 (upd (upd H1 dx (.own x)) x (.ins A dx [])) := fun b o e => by
  obtain ⟨h1, h2⟩ := old b (by rw [e]; simp)
  rw [nw b h1 h2]; exact e
 have fr : ∀ b, H1 b ≠ none -> upd (upd H1 dx (.own x)) x (.ins A dx []) b = H1 b := fun b hb => nw b (old b hb).1 (old b hb).2
 refine ⟨⟨fun b o e => same b o (G2.sub b o e), fun b => ?_, fun b hb => ?_, fun b hb => ?_⟩, ⟨fun b o e z => same b o (S2.keep b o e z), fun b hb => ?_, S2.grow, S2.shr, fun b hb => ?_⟩, ?_, RepS.frame (Same.refl _) (fun b _ hb => fr b hb) s2⟩
 . have l : M2 b + m2 b <= 1 := G2.le b
   unfold one
   (try dsimp only)
   split
   . rename_i e; subst e; have := zz b hx; omega
   . omega
 . by_cases e : b = x
   . subst e; exact hsx
   . have hb : M2 b + (one x b + m2 b) = 1 := hb
     simp only [one, if_neg e] at hb
     exact G2.ne b (by show M2 b + m2 b = 1; omega)
 . by_cases e : b = x
   . subst e; rw [atx]; simp
   . have hb : M2 b + (one x b + m2 b) = 1 := hb
     simp only [one, if_neg e] at hb
     have := G2.has b (by show M2 b + m2 b = 1; omega)
     obtain ⟨h1, h2⟩ := old b this
     rw [nw b h1 h2]; exact this
 . by_cases e : b = x
   . subst e
     right
     cases w : H b with
     | none => rfl
     | some o => exact absurd hx (S2.stay b (by rw [w]; simp))
   . have hb : M2 b + (one x b + m2 b) = 1 := hb
     simp only [one, if_neg e] at hb
     exact S2.own b (by show M2 b + m2 b = 1; omega)
 . have := S2.stay b hb
   obtain ⟨h1, h2⟩ := old b this
   rw [nw b h1 h2]; exact this
 . exact .cons (.own (vs := []) (m' := fun _ => 0) ⟨rfl, dx, atx⟩ (.nil _) fun b => by simp) (q2.frame (Same.refl _) fun b _ hb => fr b hb) fun b => Nat.le_refl _
theorem Zjx {K : Fg} {fi : FI} {σ : L2.St} {H H1 Hs Hs1 : Hp} {M m1 M1 : Bud} {δ1 : List D} {ps : List Op} {vs : List V} {Q : VK} {Ex : Addr -> Hp -> Prop} {A x dx : Addr} (g : Good H Hs M) (g1 : Good H1 Hs1 (fun b => m1 b + M1 b)) (st1 : Stp H Hs M H1 Hs1 (fun b => m1 b + M1 b))
 (r1 : ZaL K H1 Hs1 σ vs ps m1) (s1 : RepS K H1 Hs1 σ δ1 M1) (hx : H1 x = none) (hdx : H1 dx = none) (hne : dx ≠ x)
 (q : match makX A fi ps δ1 with
  | .ok (d, δ') => ∀ (v : V) (H' Hs' : Hp) (m M' : Bud), Good H' Hs' (fun b => m b + M' b) -> Stp H Hs M H' Hs' (fun b => m b + M' b) -> Rep K H' Hs' v d m -> RepS K H' Hs' σ δ' M' -> Q v H'
  | .exc x δ' => ∀ (ea : Addr) (H' Hs' : Hp) (m M' : Bud), Good H' Hs' (fun b => m b + M' b) -> Stp H Hs M H' Hs' (fun b => m b + M' b) -> Rep K H' Hs' (.ref ea) x m -> RepS K H' Hs' σ δ' M' -> Ex ea H'
  | .stuck => False) : spX K fi.run (.ref x :: vs) (upd (upd H1 dx (.own x)) x (.ins A dx [])) (fun v H2 => v = .non /\ Q (.ref x) H2) (fun v _ H' => ∃ ea, v = .ref ea /\ Ex ea H') := by
 unfold makX T.M.bnd at q
 cases e2 : ZI fi.lend ps δ1 with
 | exc x y => exact absurd e2 (ZaY _ _ _ _ _)
 | stuck => rw [e2] at q; exact q.elim
 | ok z =>
  obtain ⟨ds, δ2⟩ := z
  rw [e2] at q
  dsimp only at q
  obtain ⟨Hs2, m2, M2, g2, st2, q2, s2⟩ := Zbw (B := fun _ => 0) (g1.re fun b => by simp) s1 r1 e2
  have z0 := Zr (m1 := fun _ => 0) g (g1.re fun b => by simp) (st1.drop (fun b => by simp) g1.le) (g2.re fun b => by simp) (M1 := fun b => m1 b + M1 b) (M2 := fun b => m2 b + M2 b) (by
   have := st2
   exact ⟨fun b o h z => this.keep b o h (by simpa using z), fun b h => by have := this.own b (by simpa using h); simpa using this, this.grow, fun b h h' => by have := this.shr b h h'; simpa using this, this.stay⟩)
  have G2 : Good H1 Hs2 (fun b => M2 b + m2 b) := g2.re fun b => by simp; omega
  have S2 : Stp H Hs M H1 Hs2 (fun b => M2 b + m2 b) := z0.2.1.drop (fun b => by simp; omega) z0.1.le
  obtain ⟨G3, S3, q3, s3⟩ := stand (A := A) G2 S2 hx hdx hne q2 s2
  refine ⟨_, Hs2, fun b => one x b + m2 b, G3.re fun b => by (try dsimp only); omega, q3, ?_⟩
  cases hF : fi.run (.node (.ins A []) true [] :: ds) with
  | stuck => rw [hF] at q; exact q.elim
  | ok r =>
   obtain ⟨d', ds'⟩ := r
   rw [hF] at q
   intro v H4 Hs4 n1 n2 g4 st4 r4 rl4
   match d', ds', q, r4, rl4 with
   | .sc .non, dI :: ds', q, r4, rl4 =>
    obtain ⟨δ3, e3⟩ := ZaN ps ds' δ2
    dsimp only at q
    rw [e3] at q
    cases r4
    refine ⟨rfl, ?_⟩
    cases rl4 with
    | @cons _ _ _ _ k1 k2 _ ra rb lk =>
     obtain ⟨G, S, k⟩ := Zr g G3 S3 g4 st4
     have s4 := RepS.frame st4.grow k s3
     have fin := ZaA s4 rb (lates r1) e3
     exact q _ H4 Hs4 k1 (fun b => k2 b + M2 b) (G.re fun b => by have := lk b; (try dsimp only); omega) (S.drop (fun b => by have := lk b; (try dsimp only); omega) G.le) ra fin
  | exc y ds' =>
   rw [hF] at q
   intro ea H4 Hs4 n1 n2 g4 st4 r4 rl4
   match ds', q, rl4 with
   | dI :: ds', q, rl4 =>
    obtain ⟨δ3, e3⟩ := ZaN ps ds' δ2
    dsimp only at q
    rw [e3] at q
    cases rl4 with
    | @cons _ _ _ _ k1 k2 _ ra rb lk =>
     obtain ⟨G, S, k⟩ := Zr g G3 S3 g4 st4
     have s4 := RepS.frame st4.grow k s3
     have fin := ZaA s4 rb (lates r1) e3
     exact ⟨ea, rfl, q ea H4 Hs4 n1 (fun b => k2 b + M2 b) (G.re fun b => by have := lk b; (try dsimp only); omega) (S.drop (fun b => by have := lk b; (try dsimp only); omega) G.le) r4 fin⟩
structure MkAtX (P : Program) (w : World) (K : Fg) (mg : Str -> Option Value) (base : Heap) (x : Str) (C : Addr) (k : Nat) (ps : List Str) (sp : Sp) : Prop where
 ex : ∃ (f : Addr) (fd : FuncData), FnOk P w K mg base (CXx P w) k f fd ps sp /\ Mk K C f /\ mg x = some (.ref C) /\ Binds K fd ps []
theorem MkAtX.calm {P : Program} {w : World} {K : Fg} {mg : Str -> Option Value} {base : Heap} {x : Str} {C : Addr} {k : Nat} {ps : List Str} {R : List D -> Rs (D × List D)} (G : MkAtX P w K mg base x C k ps (spX K R)) : MkAt P w K mg base x C k ps (spF K R) := by
 obtain ⟨f, fd, F, h⟩ := G.ex
 exact ⟨f, fd, FnOk.calm F, h⟩
section
variable {X : Cx} {e : Expr} {es : List Expr} {p pos : Pos} {x : Str} {j n : Nat} {fi : FI} {ps : List Str} {A : Addr} {C : Ctx} {es' : List E}
theorem qnx (G : MkAtX X.prog X.w X.K X.mg X.base x A j ps (spX X.K fi.run)) (hr : Room n X.A) (ha : PA X (e :: es) (tPs X.K (opds C es'))) (hj : j + 1 <= n := by decide) (hz : glOk X.env.scope x = true := by kernel_rfl)
 (he : starEach (e :: es) X.env = (false, eval e X.env) :: starEach es X.env := by rfl) (hpl : (backTo pos (starEach es X.env)).any (·.1) = false := by rfl) :
 PEx X (.Call (.Name x p) (e :: es) [] pos) (tMX X.K (yev C (.new A fi es'))) := by
 obtain ⟨f, fd, F, mk, hm, hb⟩ := G.ex
 refine PEx.imp (ZiO mk F (hr.mono hj) (glk hz) hm hb .nil ha (dbk hz) he hpl) fun σ H Q Ex z0 => ?_
 obtain ⟨δ, Hs, M, g, s, q⟩ := z0
 rw [ZgJ] at q
 unfold T.M.bnd at q
 cases e1 : opds C es' δ with
 | exc x y => exact absurd e1 (ZN _ _ _ _ _)
 | stuck => rw [e1] at q; exact q.elim
 | ok z =>
  obtain ⟨qs, δ1⟩ := z
  rw [e1] at q
  refine ⟨δ, Hs, M, qs, δ1, g, s, e1, fun vs H1 Hs1 m1 M1 g1 st1 r1 s1 x dx hx hdx hne => ?_⟩
  show spX X.K fi.run (.ref x :: (vs ++ [])) _ _ _
  rw [List.append_nil]
  exact Zjx g g1 st1 r1 s1 hx hdx hne q
end
section
variable {e : En} {x q : Str} {st : Stmt} {N ps : List Str} {k n nN : Nat} {C : Ctx} {body : List S} {A : Addr}
abbrev En.nx (e : En) (x : Str) (C : Addr) (k : Nat) (ps : List Str) (f : FI) : Prop := MkAtX e.P e.w e.K e.mg e.base x C k ps (spX e.K f.run)
theorem ZnG (Y : Bo e) (c : CI e.K x A) (F : MI e.K A "__init__" q st) (N : List Str) (hb : bx_ e N q st k n C body) (hs : scOk N ps (Zq st) = true := by kernel_rfl) (hn : ps.length = n := by rfl) (hN : N.length = nN := by rfl)
 (us : us_ st "__init__" q ps := by intro _ _ _ _ _ _; first | exact us2 fun _ _ => rfl | exact us3 fun _ _ _ => rfl | exact us5 fun _ _ _ _ _ => rfl) :
 MkAtX e.P e.w e.K e.mg e.base x A (k + 1) ps (spX e.K (Zu C n nN body)) := by
 obtain ⟨f, fd, h1, y, F⟩ := F
 obtain ⟨h, X, G⟩ := Y
 exact ⟨f, fd, ZgH F (ZdA hs) hn hN fun cdv A o s H E => hb f cdv A o s H E, ⟨c.mk_, h1, y, c.kp⟩, PySem.W.mg_of X G c.at_, F.binds us⟩
end
theorem ZqD (C : Ctx) (y : YE) : ex C (.exY y) = ((yev C y).bnd fun _ => M.ret .nx) := (rfl)
end T
namespace L2
open PySem PySem.Spec PyProof.Rows
section
variable {X : Cx} {o value : Expr} {pos pos' : Pos} {f : Str} {ta : TE} {tv : TEX}
theorem ZnH (ha : PE X o ta) (hv : PEx X value tv) (hs : swapsWith value (some (.Attribute o f pos')) pos.line X.env = pure false) :
 PX X (.Assign [.Attribute o f pos'] value pos) fun D σ H => tv σ H (fun v H1 => ta σ H1 fun x H2 => ∃ a C dx fs, x = .ref a /\ H2 a = some (.ins C dx fs) /\ Cls X.K C /\ ZD X.K C f /\ fs.length < 1000 /\ D.nx σ (upd H2 a (.ins C dx (putF f v fs)))) (fun ea H1 => D.xc ea σ H1) := by
 intro pins s σ H D I h
 refine plainObj_wpAny_Assign_Attribute (wpAny_mono (hv pins s σ H _ _ I h) (fun u s1 ⟨y, H1, I1, ry, q⟩ => ?_) fun _ _ z => z.xp fun _ _ q => q) hs
 refine wpAny_mono (ha pins s1 σ H1 _ I1 q) (fun ov s2 ⟨x, H2, I2, rx, a, C, dx, fs, ex, ea, c, n, l, q2⟩ => ?_) (fun _ _ z => .inl z)
 subst ex
 obtain rfl : ov = Value.ref a := rx
 exact ZdS I2 ea c n l ry fun s3 I3 => ⟨σ, _, I3, q2⟩
end
end L2
namespace T
open PySem PySem.Spec L2 PyProof.Rows
section
variable {X : Cx} {o value : Expr} {pos pos' : Pos} {f : Str} {i : Nat} {c : M D} {lk : Nat -> Bool}
theorem ZfU {ok : Addr -> Str -> Bool} (hf : ∀ C f, ok C f = true -> Cls X.K C /\ ZD X.K C f) (ho : PE X o (tVar i)) (hv : PEx X value (tMX X.K c)) (hs : swapsWith value (some (.Attribute o f pos')) pos.line X.env = pure false := by rfl) :
 PX X (.Assign [.Attribute o f pos'] value pos) (tX X.K lk (c.bnd fun d => (ZB i).bnd fun _ => (modS i (putD ok f d)).bnd fun _ => M.ret .nx)) := PX.imp (ZnH ho hv hs) fun E σ H z0 => by
 obtain ⟨δ, Hs, M, g, s, q⟩ := z0
 refine ⟨δ, Hs, M, g, s, ?_⟩
 unfold T.M.bnd at q
 cases e1 : c δ with
 | stuck => rw [e1] at q; exact q.elim
 | exc x δ' => rw [e1] at q; exact fun ea H' Hs' m M' g' st' r s' => q ea σ H' Hs' m M' (Keeps.refl _ _) g' st' r s'
 | ok z =>
  obtain ⟨d, δ1⟩ := z
  rw [e1] at q
  dsimp only at q ⊢
  intro v H1 Hs1 m1 M1 g1 st1 r1 s1
  cases e2 : ZB i δ1 with
  | exc x y => exact absurd e2 (Zcv _ _ _ _)
  | stuck => rw [e2] at q; exact q.elim
  | ok z =>
   obtain ⟨p0, δ2⟩ := z
   rw [e2] at q
   dsimp only at q
   cases e3 : modS i (putD ok f d) δ2 with
   | exc x y => exact absurd e3 (ZbP _ _ _ _ _)
   | stuck => rw [e3] at q; exact q.elim
   | ok z =>
    obtain ⟨r0, δ3⟩ := z
    rw [e3] at q
    obtain ⟨rfl, vo, hvo⟩ := Zd0 s1 e2
    obtain ⟨kk, ds0, k', ds', hi, hff, rfl⟩ := Zcr e3
    obtain ⟨p1, us, m', n2, e8, nn, rl, le, fin⟩ := modL g1 s1 hi
    rw [hvo] at e8
    cases e8
    refine ⟨_, hvo, ?_⟩
    unfold putD at hff
    split at hff
    . rename_i ds C fs
      split at hff
      . rename_i hc
        cases hff
        obtain ⟨hl, dx, hH⟩ := nn
        obtain ⟨z1, z2⟩ := Zc7 f v fs us hl
        obtain ⟨G, S, R, SS⟩ := fin (.ins C dx (putF f v (fs.zip us))) (.ins C (putN f fs)) (T.putV f v fs us) (T.putV f d fs ds0) (fun b => m' b + m1 b) (fun _ => 0) .non (.sc .non) (fun b => by (try dsimp only); omega) ⟨z2, dx, by rw [Zi, z1]⟩ (rl.putV f r1 hl) (.sc _ _)
        have z := Zr (m1 := fun _ => 0) g (g1.re fun b => by simp) (st1.drop (fun b => by simp) g1.le) G S
        refine ⟨p1, C, dx, fs.zip us, rfl, hH, (hf C f hc.2).1, (hf C f hc.2).2, ?_, ?_⟩
        . rw [List.length_zip, hl, Nat.min_self]
          rw [<- hl]
          exact hc.1
        . exact q σ _ Hs1 _ (Keeps.refl _ _) (G.re fun b => by (try dsimp only); omega) ((z.2.1.drop (fun b => by simp) z.1.le).drop (fun b => by (try dsimp only); omega) G.le) SS
      . cases hff
    . cases hff
end
section
variable {X : Cx} {tg iter : Expr} {body : List Stmt} {pos : Pos} {tgt : Tg} {C : T.Ctx} {body' : List S}
theorem Zjy {d : D} (F : Fr0 X X.A) (hx : ∀ e s, ¬ X.xe e s) (hc : X.calm = true) (he : PE X iter (tM X.K (M.ret d))) (hg : PG X tg (gT X.K tgt)) (hb : PXs X body (tX X.K (fun j => C.lock j || walked [.g d] j) (exs { C with lock := fun j => C.lock j || walked [.g d] j } body'))) (hs : ∀ x, foldedSetIterable iter X.env x = pure x := by intro _; rfl) :
 PX X (.For tg iter body [] pos) (tX X.K C.lock (ex C (.forX tgt .val [.g d] body'))) := by
 have e : ex C (.forX tgt .val [.g d] body') = ((((M.ret d).bnd fun d => M.ret (.tmp d)).bnd fun p => (M.ret ([] : List Op)).bnd fun ps => M.ret (p :: ps)).bnd fun ps => (Zw ps).bnd fun h => (lift (itW .val h.1)).bnd fun items δ => finB h.2 (forL (asgT (fun j => C.lock j || walked [.g d] j) tgt) (exs { C with lock := fun j => C.lock j || walked [.g d] j } body') items δ)) := rfl
 rw [e]
 exact ZfR (Zc (Zc (Zl _) fun _ => Zl _) fun _ => Zc (Zl _) fun _ => Zl _) F hx hc (ZbK _ _) (hw_1 ZfE) (Zbc (Za he)) hg hb hs
end
section
variable {X : Cx} {e : Expr} {p pos pos' : Pos} {x : Str} {ns ps : List Str} {j n : Nat} {fi : FI} {lk : Nat -> Bool} {C : T.Ctx} {v : V}
theorem qrK (G : XMk X.prog X.w X.K X.mg X.base x ns j ps (spF X.K fi.run)) (hr : Room n X.A) (hk : PE X e (tM X.K (M.ret (.sc v)))) (hz : glOk X.env.scope x = true := by kernel_rfl) (hj : j + 1 <= n := by decide) (hc : X.calm = true := by rfl)
 (he : starEach [e] X.env = [(false, eval e X.env)] := by rfl) : PX X (.Raise (some (.Call (.Name x p) [e] [] pos')) none pos) (tX X.K lk (ex C (.raiseI ns fi [.k v]))) := by
 have ha : PA X [e] (tPs X.K (opds C [.k v])) := Ze (Za hk) Zg (by rw [he]; rfl)
 exact Zem hc (ZN C [.k v]) G hr ha hj hz (by rw [he]; rfl) rfl
end
theorem Zl2 (C : Ctx) (i : Nat) (f : Str) (fi : FI) (es : List E) : ex C (.attrC i f fi es) = (((opds C es).bnd fun ps => ZaJ fi ps).bnd fun d => (ZB i).bnd fun _ => (modS i (putD C.fok f d)).bnd fun _ => M.ret .nx) := (rfl)
end T
namespace T
open PySem PySem.Spec L2
theorem Zh {X : Cx} {i : Int} {j} {pos : Pos} : PE X (.Constant (.int i) j pos) (tP X.K ((M.ret (.sc (.int i))).bnd fun d => M.ret (.tmp d))) := Za (ok_k ZaO)
theorem ZqR {X : Cx} {sc : Scope} {N} {i : Nat} {x : Str} {b : Bool} {pos : Pos} (h : Zv sc N i x b = true) (e1 : X.env.scope = sc := by rfl) (e2 : X.N = N := by rfl) : PE X (.Name x pos) (tP X.K (ZB i)) := Zg7 (pvs h e1 e2)
end T
namespace My
open PySem PySem.Spec L2 T
local macro_rules | `(tactic| walk_at "d") => `(tactic| decide +kernel)
section
seal L2.PE L2.PS L2.PSs L2.PT L2.PI L2.PA L2.PG L2.PGs L2.PX L2.PXs L2.PEx
noncomputable def top (i : Nat) : Stmt := PySem.Challenge.pw_barlabel_k02_tables_refused.main.body.getD i (.Pass ⟨0, 0, 0, 0⟩)
noncomputable def Zbq (s : Stmt) (i : Nat) : Stmt := match s with
 | .ClassDef (body := b) .. => b.getD i (.Pass ⟨0, 0, 0, 0⟩)
 | _ => .Pass ⟨0, 0, 0, 0⟩
noncomputable def CK (C : Addr) : T.Ctx := { C0 with fok := fun A f => decide (A = C) && (f == "size" || f == "meanings" || f == "text") }
noncomputable def Zeo (K : Fg) : Addr := match PySem.W.nsIn K mainGlobals "Table" with
 | some (some (.ref C)) => C
 | _ => 0
structure Txt (e : T.En) (C : Addr) : Prop where
 Y : T.Bo e
 ValueError_ : e.mg "ValueError" = none
 all_ : e.mg "all" = none
 any_ : e.mg "any" = none
 bool_ : e.mg "bool" = none
 isinstance_ : e.mg "isinstance" = none
 len_ : e.mg "len" = none
 min_ : e.mg "min" = none
 range_ : e.mg "range" = none
 str_ : e.mg "str" = none
 MOST_ROWS_ : ∃ t, e.mg "MOST_ROWS" = some (.int 5 t)
 SIGNS_ : ∃ t, e.mg "SIGNS" = some (.str "abcdefghijklmnopqrstuvwxyz0123456789" t)
 PRIMES_ : T.ModT e.K e.mg "PRIMES" (([5, 7, 11, 13, 17, 19, 23, 29, 31, 37, 41, 43, 47] : List Int).map V.int)
 x_a : T.LX e.K e.mg "Lost"
 x_b : T.LX e.K e.mg "Mixed"
 x_c : T.LX e.K e.mg "NoForm"
 x_d : T.LX e.K e.mg "NoFount"
 x_e : T.LX e.K e.mg "NoLabel"
 x_f : T.LX e.K e.mg "NoName"
 x_g : T.LX e.K e.mg "NoReading"
 x_h : T.LX e.K e.mg "NoRoom"
 x_i : T.LX e.K e.mg "NoSymbol"
 x_j : T.LX e.K e.mg "NoTable"
 x_k : T.LX e.K e.mg "NoWriting"
 x_l : T.LX e.K e.mg "Spoilt"
 x_m : T.LX e.K e.mg "TooLong"
 le : T.LT e.K e.mg "LabelError"
 li : T.LI e.K e.mg "LabelError"
 i_j : ∃ C, e.mg "NoTable" = some (.ref C) /\ XN e.K ["NoTable", "LabelError"] C /\ T.II e.K C "NoTable.__init__" (Zbq (top 3) 0)
 ci : T.CI e.K "Table" C
 nF_size : ZD e.K C "size"
 nF_meanings : ZD e.K C "meanings"
 nF_text : ZD e.K C "text"
theorem Txt.fok {e : T.En} {C : Addr} (Z : Txt e C) : ∀ A f, (CK C).fok A f = true -> Cls e.K A /\ ZD e.K A f := fun A f h => by
 unfold CK at h
 simp only [Bool.and_eq_true, Bool.or_eq_true, decide_eq_true_eq, beq_iff_eq] at h
 obtain ⟨rfl, h⟩ := h
 rcases h with (rfl | rfl) | rfl
 . exact ⟨Z.ci.cl, Z.nF_size⟩
 . exact ⟨Z.ci.cl, Z.nF_meanings⟩
 . exact ⟨Z.ci.cl, Z.nF_text⟩
variable {e : T.En} {C : Addr}
noncomputable def Zbm : List T.S := [.ex (.bf .xinit [.v 0, .fs [.k (.str "no text of a table: row "), .v 1]]), .attrX 0 "row" (.v 1)]
noncomputable def Zk : T.FI := ⟨true, T.Zu C0 2 2 Zbm⟩
abbrev ZX (e : T.En) : Prop := e.xi "NoTable" 1 ["self", "row"] Zk
theorem ZcK (Z : Txt e C)  : ZX e :=
 T.ZqC (C := C0) (body := Zbm) (k := 0) Z.Y Z.i_j ["self", "row"] fun _ _ _ _ _ _ _ hr =>
 (Zd (Zdy (by obtain ⟨D', h1, h2⟩ := Z.li; exact Zjo h2 g_ h1 (Ze ql (Ze (Za (Zfo (Zfn (Zfm ql Zfl)))) Zg))))
  (Zd (Zjn qv (ok_v qv))
  Zo))
noncomputable def ZcI : List T.S := [.forX (.name 1) .val [.g (.node .ftp false ((([5, 7, 11, 13, 17, 19, 23, 29, 31, 37, 41, 43, 47] : List Int).map V.int).map D.sc))] [.iff (.cmp .Eq (.v 0) (.fs [.k (.str "symbols "), .v 1])) [.ret (.v 1)] []], .raiseI ["NoTable", "LabelError"] Zk [.k (.int 0)]]
noncomputable def Zbg : T.FI := ⟨true, T.Zu C0 1 2 ZcI⟩
abbrev Zdh (e : T.En) : Prop := e.fx "prime_told" 3 ["first"] Zbg
theorem Zfd (F : T.TI e.K "prime_told" (top 25)) (Z : Txt e C) (g0 : ZX e) : Zdh e :=
 T.Zen (C := C0) (body := ZcI) (k := 2) Z.Y F ["first", "prime"] fun _ _ _ _ _ _ _ hF hr =>
 have hu := hr.units
 (Zy (Zjy hF (fun _ _ h => h) rfl (qgu Z.PRIMES_) qt
  (Zy (Zdg (Z5 hu ql (Za (Zfo (Zfn (Zfm ql Zfl))))) (Zy (Zar (Z1 (ZcY qv)))
  ZC) ZC)
  ZC))
  (Zy (qrK g0 hr (ok_k ZaO))
  ZC))
noncomputable def Zbh : List T.S := [.asg 1 (.dct1 (.inr "-") (.tup [.k (.str "nothing"), .k .non])), .for_ (.name 2) .val [.k (.str "abcdefghijklmnopqrstuvwxyz0123456789")] [.sub 1 [] (.v 2) (.tup [.k (.str "sign"), .v 2])], .for_ (.name 3) .rng1 [.v 0] [.sub 1 [] (.fs [.k (.str "lock"), .v 3]) (.tup [.k (.str "lock"), .v 3]), .sub 1 [] (.fs [.k (.str "shift"), .v 3]) (.tup [.k (.str "shift"), .v 3])], .ret (.v 1)]
noncomputable def Zah : T.FI := ⟨true, T.Zu C0 1 4 Zbh⟩
abbrev Zbn (e : T.En) : Prop := e.fn "meanings_of_words" 1 ["cases"] Zah
theorem ZcB (F : T.TI e.K "meanings_of_words" (top 26)) (Z : Txt e C)  : Zbn e :=
 T.Zbf (C := C0) (body := Zbh) (k := 0) Z.Y F ["cases", "meanings", "sign", "case"] fun _ _ _ _ _ _ _ hr =>
 have hu := hr.units
 (Zd (qa (Zjv (key := .inr "-") Zn (ZbW (Zm (ok_k Zn) (Zm (ok_k Zco) Z4)))))
  (Zd (Zl1 PassesOwn.never rfl (qgt Z.SIGNS_) qt
  (Zd (Zcu hu qv ql (ZbW (Zm (ok_k Zn) (Zm (ok_v qv) Z4))))
  Zo))
  (Zd (ZbX PassesOwn.never rfl (ZbK _ _) (hw_1 (Ze4 rfl)) (Zd2 Z.range_ ql) qt
  (Zd (Zcu hu qv (Za (Zfo (Zfn (Zfm ql Zfl)))) (ZbW (Zm (ok_k Zn) (Zm (ok_v qv) Z4))))
  (Zd (Zcu hu qv (Za (Zfo (Zfn (Zfm ql Zfl)))) (ZbW (Zm (ok_k Zn) (Zm (ok_v qv) Z4))))
  Zo)))
  (Zd (Z1 (ZcY qv))
  Zo))))
noncomputable def Zep : List T.S := [.iff (.nt (.bf (.isi .str) [.v 0])) [.raiseI ["NoTable", "LabelError"] Zk [.k .non]] [], .ret (.bm .split (.v 0) [.k (.str "\n")])]
noncomputable def Za0 : T.FI := ⟨true, T.Zu C0 1 1 Zep⟩
abbrev ZeZ (e : T.En) : Prop := e.fx "rows_of" 3 ["text"] Za0
theorem Zhr (F : T.TI e.K "rows_of" (top 27)) (Z : Txt e C) (g0 : ZX e) : ZeZ e :=
 T.Zen (C := C0) (body := Zep) (k := 2) Z.Y F ["text"] fun _ _ _ _ _ _ _ hF hr =>
 (Zy (Zdg (ZbN (ZbU (Za (qi Z.isinstance_ ql Z.str_ Zo7)))) (Zy (qrK g0 hr (ok_k Zco))
  ZC) ZC)
  (Zy (Zar (Z1 (ZfG ql (Ze (Za (ok_k Zn)) Zg))))
  ZC))
noncomputable def ZbA : List T.S := [.iff (.cmp .Gt (.bf .len [.v 0]) (.k (.int 5))) [.raiseI ["NoTable", "LabelError"] Zk [.k (.int 5)]] [], .iff (.cmp .Eq (.bf .len [.v 0]) (.k (.int 1))) [.raiseI ["NoTable", "LabelError"] Zk [.k (.int 1)]] []]
noncomputable def Zav : T.FI := ⟨true, T.Zu C0 1 1 ZbA⟩
abbrev ZbE (e : T.En) : Prop := e.fx "check_row_count" 3 ["rows"] Zav
theorem Zdi (F : T.TI e.K "check_row_count" (top 28)) (Z : Txt e C) (g0 : ZX e) : ZbE e :=
 T.Zen (C := C0) (body := ZbA) (k := 2) Z.Y F ["rows"] fun _ _ _ _ _ _ _ hF hr =>
 have hu := hr.units
 (Zy (Zdg (Z5 hu (Za (ZQ Zad Z.len_ Zae (Ze ql Zg))) (Za (qgi Z.MOST_ROWS_))) (Zy (qrK g0 hr (qgi Z.MOST_ROWS_))
  ZC) ZC)
  (Zy (Zdg (Z5 hu (Za (ZQ Zad Z.len_ Zae (Ze ql Zg))) Zh) (Zy (qrK g0 hr (ok_k ZaO))
  ZC) ZC)
  ZC))
noncomputable def ZR : List T.S := [.asg 2 (.call Zah [.bin .Sub (.bf .len [.v 1]) (.k (.int 1))]), .asg 3 (.lst []), .forX (.name 4) .rng2 [.k (.int 1), .bf .len [.v 1]] [.asg 5 (.bm .split (.ix (.v 1) (.v 4)) [.k (.str " ")]), .iff (.or (.cmp .NotEq (.bf .len [.v 5]) (.v 0)) (.nt (.bf .all [.comp 1 [2] (.name 0) .val [.v 5] [] (.cmp .In (.v 0) (.v 1))]))) [.raiseI ["NoTable", "LabelError"] Zk [.v 4]] [], .ex (.mut .append 3 [] [.comp 1 [2] (.name 0) .val [.v 5] [] (.ix (.v 1) (.v 0))])], .ret (.v 3)]
noncomputable def Zap : T.FI := ⟨true, T.Zu C0 2 6 ZR⟩
abbrev ZbB (e : T.En) : Prop := e.fx "meanings_of_rows" 3 ["prime", "rows"] Zap
theorem ZcL (F : T.TI e.K "meanings_of_rows" (top 29)) (Z : Txt e C) (g2 : Zbn e) (g0 : ZX e) : ZbB e :=
 T.Zen (C := C0) (body := ZR) (k := 2) Z.Y F ["prime", "rows", "words", "found", "number", "row"] fun _ _ _ _ _ _ _ hF hr =>
 have hu := hr.units
 (Zy (Zar (qa (ZG g2 hr (Ze (Za (qb (Za (ZQ Zad Z.len_ Zae (Ze ql Zg))) Zh)) Zg))))
  (Zy (Zar (qa (ZP Z4)))
  (Zy (ZfR (ZN _ _) hF (fun _ _ h => h) rfl (ZbK _ _) (hw_2 (Zdb rfl) (Zdb rfl)) (ZkN Z.range_ Zh (Za (ZQ Zad Z.len_ Zae (Ze ql Zg)))) qt
  (Zy (Zar (qa (ZfG (Za (Zan hu ql ql)) (Ze (Za (ok_k Zn)) Zg))))
  (Zy (Zdg (PW.pt (ZbV (Z5 hu (Za (ZQ Zad Z.len_ Zae (Ze ql Zg))) ql) (Zcq (ZbN (ZbU (Za (ZQ (Zm9 rfl) Z.all_ ZmJ (Ze (Za (Zd4 rfl (cS ["word", "words"]) (Zbc ql) (fun _ _ _ _ _ => ⟨qt, Zda, (Ze8 hu ql ql)⟩))) Zg)))))))) (Zy (Zem rfl (ZN _ _) g0 hr (Ze ql Zg))
  ZC) ZC)
  (Zy (Zar (Zdy (ZcX qv (Zm (Zd4 rfl (cS ["word", "words"]) (Zbc ql) (fun _ _ _ _ _ => ⟨qt, Zda, (Zan hu ql ql)⟩)) Z4))))
  ZC))))
  (Zy (Zar (Z1 (ZcY qv)))
  ZC))))
noncomputable def ZbF (C : Addr) : List T.S := [.asgX 2 Za0 [.v 1], .attrC 0 "size" Zbg [.ix (.v 2) (.k (.int 0))], .exX Zav [.v 2], .attrC 0 "meanings" Zap [.fld (.v 0) "size", .v 2], .attr 0 "text" (.v 1)]
noncomputable def Zx (C : Addr) : T.FI := ⟨true, T.Zu (CK C) 2 3 (ZbF C)⟩
abbrev ZaV (e : T.En) (C : Addr) : Prop := e.nx "Table" C 4 ["self", "text"] (Zx C)
theorem ZdF (F : T.MI e.K C "__init__" "Table.__init__" (Zbq (top 30) 0)) (Z : Txt e C) (g3 : ZeZ e) (g1 : Zdh e) (g4 : ZbE e) (g5 : ZbB e) : ZaV e C :=
 T.ZnG (C := (CK C)) (body := (ZbF C)) (k := 3) Z.Y Z.ci F ["self", "text", "rows"] fun _ _ _ _ _ _ _ hF hr =>
 have hu := hr.units
 (Zy (qax (Zel (ZN _ _) g3 hr (Ze ql Zg)))
  (Zy (ZfU Z.fok qv (Zel (ZN _ _) g1 hr (Ze (Za (Zan hu ql Zh)) Zg)))
  (Zy (ZeX (Zel (ZN _ _) g4 hr (Ze ql Zg)))
  (Zy (ZfU Z.fok qv (Zel (ZN _ _) g5 hr (Ze (Za (Zid Z.fok ql)) (Ze ql Zg))))
  (Zy (Zar (ZkT Z.fok qv (ok_v qv)))
  ZC)))))
noncomputable def Zcw (C : Addr) : List T.S := [.ret (.fld (.v 0) "text")]
noncomputable def ZaT (C : Addr) : T.FI := ⟨true, T.Zu (CK C) 1 1 (Zcw C)⟩
abbrev ZcJ (e : T.En) (C : Addr) : Prop := e.me C "shown" 1 ["self"] (ZaT C)
theorem ZeB (F : T.MI e.K C "shown" "Table.shown" (Zbq (top 30) 4)) (Z : Txt e C)  : ZcJ e C :=
 T.Zq7 (C := (CK C)) (body := (Zcw C)) (k := 0) Z.ci.cl F ["self"] fun _ _ _ _ _ _ _ hr =>
 (Zd (Z1 (Zid Z.fok ql))
  Zo)
noncomputable def Zdj : List T.S := [.iff (.cmp .GtE (.v 1) (.bf .len [.v 0])) [.ret (.k (.int 0))] [], .ret (.ix (.v 0) (.v 1))]
noncomputable def Za5 : T.FI := ⟨true, T.Zu C0 2 2 Zdj⟩
abbrev ZdI (e : T.En) : Prop := e.fn "_law_cell" 1 ["_law_script", "_law_place"] Za5
theorem ZfV (F : T.TI e.K "_law_cell" (top 32)) (Z : Txt e C)  : ZdI e :=
 T.Zbf (C := C0) (body := Zdj) (k := 0) Z.Y F ["_law_script", "_law_place"] fun _ _ _ _ _ _ _ hr =>
 have hu := hr.units
 (Zd (Zau (Z5 hu ql (Za (ZQ Zad Z.len_ Zae (Ze ql Zg)))) (Zd (Z1 (ok_k ZaO))
  Zo) Zo)
  (Zd (Z1 (Zan hu ql ql))
  Zo))
noncomputable def Zbi : List T.S := [.asg 3 (.bin .Mod (.v 0) (.k (.int 1000000009))), .asg 4 (.bin .Mod (.bin .FloorDiv (.v 0) (.k (.int 1000000009))) (.k (.int 998244353))), .asg 5 (.bin .Mod (.bin .Mult (.bin .Add (.bin .Add (.v 3) (.bin .Mult (.k (.int 7919)) (.v 1))) (.k (.int 1))) (.bin .Add (.bin .Add (.v 4) (.bin .Mult (.k (.int 104729)) (.v 1))) (.k (.int 2)))) (.k (.int 2147483629))), .ret (.bin .Mod (.bin .Mod (.bin .Mult (.v 5) (.bin .Add (.bin .Add (.v 5) (.bin .Mult (.k (.int 2)) (.v 1))) (.k (.int 3)))) (.k (.int 2147483629))) (.v 2))]
noncomputable def Zt : T.FI := ⟨true, T.Zu C0 3 6 Zbi⟩
abbrev Zck (e : T.En) : Prop := e.fn "_law_spun" 1 ["_law_cell_here", "_law_turn", "_law_many"] Zt
theorem ZfW (F : T.TI e.K "_law_spun" (top 33)) (Z : Txt e C)  : Zck e :=
 T.Zbf (C := C0) (body := Zbi) (k := 0) Z.Y F ["_law_cell_here", "_law_turn", "_law_many", "_law_low", "_law_high", "_law_number"] fun _ _ _ _ _ _ _ hr =>
 (Zd (qa (qb ql Zh))
  (Zd (qa (qb (Za (qb ql Zh)) Zh))
  (Zd (qa (qb (Za (qb (Za (qb (Za (qb ql (Za (qb Zh ql)))) Zh)) (Za (qb (Za (qb ql (Za (qb Zh ql)))) Zh)))) Zh))
  (Zd (Z1 (qb (Za (qb (Za (qb ql (Za (qb (Za (qb ql (Za (qb Zh ql)))) Zh)))) Zh)) ql))
  Zo))))
noncomputable def Zbj : List T.S := [.iff (.cmp .Lt (.bin .Mod (.v 0) (.k (.int 16))) (.k (.int 10))) [.ret (.ix (.v 1) (.bin .Mod (.bin .FloorDiv (.v 0) (.k (.int 16))) (.bf .len [.v 1])))] [], .iff (.cmp .Lt (.bin .Mod (.v 0) (.k (.int 16))) (.k (.int 12))) [.ret (.bin .Add (.k (.str "lock")) (.bf .str [.bin .Mod (.bin .FloorDiv (.v 0) (.k (.int 16))) (.v 2)]))] [], .iff (.cmp .Lt (.bin .Mod (.v 0) (.k (.int 16))) (.k (.int 14))) [.ret (.bin .Add (.k (.str "shift")) (.bf .str [.bin .Mod (.bin .FloorDiv (.v 0) (.k (.int 16))) (.v 2)]))] [], .ret (.k (.str "-"))]
noncomputable def Zac : T.FI := ⟨true, T.Zu C0 3 3 Zbj⟩
abbrev ZdJ (e : T.En) : Prop := e.fn "_law_word" 1 ["_law_x", "_law_pool", "_law_cases"] Zac
theorem ZfX (F : T.TI e.K "_law_word" (top 34)) (Z : Txt e C)  : ZdJ e :=
 T.Zbf (C := C0) (body := Zbj) (k := 0) Z.Y F ["_law_x", "_law_pool", "_law_cases"] fun _ _ _ _ _ _ _ hr =>
 have hu := hr.units
 (Zd (Zau (Z5 hu (Za (qb ql Zh)) Zh) (Zd (Z1 (Zan hu ql (Za (qb (Za (qb ql Zh)) (Za (ZQ Zad Z.len_ Zae (Ze ql Zg)))))))
  Zo) Zo)
  (Zd (Zau (Z5 hu (Za (qb ql Zh)) Zh) (Zd (Z1 (qb (Za (ok_k Zn)) (Za (Zak Zal Z.str_ Zam (Ze (Za (qb (Za (qb ql Zh)) ql)) Zg)))))
  Zo) Zo)
  (Zd (Zau (Z5 hu (Za (qb ql Zh)) Zh) (Zd (Z1 (qb (Za (ok_k Zn)) (Za (Zak Zal Z.str_ Zam (Ze (Za (qb (Za (qb ql Zh)) ql)) Zg)))))
  Zo) Zo)
  (Zd (Z1 (ok_k Zn))
  Zo))))
noncomputable def ZaD : List T.S := [.asg 2 (.call Za5 [.v 0, .v 1]), .asg 3 (.kl [(.int 5), (.int 7), (.int 11), (.int 13), (.int 17), (.int 19), (.int 23), (.int 29), (.int 31), (.int 37), (.int 41), (.int 43), (.int 47), (.int 5), (.int 7), (.int 5), (.int 7), (.int 11)]), .asg 4 (.ix (.v 3) (.call Zt [.v 2, .k (.int 1), .k (.int 18)])), .asg 5 (.bin .Add (.k (.int 1)) (.call Zt [.v 2, .k (.int 2), .k (.int 4)])), .asg 6 (.k (.str "q7abcdefghijklmnoprstuvwxyz012345689")), .asg 7 (.ix (.kl [(.int 2), (.int 4), (.int 8), (.int 36)]) (.call Zt [.v 2, .k (.int 3), .k (.int 4)])), .asg 8 (.sl (.sl (.v 6) (.call Zt [.v 2, .k (.int 4), .bin .Sub (.k (.int 37)) (.v 7)]) (.k .non)) (.k .non) (.v 7)), .asg 9 (.lst []), .for_ (.name 10) .rng1 [.v 5] [.asg 11 (.call Za5 [.v 0, .bin .Add (.bin .Add (.v 1) (.k (.int 1))) (.v 10)]), .asg 12 (.comp 1 [11] (.name 0) .rng1 [.v 4] [] (.call Zt [.v 1, .bin .Add (.k (.int 10)) (.v 0), .bin .Mult (.k (.int 16)) (.k (.int 144))])), .ex (.mut .append 9 [] [.comp 1 [8, 5] (.name 0) .val [.v 12] [] (.call Zac [.v 0, .v 1, .v 2])])], .ret (.v 9)]
noncomputable def Zb2 : T.FI := ⟨true, T.Zu C0 2 13 ZaD⟩
abbrev ZdK (e : T.En) : Prop := e.fn "_law_rows" 2 ["_law_script", "_law_at"] Zb2
theorem ZfY (F : T.TI e.K "_law_rows" (top 35)) (Z : Txt e C) (g8 : ZdI e) (g9 : Zck e) (g10 : ZdJ e) : ZdK e :=
 T.Zbf (C := C0) (body := ZaD) (k := 1) Z.Y F ["_law_script", "_law_at", "_law_first_here", "_law_primes", "_law_prime", "_law_cases", "_law_known", "_law_size", "_law_pool", "_law_rows_here", "_law_case_here", "_law_cell_here", "_law_xs"] fun _ _ _ _ _ _ _ hr =>
 have hu := hr.units
 (Zd (qa (ZG g8 hr (Ze ql (Ze ql Zg))))
  (Zd (qa (Zho (vs := [(.int 5), (.int 7), (.int 11), (.int 13), (.int 17), (.int 19), (.int 23), (.int 29), (.int 31), (.int 37), (.int 41), (.int 43), (.int 47), (.int 5), (.int 7), (.int 5), (.int 7), (.int 11)]) (by kernel_rfl)))
  (Zd (qa (Zan hu ql (Za (ZG g9 hr (Ze ql (Ze Zh (Ze Zh Zg)))))))
  (Zd (qa (qb Zh (Za (ZG g9 hr (Ze ql (Ze Zh (Ze Zh Zg)))))))
  (Zd (qa (ok_k Zn))
  (Zd (qa (Zan hu (Za (Zho (vs := [(.int 2), (.int 4), (.int 8), (.int 36)]) (by kernel_rfl))) (Za (ZG g9 hr (Ze ql (Ze Zh (Ze Zh Zg)))))))
  (Zd (qa (Zb1 (Za (Zb1 ql (Zax (Za (ZG g9 hr (Ze ql (Ze Zh (Ze (Za (qb Zh ql)) Zg)))))) ZbJ)) ZbJ (Zax ql)))
  (Zd (qa (ZP Z4))
  (Zd (ZbX PassesOwn.never rfl (ZbK _ _) (hw_1 (Ze4 rfl)) (Zd2 Z.range_ ql) qt
  (Zd (qa (ZG g8 hr (Ze ql (Ze (Za (qb (Za (qb ql Zh)) ql)) Zg))))
  (Zd (qs (cS ["_law_k", "_law_cell_here"]) (Zd2 Z.range_ ql) (fun _ _ _ _ _ => ⟨qt, Zda, (ZG g9 hr (Ze ql (Ze (Za (qb Zh ql)) (Ze (Za (qb Zh Zh)) Zg))))⟩))
  (Zd (Zdy (ZcX qv (Zm (Zd4 rfl (cS ["_law_x", "_law_pool", "_law_cases"]) (Zbc ql) (fun _ _ _ _ _ => ⟨qt, Zda, (ZG g10 hr (Ze ql (Ze ql (Ze ql Zg))))⟩)) Z4)))
  Zo))))
  (Zd (Z1 (ZcY qv))
  Zo))))))))))
noncomputable def Zdk : List T.S := [.asg 1 (.lst [.bin .Add (.k (.str "symbols ")) (.bf .str [.bf .len [.ix (.v 0) (.k (.int 0))]])]), .for_ (.name 2) .val [.v 0] [.ex (.mut .append 1 [] [.bm .join (.k (.str " ")) [.v 2]])], .ret (.bm .join (.k (.str "\n")) [.v 1])]
noncomputable def Za6 : T.FI := ⟨true, T.Zu C0 1 3 Zdk⟩
abbrev Zcl (e : T.En) : Prop := e.fn "_law_text" 1 ["_law_rows_here"] Za6
theorem ZfZ (F : T.TI e.K "_law_text" (top 36)) (Z : Txt e C)  : Zcl e :=
 T.Zbf (C := C0) (body := Zdk) (k := 0) Z.Y F ["_law_rows_here", "_law_lines", "_law_row"] fun _ _ _ _ _ _ _ hr =>
 have hu := hr.units
 (Zd (qa (ZP (Zm (qb (Za (ok_k Zn)) (Za (Zak Zal Z.str_ Zam (Ze (Za (ZQ Zad Z.len_ Zae (Ze (Za (Zan hu ql Zh)) Zg))) Zg)))) Z4)))
  (Zd (ZbX PassesOwn.never rfl (ZbK _ _) (hw_1 (Ze4 rfl)) (Zbc ql) qt
  (Zd (Zdy (ZcX qv (Zm (ZaM (Za (ok_k Zn)) (Ze ql Zg)) Z4)))
  Zo))
  (Zd (Z1 (ZaM (Za (ok_k Zn)) (Ze ql Zg)))
  Zo)))
noncomputable def Za2 : List T.S := [.asg 2 (.lst [.k (.str ""), .k (.str "symbols"), .k (.str "symbols "), .bin .Add (.k (.str "symbols 0")) (.bf .str [.v 1]), .bin .Add (.k (.str "symbols  ")) (.bf .str [.v 1]), .bin .Add (.k (.str " symbols ")) (.bf .str [.v 1])]), .asg 2 (.bin .Add (.v 2) (.lst [.bin .Add (.bin .Add (.k (.str "symbols ")) (.bf .str [.v 1])) (.k (.str " ")), .bin .Add (.k (.str "Symbols ")) (.bf .str [.v 1]), .bin .Add (.k (.str "symbol ")) (.bf .str [.v 1]), .bf .str [.v 1]])), .asg 2 (.bin .Add (.v 2) (.lst [.k (.str "symbols 4"), .k (.str "symbols 3"), .k (.str "symbols 53"), .k (.str "symbols 9"), .bin .Add (.k (.str "symbols +")) (.bf .str [.v 1]), .k (.str "symbols five")])), .ret (.ix (.v 2) (.bin .Mod (.v 0) (.k (.int 16))))]
noncomputable def ZaE : T.FI := ⟨true, T.Zu C0 2 3 Za2⟩
abbrev Zdl (e : T.En) : Prop := e.fn "_law_first" 1 ["_law_x", "_law_prime"] ZaE
theorem Zfe (F : T.TI e.K "_law_first" (top 37)) (Z : Txt e C)  : Zdl e :=
 T.Zbf (C := C0) (body := Za2) (k := 0) Z.Y F ["_law_x", "_law_prime", "_law_some"] fun _ _ _ _ _ _ _ hr =>
 have hu := hr.units
 (Zd (qa (ZP (Zm (ok_k Zn) (Zm (ok_k Zn) (Zm (ok_k Zn) (Zm (qb (Za (ok_k Zn)) (Za (Zak Zal Z.str_ Zam (Ze ql Zg)))) (Zm (qb (Za (ok_k Zn)) (Za (Zak Zal Z.str_ Zam (Ze ql Zg)))) (Zm (qb (Za (ok_k Zn)) (Za (Zak Zal Z.str_ Zam (Ze ql Zg)))) Z4))))))))
  (Zd (qa (qb ql (Za (ZP (Zm (qb (Za (qb (Za (ok_k Zn)) (Za (Zak Zal Z.str_ Zam (Ze ql Zg))))) (Za (ok_k Zn))) (Zm (qb (Za (ok_k Zn)) (Za (Zak Zal Z.str_ Zam (Ze ql Zg)))) (Zm (qb (Za (ok_k Zn)) (Za (Zak Zal Z.str_ Zam (Ze ql Zg)))) (Zm (Zak Zal Z.str_ Zam (Ze ql Zg)) Z4))))))))
  (Zd (qa (qb ql (Za (ZP (Zm (ok_k Zn) (Zm (ok_k Zn) (Zm (ok_k Zn) (Zm (ok_k Zn) (Zm (qb (Za (ok_k Zn)) (Za (Zak Zal Z.str_ Zam (Ze ql Zg)))) (Zm (ok_k Zn) Z4))))))))))
  (Zd (Z1 (Zan hu ql (Za (qb ql Zh))))
  Zo))))
noncomputable def Zaf : List T.S := [.asg 2 (.lst [.k (.str ""), .k (.str "A"), .k (.str "ab"), .k (.str "--"), .k (.str "lock"), .k (.str "shift"), .bin .Add (.k (.str "lock")) (.bf .str [.v 1]), .bin .Add (.k (.str "shift")) (.bf .str [.v 1]), .k (.str "lock9"), .k (.str "shift9")]), .asg 2 (.bin .Add (.v 2) (.kl [(.str "lock00"), (.str "shift00"), (.str "Lock0"), (.str "shift-0"), (.str "lock+0"), (.str "lock0a"), (.str "locka"), (.str "_"), (.str "."), (.str "10"), (.str "a-"), (.str "none")])), .ret (.ix (.bin .Add (.v 2) (.lst [.k (.str "shift0 "), .k (.str "nothing")])) (.bin .Mod (.v 0) (.k (.int 24))))]
noncomputable def Zaq : T.FI := ⟨true, T.Zu C0 2 3 Zaf⟩
abbrev Zcg (e : T.En) : Prop := e.fn "_law_odd_word" 1 ["_law_x", "_law_cases"] Zaq
theorem ZdP (F : T.TI e.K "_law_odd_word" (top 38)) (Z : Txt e C)  : Zcg e :=
 T.Zbf (C := C0) (body := Zaf) (k := 0) Z.Y F ["_law_x", "_law_cases", "_law_some"] fun _ _ _ _ _ _ _ hr =>
 have hu := hr.units
 (Zd (qa (ZP (Zm (ok_k Zn) (Zm (ok_k Zn) (Zm (ok_k Zn) (Zm (ok_k Zn) (Zm (ok_k Zn) (Zm (ok_k Zn) (Zm (qb (Za (ok_k Zn)) (Za (Zak Zal Z.str_ Zam (Ze ql Zg)))) (Zm (qb (Za (ok_k Zn)) (Za (Zak Zal Z.str_ Zam (Ze ql Zg)))) (Zm (ok_k Zn) (Zm (ok_k Zn) Z4))))))))))))
  (Zd (qa (qb ql (Za (Zho (vs := [(.str "lock00"), (.str "shift00"), (.str "Lock0"), (.str "shift-0"), (.str "lock+0"), (.str "lock0a"), (.str "locka"), (.str "_"), (.str "."), (.str "10"), (.str "a-"), (.str "none")]) (by kernel_rfl)))))
  (Zd (Z1 (Zan hu (Za (qb ql (Za (ZP (Zm (ok_k Zn) (Zm (ok_k Zn) Z4)))))) (Za (qb ql Zh))))
  Zo)))
noncomputable def ZbC : List T.S := [.asg 3 (.bin .Mod (.bin .FloorDiv (.v 1) (.k (.int 4))) (.bf .len [.v 0])), .iff (.cmp .Eq (.bin .Mod (.v 1) (.k (.int 4))) (.k (.int 0))) [.ret (.bm .join (.k (.str " ")) [.bin .Add (.v 0) (.lst [.ix (.v 0) (.v 3)])])] [], .iff (.cmp .Eq (.bin .Mod (.v 1) (.k (.int 4))) (.k (.int 1))) [.ret (.bm .join (.k (.str " ")) [.bin .Add (.sl (.v 0) (.k .non) (.v 3)) (.sl (.v 0) (.bin .Add (.v 3) (.k (.int 1))) (.k .non))])] [], .iff (.cmp .Eq (.bin .Mod (.v 1) (.k (.int 4))) (.k (.int 2))) [.asg 4 (.call Zaq [.bin .FloorDiv (.v 1) (.k (.int 188)), .v 2]), .ret (.bm .join (.k (.str " ")) [.bin .Add (.bin .Add (.sl (.v 0) (.k .non) (.v 3)) (.lst [.v 4])) (.sl (.v 0) (.bin .Add (.v 3) (.k (.int 1))) (.k .non))])] [], .ret (.bin .Add (.bin .Add (.bm .join (.k (.str " ")) [.sl (.v 0) (.k .non) (.v 3)]) (.k (.str "  "))) (.bm .join (.k (.str " ")) [.sl (.v 0) (.v 3) (.k .non)]))]
noncomputable def Zaw : T.FI := ⟨true, T.Zu C0 3 5 ZbC⟩
abbrev ZbG (e : T.En) : Prop := e.fn "_law_turned_row" 2 ["_law_words", "_law_x", "_law_cases"] Zaw
theorem Zdm (F : T.TI e.K "_law_turned_row" (top 39)) (Z : Txt e C) (g14 : Zcg e) : ZbG e :=
 T.Zbf (C := C0) (body := ZbC) (k := 1) Z.Y F ["_law_words", "_law_x", "_law_cases", "_law_at", "_law_bad"] fun _ _ _ _ _ _ _ hr =>
 have hu := hr.units
 (Zd (qa (qb (Za (qb ql Zh)) (Za (ZQ Zad Z.len_ Zae (Ze ql Zg)))))
  (Zd (Zau (Z5 hu (Za (qb ql Zh)) Zh) (Zd (Z1 (ZaM (Za (ok_k Zn)) (Ze (Za (qb ql (Za (ZP (Zm (Zan hu ql ql) Z4))))) Zg)))
  Zo) Zo)
  (Zd (Zau (Z5 hu (Za (qb ql Zh)) Zh) (Zd (Z1 (ZaM (Za (ok_k Zn)) (Ze (Za (qb (Za (Zb1 ql ZbJ (Zax ql))) (Za (Zb1 ql (Zax (Za (qb ql Zh))) ZbJ)))) Zg)))
  Zo) Zo)
  (Zd (Zau (Z5 hu (Za (qb ql Zh)) Zh) (Zd (qa (ZG g14 hr (Ze (Za (qb ql Zh)) (Ze ql Zg))))
  (Zd (Z1 (ZaM (Za (ok_k Zn)) (Ze (Za (qb (Za (qb (Za (Zb1 ql ZbJ (Zax ql))) (Za (ZP (Zm (ok_v qv) Z4))))) (Za (Zb1 ql (Zax (Za (qb ql Zh))) ZbJ)))) Zg)))
  Zo)) Zo)
  (Zd (Z1 (qb (Za (qb (Za (ZaM (Za (ok_k Zn)) (Ze (Za (Zb1 ql ZbJ (Zax ql))) Zg))) (Za (ok_k Zn)))) (Za (ZaM (Za (ok_k Zn)) (Ze (Za (Zb1 ql (Zax ql) ZbJ)) Zg)))))
  Zo)))))
noncomputable def Z6 : List T.S := [.asg 2 (.bf .len [.ix (.v 0) (.k (.int 0))]), .asg 3 (.call Zt [.v 1, .k (.int 1), .k (.int 8)]), .asg 4 (.bin .Add (.lst [.bin .Add (.k (.str "symbols ")) (.bf .str [.v 2])]) (.comp 1 [] (.name 0) .val [.v 0] [] (.bm .join (.k (.str " ")) [.v 0]))), .asg 5 (.k (.int 9)), .for_ (.name 6) .rng1 [.bin .Add (.k (.int 1)) (.call Zt [.v 1, .k (.int 2), .k (.int 2)])] [.asg 7 (.call Zt [.v 1, .bin .Add (.k (.int 3)) (.v 6), .bf .len [.v 0]]), .asg 8 (.call Zt [.v 1, .bin .Add (.k (.int 5)) (.v 6), .bin .Mult (.k (.int 188)) (.k (.int 24))]), .sub 4 [] (.bin .Add (.k (.int 1)) (.v 7)) (.call Zaw [.ix (.v 0) (.v 7), .v 8, .bf .len [.v 0]]), .asg 5 (.bf .min [.v 5, .bin .Add (.k (.int 1)) (.v 7)])], .iff (.cmp .Eq (.v 3) (.k (.int 5))) [.ret (.tup [.bin .Add (.call Za6 [.v 0]) (.k (.str "\n")), .bin .Add (.bf .len [.v 0]) (.k (.int 1))])] [], .iff (.or (.cmp .Eq (.v 3) (.k (.int 1))) (.cmp .Eq (.v 3) (.k (.int 6)))) [.asg 4 (.sl (.v 4) (.k .non) (.k (.int 1))), .asg 5 (.k (.int 1))] [], .iff (.or (.cmp .Eq (.v 3) (.k (.int 2))) (.cmp .Eq (.v 3) (.k (.int 7)))) [.asg 4 (.bin .Add (.v 4) (.bin .Mult (.lst [.ix (.v 4) (.neg (.k (.int 1)))]) (.bin .Sub (.k (.int 5)) (.bf .len [.v 0])))), .asg 5 (.k (.int 5))] [], .iff (.or (.cmp .Eq (.v 3) (.k (.int 3))) (.or (.cmp .Gt (.v 3) (.k (.int 5))) (.and (.cmp .Eq (.v 3) (.k (.int 4))) (.cmp .Lt (.bf .len [.v 0]) (.k (.int 3)))))) [.sub 4 [] (.k (.int 0)) (.call ZaE [.call Zt [.v 1, .k (.int 9), .k (.int 16)], .v 2]), .asg 5 (.k (.int 0))] [], .ret (.tup [.bm .join (.k (.str "\n")) [.v 4], .v 5])]
noncomputable def ZaR : T.FI := ⟨true, T.Zu C0 2 9 Z6⟩
abbrev ZdL (e : T.En) : Prop := e.fn "_law_case" 3 ["_law_rows_here", "_law_cell_here"] ZaR
theorem Zga (F : T.TI e.K "_law_case" (top 40)) (Z : Txt e C) (g9 : Zck e) (g15 : ZbG e) (g12 : Zcl e) (g13 : Zdl e) : ZdL e :=
 T.Zbf (C := C0) (body := Z6) (k := 2) Z.Y F ["_law_rows_here", "_law_cell_here", "_law_prime", "_law_way", "_law_lines", "_law_due", "_law_turn", "_law_at", "_law_x"] fun _ _ _ _ _ _ _ hr =>
 have hu := hr.units
 (Zd (qa (ZQ Zad Z.len_ Zae (Ze (Za (Zan hu ql Zh)) Zg)))
  (Zd (qa (ZG g9 hr (Ze ql (Ze Zh (Ze Zh Zg)))))
  (Zd (qa (qb (Za (ZP (Zm (qb (Za (ok_k Zn)) (Za (Zak Zal Z.str_ Zam (Ze ql Zg)))) Z4))) (Za (Zd4 rfl (cS ["_law_row"]) (Zbc ql) (fun _ _ _ _ _ => ⟨qt, Zda, (ZaM (Za (ok_k Zn)) (Ze ql Zg))⟩)))))
  (Zd (qa (ok_k ZaO))
  (Zd (ZbX PassesOwn.never rfl (ZbK _ _) (hw_1 (Zdb rfl)) (Zd2 Z.range_ (Za (qb Zh (Za (ZG g9 hr (Ze ql (Ze Zh (Ze Zh Zg)))))))) qt
  (Zd (qa (ZG g9 hr (Ze ql (Ze (Za (qb Zh ql)) (Ze (Za (ZQ Zad Z.len_ Zae (Ze ql Zg))) Zg)))))
  (Zd (qa (ZG g9 hr (Ze ql (Ze (Za (qb Zh ql)) (Ze (Za (qb Zh Zh)) Zg)))))
  (Zd (Zcu hu qv (Za (qb Zh ql)) (ZG g15 hr (Ze (Za (Zan hu ql ql)) (Ze ql (Ze (Za (ZQ Zad Z.len_ Zae (Ze ql Zg))) Zg)))))
  (Zd (qa (ZQ (ZmB rfl) Z.min_ ZmL (Ze ql (Ze (Za (qb Zh ql)) Zg))))
  Zo)))))
  (Zd (Zau (Z5 hu ql Zh) (Zd (Z1 (ZbW (Zm (qb (Za (ZG g12 hr (Ze ql Zg))) (Za (ok_k Zn))) (Zm (qb (Za (ZQ Zad Z.len_ Zae (Ze ql Zg))) Zh) Z4))))
  Zo) Zo)
  (Zd (Zau (PW.pt (ZbV (Z5 hu ql Zh) (Zcq (Z5 hu ql Zh)))) (Zd (qa (Zb1 ql ZbJ (Zax Zh)))
  (Zd (qa (ok_k ZaO))
  Zo)) Zo)
  (Zd (Zau (PW.pt (ZbV (Z5 hu ql Zh) (Zcq (Z5 hu ql Zh)))) (Zd (qa (qb ql (Za (qb (Za (ZP (Zm (Zan hu ql (Za (Zm5 Zh))) Z4))) (Za (qb Zh (Za (ZQ Zad Z.len_ Zae (Ze ql Zg)))))))))
  (Zd (qa (ok_k ZaO))
  Zo)) Zo)
  (Zd (Zau (PW.pt (ZbV (Z5 hu ql Zh) (ZbV (Z5 hu ql Zh) (Zcq (PW.pt (ZkF (Z5 hu ql Zh) (ZkE (Z5 hu (Za (ZQ Zad Z.len_ Zae (Ze ql Zg))) Zh)))))))) (Zd (Zcu hu qv Zh (ZG g13 hr (Ze (Za (ZG g9 hr (Ze ql (Ze Zh (Ze Zh Zg))))) (Ze ql Zg))))
  (Zd (qa (ok_k ZaO))
  Zo)) Zo)
  (Zd (Z1 (ZbW (Zm (ZaM (Za (ok_k Zn)) (Ze ql Zg)) (Zm (ok_v qv) Z4))))
  Zo))))))))))
noncomputable def Zcx (C : Addr) : List T.S := [.asg 1 (.k .non), .try_ [.exY (.new C (Zx C) [.v 0])] "LabelError" (some 2) [.asg 1 (.v 2)], .ret (.v 1)]
noncomputable def ZH (C : Addr) : T.FI := ⟨true, T.Zu (CK C) 1 3 (Zcx C)⟩
abbrev ZbD (e : T.En) (C : Addr) : Prop := e.fx "_law_caught" 6 ["_law_text_here"] (ZH C)
theorem ZeC (F : T.TI e.K "_law_caught" (top 41)) (Z : Txt e C) (g6 : ZaV e C) : ZbD e C :=
 T.Zen (C := (CK C)) (body := (Zcx C)) (k := 5) Z.Y F ["_law_text_here", "_law_caught_here", "e"] fun _ _ _ _ _ _ _ hF hr =>
 (Zy (Zar (qa (ok_k Zco)))
  (Zy (qty hF Z.le (Zy (ZeX (qnx g6 hr (Ze ql Zg)))
  ZC) (fun _ => (Zd (qa (ok_v qv))
  Zo)))
  (Zy (Zar (Z1 (ZcY qv)))
  ZC)))
noncomputable def ZY (C : Addr) : List T.S := [.asg 2 (.call (ZH C) [.v 0]), .iff (.or (.nt (.bf (.isiX "NoTable") [.v 2])) (.nt (.bf .isiV [.v 2]))) [.ret (.k (.bl false))] [], .asg 3 (.lst [.bf (.isiX "Lost") [.v 2], .bf (.isiX "Mixed") [.v 2], .bf (.isiX "NoForm") [.v 2]]), .asg 3 (.bin .Add (.v 3) (.lst [.bf (.isiX "NoFount") [.v 2], .bf (.isiX "NoLabel") [.v 2], .bf (.isiX "NoName") [.v 2]])), .asg 3 (.bin .Add (.v 3) (.lst [.bf (.isiX "NoReading") [.v 2], .bf (.isiX "NoRoom") [.v 2], .bf (.isiX "NoSymbol") [.v 2]])), .asg 3 (.bin .Add (.v 3) (.lst [.bf (.isiX "NoWriting") [.v 2], .bf (.isiX "Spoilt") [.v 2], .bf (.isiX "TooLong") [.v 2]])), .iff (.bf .any [.v 3]) [.ret (.k (.bl false))] [], .iff (.isN true (.v 1)) [.ret (.isN true (.bf (.xfld "row") [.v 2]))] [], .ret (.and (.cmp .Eq (.bf (.xfld "row") [.v 2]) (.v 1)) (.nt (.bf (.isi .bool) [.bf (.xfld "row") [.v 2]])))]
noncomputable def Z9 (C : Addr) : T.FI := ⟨true, T.Zu (CK C) 2 4 (ZY C)⟩
abbrev Zcy (e : T.En) (C : Addr) : Prop := e.fn "_law_refused" 7 ["_law_text_here", "_law_due"] (Z9 C)
theorem Zeq (F : T.TI e.K "_law_refused" (top 42)) (Z : Txt e C) (g17 : ZbD e C) : Zcy e C :=
 T.Zbf (C := (CK C)) (body := (ZY C)) (k := 6) Z.Y F ["_law_text_here", "_law_due", "_law_caught_here", "_law_others"] fun _ _ _ _ _ _ _ hr =>
 have hu := hr.units
 (Zd (qa (ZG g17.calm hr (Ze ql Zg)))
  (Zd (Zau (PW.pt (ZbV (ZbN (ZbU (Za (qiX Z.x_j Z.isinstance_ ql)))) (Zcq (ZbN (ZbU (Za (qiV Z.ValueError_ Z.isinstance_ ql))))))) (Zd (Z1 (ok_k Zdr))
  Zo) Zo)
  (Zd (qa (ZP (Zm (qiX Z.x_a Z.isinstance_ ql) (Zm (qiX Z.x_b Z.isinstance_ ql) (Zm (qiX Z.x_c Z.isinstance_ ql) Z4)))))
  (Zd (qa (qb ql (Za (ZP (Zm (qiX Z.x_d Z.isinstance_ ql) (Zm (qiX Z.x_e Z.isinstance_ ql) (Zm (qiX Z.x_f Z.isinstance_ ql) Z4)))))))
  (Zd (qa (qb ql (Za (ZP (Zm (qiX Z.x_g Z.isinstance_ ql) (Zm (qiX Z.x_h Z.isinstance_ ql) (Zm (qiX Z.x_i Z.isinstance_ ql) Z4)))))))
  (Zd (qa (qb ql (Za (ZP (Zm (qiX Z.x_k Z.isinstance_ ql) (Zm (qiX Z.x_l Z.isinstance_ ql) (Zm (qiX Z.x_m Z.isinstance_ ql) Z4)))))))
  (Zd (Zau (ZbU (Za (ZQ (ZmA rfl) Z.any_ ZmK (Ze ql Zg)))) (Zd (Z1 (ok_k Zdr))
  Zo) Zo)
  (Zd (Zau (Zlg ql) (Zd (Z1 (ZmI (Za (ZeA ql))))
  Zo) Zo)
  (Zd (Z1 (ZkG (Za (Ze8 hu (Za (ZeA ql)) ql)) (Zm7 (ZkH (Za (qi Z.isinstance_ (Za (ZeA ql)) Z.bool_ Zm1))))))
  Zo)))))))))
noncomputable def Zbk (C : Addr) : List T.S := [.asg 1 (.call Zb2 [.v 0, .k (.int 0)]), .asg 2 (.call Za6 [.v 1]), .for_ (.name 3) .val [.sl (.v 0) (.k (.int 5)) (.k (.int 25))] [.unp [4, 5] (.call ZaR [.v 1, .v 3]), .iff (.or (.nt (.call (Z9 C) [.v 4, .v 5])) (.isN false (.call (ZH C) [.v 2]))) [.ret (.k (.bl false))] []], .for_ (.name 6) .val [.lst [.k .non, .k (.int 5), .k (.bl true), .lst [.k (.str "symbols 5")], .tup [.v 2], .dct0]] [.iff (.nt (.call (Z9 C) [.v 6, .k .non])) [.ret (.k (.bl false))] []], .ret (.cmp .Eq (.meth C "shown" (ZaT C) (.new C (Zx C) [.v 2]) []) (.v 2))]
noncomputable def Zfp (C : Addr) : T.FI := ⟨true, T.Zu (CK C) 1 7 (Zbk C)⟩
theorem ZnI {f : Addr} {fd : FuncData} (F : Fun e.K "law" "law" (top 43) f fd) (Z : Txt e C) (g11 : ZdK e) (g12 : Zcl e) (g16 : ZdL e) (g17 : ZbD e C) (g18 : Zcy e C) (g7 : ZcJ e C) (g6 : ZaV e C) : FnOk e.P e.w e.K e.mg e.base CX0 8 f fd ["_law_script"] (T.spF e.K (Zfp C).run) :=
 T.ZnF (C := (CK C)) (body := (Zbk C)) (k := 7) F ["_law_script", "_law_rows_here", "_law_text_here", "_law_cell_here", "_law_bad", "_law_due", "_law_thing"] fun _ _ _ _ _ _ _ hr =>
 have hu := hr.units
 (Zd (qa (ZG g11 hr (Ze ql (Ze Zh Zg))))
  (Zd (qa (ZG g12 hr (Ze ql Zg)))
  (Zd (ZbX PassesOwn.never rfl (ZbK _ _) (hw_1 (Zdb rfl)) (Zbc (Za (Zb1 ql (Zax Zh) (Zax Zh)))) qt
  (Zd (ZmG rfl (Za (ZG g16 hr (Ze ql (Ze ql Zg)))) (qg (qg Zpl)))
  (Zd (Zau (PW.pt (ZbV (ZbN (ZbU (Za (ZG g18 hr (Ze ql (Ze ql Zg)))))) (Zcq (Zjh (Za (ZG g17.calm hr (Ze ql Zg))))))) (Zd (Z1 (ok_k Zdr))
  Zo) Zo)
  Zo)))
  (Zd (ZbX PassesOwn.never rfl (ZbK _ _) (hw_1 (Zdb rfl)) (Zbc (Za (ZP (Zm (ok_k Zco) (Zm (ok_k ZaO) (Zm (ok_k Zdr) (Zm (ZP (Zm (ok_k Zn) Z4)) (Zm (ZbW (Zm (ok_v qv) Z4)) (Zm Zqs Z4))))))))) qt
  (Zd (Zau (ZbN (ZbU (Za (ZG g18 hr (Ze ql (Ze (Za (ok_k Zco)) Zg)))))) (Zd (Z1 (ok_k Zdr))
  Zo) Zo)
  Zo))
  (Zd (Z1 (Ze8 hu (Za (Zjb g7 hr (Za (ZmN g6.calm hr (Ze ql Zg))))) ql))
  Zo)))))
theorem ZnJ {l : PySem.W.OpenLaw} {w : World} {K : Fg} {h : Heap} {mg : Str -> Option Value} {fa C L Kaa Kab Kac Kad Kae Kaf Kag Kah Kai Kaj Kak Kal Kam : Addr} (X : K.In h) (G : h.Ns mainGlobals mg) (hfa : mg "law" = some (.ref fa))
 (cC : T.CI K "Table" C)
 (nF0 : PySem.W.findIn K (.ref C) "size" = some none)
 (nF1 : PySem.W.findIn K (.ref C) "meanings" = some none)
 (nF2 : PySem.W.findIn K (.ref C) "text" = some none)
 (hL : T.LB K L)
 (b_a : T.XB K L "Lost" Kaa)
 (b_b : T.XB K L "Mixed" Kab)
 (b_c : T.XB K L "NoForm" Kac)
 (b_d : T.XB K L "NoFount" Kad)
 (b_e : T.XB K L "NoLabel" Kae)
 (b_f : T.XB K L "NoName" Kaf)
 (b_g : T.XB K L "NoReading" Kag)
 (b_h : T.XB K L "NoRoom" Kah)
 (b_i : T.XB K L "NoSymbol" Kai)
 (b_j : T.XB K L "NoTable" Kaj)
 (b_k : T.XB K L "NoWriting" Kak)
 (b_l : T.XB K L "Spoilt" Kal)
 (b_m : T.XB K L "TooLong" Kam)
 (a_j : T.XA K Kaj)
 (i_j : T.II K Kaj "NoTable.__init__" (Zbq (top 3) 0))
 (hI : XI K L)
 (d1 : T.TI K "prime_told" (top 25))
 (d2 : T.TI K "meanings_of_words" (top 26))
 (d3 : T.TI K "rows_of" (top 27))
 (d4 : T.TI K "check_row_count" (top 28))
 (d5 : T.TI K "meanings_of_rows" (top 29))
 (d6 : T.MI K C "__init__" "Table.__init__" (Zbq (top 30) 0))
 (d7 : T.MI K C "shown" "Table.shown" (Zbq (top 30) 4))
 (d8 : T.TI K "_law_cell" (top 32))
 (d9 : T.TI K "_law_spun" (top 33))
 (d10 : T.TI K "_law_word" (top 34))
 (d11 : T.TI K "_law_rows" (top 35))
 (d12 : T.TI K "_law_text" (top 36))
 (d13 : T.TI K "_law_first" (top 37))
 (d14 : T.TI K "_law_odd_word" (top 38))
 (d15 : T.TI K "_law_turned_row" (top 39))
 (d16 : T.TI K "_law_case" (top 40))
 (d17 : T.TI K "_law_caught" (top 41))
 (d18 : T.TI K "_law_refused" (top 42))
 (d19 : T.TI K "law" (top 43))
 (z0 : T.NI K "ValueError")
 (z1 : T.NI K "all")
 (z2 : T.NI K "any")
 (z3 : T.NI K "bool")
 (z4 : T.NI K "isinstance")
 (z5 : T.NI K "len")
 (z6 : T.NI K "min")
 (z7 : T.NI K "range")
 (z8 : T.NI K "str")
 {tc0 : Tok} (zc0 : PySem.W.nsIn K mainGlobals "MOST_ROWS" = some (some (.int 5 tc0)))
 {ts0 : Tok} (zs0 : PySem.W.nsIn K mainGlobals "SIGNS" = some (some (.str "abcdefghijklmnopqrstuvwxyz0123456789" ts0)))
 {at0 : Addr} {dt0 : Option Addr} {it0 : Array Value} {nt0 : Nat} {st0 : Array (Option Value)} (zt0 : PySem.W.nsIn K mainGlobals "PRIMES" = some (some (.ref at0))) (zl0 : K.lookup at0 = some ⟨.type "tuple", dt0, .seq it0 nt0, st0⟩) (zz0 : it0.size <= 1000) (zi0 : it0.toList.map T.unV = (([5, 7, 11, 13, 17, 19, 23, 29, 31, 37, 41, 43, 47] : List Int).map V.int).map some)
 : ∃ fd : FuncData, (∀ (s : Shared) (v : Value), BindsTo s fd ⟨[v], []⟩ [("_law_script", v)]) /\ ∀ base : Heap, K.In base -> base.Ns mainGlobals mg -> FnOk l.prog w K mg base CX0 8 fa fd ["_law_script"] (T.spF K (Zfp (Zeo K)).run) := by
 have hC : Zeo K = C := by unfold Zeo; rw [cC.at_]
 rw [hC]
 obtain ⟨f, fd, x, F⟩ := d19
 cases hfa.symm.trans (PySem.W.mg_of X G x)
 refine ⟨fd, fun s v => ?_, fun base _ _ => ?_⟩
 . obtain ⟨oc, od, kV, doc, pm, an, cdv, ct, osl, rfl, lk, hcd⟩ := F.ex
   exact .of_eq rfl
 have m : ∀ {x : Str}, T.NI K x -> mg x = none := PySem.W.mg_none_of X G
 have Z : Txt ⟨l.prog, w, K, mg, base⟩ C := ⟨⟨h, X, G⟩, m z0, m z1, m z2, m z3, m z4, m z5, m z6, m z7, m z8, ⟨tc0, PySem.W.mg_of X G zc0⟩, ⟨ts0, PySem.W.mg_of X G zs0⟩, T.Zjw X G zt0 zl0 (by rw [T.szl]; omega) zi0, b_a.lx X G, b_b.lx X G, b_c.lx X G, b_d.lx X G, b_e.lx X G, b_f.lx X G, b_g.lx X G, b_h.lx X G, b_i.lx X G, b_j.lx X G, b_k.lx X G, b_l.lx X G, b_m.lx X G, ⟨L, PySem.W.mg_of X G hL.x, hL.xc, hL.gx⟩, ⟨L, PySem.W.mg_of X G hL.x, hI⟩, ⟨_, PySem.W.mg_of X G b_j.at_, b_j.xn hL a_j, i_j⟩, cC, nF0, nF1, nF2⟩
 have g0 := ZcK Z
 have g1 := Zfd d1 Z g0
 have g2 := ZcB d2 Z
 have g3 := Zhr d3 Z g0
 have g4 := Zdi d4 Z g0
 have g5 := ZcL d5 Z g2 g0
 have g6 := ZdF d6 Z g3 g1 g4 g5
 have g7 := ZeB d7 Z
 have g8 := ZfV d8 Z
 have g9 := ZfW d9 Z
 have g10 := ZfX d10 Z
 have g11 := ZfY d11 Z g8 g9 g10
 have g12 := ZfZ d12 Z
 have g13 := Zfe d13 Z
 have g14 := ZdP d14 Z
 have g15 := Zdm d15 Z g14
 have g16 := Zga d16 Z g9 g15 g12 g13
 have g17 := ZeC d17 Z g6
 have g18 := Zeq d18 Z g17
 exact ZnI F Z g11 g12 g16 g17 g18 g7 g6
end
theorem runB {f : FI} {C : T.Ctx} {n N : Nat} {b : List T.S} {ds : List D} {R : Rs (D × List D)} (e : f.run = Zu C n N b) (hl : ds.length = n) (h : ZE n (exs { C with lock := fun i => decide (i < n) } b (ds ++ List.replicate (N - n) .hole)) = R) : f.run ds = R := by rw [e, runA hl]; exact h
variable (lk : Nat -> Bool) (fok : Addr -> Str -> Bool) (fuel : Nat)
local macro_rules | `(tactic| walk_at "r") => `(tactic| (refine runB rfl rfl ?_; show ZE _ (exs _ (_ :: _) _) = _; simp only [List.replicate, Nat.reduceSub]))
local macro_rules | `(tactic| walk_at "ev") => `(tactic| simp only [Zn9, Zq2, Zjr, ZnA, Zly, ZnB, ZnC, ZnD, Zjs, Zjt, Zju, endX, Zlz, Zik, Zq3, ZnE, ZqD, Zl2, ZgJ, bndA, ZkU, retA, Zpq, ZkV, Zpr, Zps, ZmP, ZmQ, Zpt, ZmR, Zpu, Zpv, ZkW, ZkX, valA, ZmS, Zpw, movA, ZmT, ZmU, Zpx, Zpy, ZmV, Zpz, Zp0, ZmW, ZmX, Zp1, Zp2, ZmY, ZmZ, Zp3, Zna, Znb, Znc, Znd, Zp4, Zne, exs1, exs0, Zla, Zlb, ZkY, ZkZ, e_k, o_k, e_g, o_g, Zp6, Zp7, Zp8, Zp9, ZpA, ZpB, ZpC, ZpD, ZpE, t_nt, ZpF, t_or, e_ix, o_ix, e_sl, o_sl, ZpG, ZpH, ZpI, ZpJ, ZpK, o_kl, Znf, Zng, Znh, e_bf, t_bf, o_bf, e_bm, o_bm, Zni, Znj, ZpL, ZpM, Zlf, Znk, e_fs, o_fs, e_v, Zje, ZpO, ZpP, evs0, evs1, ZpQ, ZpR, ZpS, ZpT, Znm, x_ex, ZpU, ZpV, Znn, ZpW, r_k, ZpX, ZpY, r_ix, ZpZ, Zqa, r_bm, Zqb, Zqc, Zqd, Zqe, Zqf, Zno, Znp, Znq, c_in, ZpN, ix_d, Znl, Zlc, Zjd, Zqg, Zqh, Zqi, Zqj, Zqk, Znr, Zns, Znt, Znu, Znv, intp, sl_l, sl_f, Zql, Zqm, Zqn, Znw, asgn, Znx, Zny, Znz, Zn0, Zqo, Zn1, Zn2, Zn3, Zn4, it_l, modA, Zqp, chkA, Zqq, ix_l, ix_f, shrL, shr, walked, C0, scr, List.getElem?_cons_zero, List.getElem?_cons_succ, List.set_cons_zero, List.set_cons_succ, List.length_cons, List.length_nil, Option.map_some, Option.bind_some, Option.toList_none, Option.toList_some, List.nil_append, List.append_nil, List.cons_append, List.map_cons, List.map_nil, if_true, if_false, Bool.false_eq_true, Bool.and_true, Bool.true_and, Bool.or_true, Bool.true_or, Bool.or_false, Bool.false_or, Bool.not_false, Bool.not_true, decide_true, decide_false, Nat.reduceLT, Nat.reduceAdd, Nat.reduceLeDiff, beq_self_eq_true, Nat.reduceBEq, Bool.and_false, Bool.false_and, reduceCtorEq, ite_true, ite_false])
local macro_rules | `(tactic| simp_all [$xs,*]) => `(tactic| repeat (first | walk_at "ev" | simp only [$xs,*]))
theorem ZeD {a b : Str} (h : a.cps.toList = b.cps.toList) : a = b := by
 obtain ⟨⟨x⟩⟩ := a
 obtain ⟨⟨y⟩⟩ := b
 exact congrArg (fun l => (⟨⟨l⟩⟩ : Str)) h
theorem Zaz (a b : Str) : (a ++ b).cps.toList = a.cps.toList ++ b.cps.toList := by
 show (a.cps ++ b.cps).toList = _
 rw [Array.toList_append]
theorem Zgb {c : Nat} : ∀ {p q a b : List Nat}, c ∉ p -> c ∉ q -> p ++ c :: a = q ++ c :: b -> p = q /\ a = b
 | [], [], a, b, _, _, h => ⟨rfl, (List.cons.inj h).2⟩
 | [], y :: q, a, b, _, hq, h => absurd (List.cons.inj h).1 (fun e => hq (e ▸ List.mem_cons_self))
 | x :: p, [], a, b, hp, _, h => absurd (List.cons.inj h).1 (fun e => hp (e ▸ List.mem_cons_self))
 | x :: p, y :: q, a, b, hp, hq, h => by
  have h1 := List.cons.inj h
  obtain ⟨e1, e2⟩ := Zgb (fun m => hp (List.mem_cons_of_mem _ m)) (fun m => hq (List.mem_cons_of_mem _ m)) h1.2
  exact ⟨by rw [h1.1, e1], e2⟩
theorem ZW (c : Nat) (p q : Str) (r : List Str) : (Str.join ⟨#[c]⟩ (p :: q :: r)).cps.toList = p.cps.toList ++ c :: (Str.join ⟨#[c]⟩ (q :: r)).cps.toList := by
 show (p ++ ⟨#[c]⟩ ++ Str.join ⟨#[c]⟩ (q :: r)).cps.toList = _
 rw [Zaz, Zaz, List.append_assoc]
 rfl
theorem Zgc (c : Nat) : ∀ (ps qs : List Str), ps ≠ [] -> qs ≠ [] -> (∀ p ∈ ps, c ∉ p.cps.toList) -> (∀ q ∈ qs, c ∉ q.cps.toList) -> Str.join ⟨#[c]⟩ ps = Str.join ⟨#[c]⟩ qs -> ps = qs
 | [], _, h, _, _, _, _ => absurd rfl h
 | _, [], _, h, _, _, _ => absurd rfl h
 | [p], [q], _, _, _, _, h => by
  have h' : p = q := h
  rw [h']
 | [p], q :: q' :: r, _, _, hp, _, h => by
  have e := congrArg (fun x : Str => x.cps.toList) h
  simp only [ZW] at e
  have e' : p.cps.toList = q.cps.toList ++ c :: (Str.join ⟨#[c]⟩ (q' :: r)).cps.toList := e
  exact absurd (by rw [e']; simp) (hp p (by simp))
 | p :: p' :: r, [q], _, _, _, hq, h => by
  have e := congrArg (fun x : Str => x.cps.toList) h
  simp only [ZW] at e
  have e' : p.cps.toList ++ c :: (Str.join ⟨#[c]⟩ (p' :: r)).cps.toList = q.cps.toList := e
  exact absurd (by rw [<- e']; simp) (hq q (by simp))
 | p :: p' :: r, q :: q' :: t, _, _, hp, hq, h => by
  have e := congrArg (fun x : Str => x.cps.toList) h
  simp only [ZW] at e
  obtain ⟨e1, e2⟩ := Zgb (hp p (by simp)) (hq q (by simp)) e
  have ih := Zgc c (p' :: r) (q' :: t) (by simp) (by simp) (fun x hx => hp x (List.mem_cons_of_mem _ hx)) (fun x hx => hq x (List.mem_cons_of_mem _ hx)) (ZeD e2)
  rw [ZeD e1, ih]
theorem Zgd (x : Str) (c : Nat) : Txt.split x ⟨#[c]⟩ ≠ [] := by
 unfold Txt.split
 split
 . simp
 . split
   . simp
   . rw [StrLaws.partsBetween_eq]
     obtain ⟨p, r, e⟩ := StrLaws.partsFrom_ne x (⟨#[c]⟩ : Str).length 0 (Builtin.Str.occurrences x ⟨#[c]⟩ 0 x.length (x.length + 1))
     rw [e]
     simp
theorem Zhs (c : Nat) (ps : List Str) (h : ps ≠ []) (hf : ∀ p ∈ ps, c ∉ p.cps.toList) : Txt.split (Str.join ⟨#[c]⟩ ps) ⟨#[c]⟩ = ps :=
 Zgc c _ ps (Zgd _ c) h (StrLaws.split_free _ c) hf (StrLaws.join_split _ _)
theorem Zb3 (c : Nat) (ps : List Str) (h : ps ≠ []) (hf : ∀ p ∈ ps, c ∉ p.cps.toList) : Txt.split (Txt.join ⟨#[c]⟩ ps) ⟨#[c]⟩ = ps := by
 show Txt.split (Builtin.Str.glued ⟨#[c]⟩ ps) ⟨#[c]⟩ = ps
 rw [StrLaws.glued_eq_join]
 exact Zhs c ps h hf
theorem ZcC (c : Nat) : ∀ (ps : List Str) (x : Nat), x ∈ (Str.join ⟨#[c]⟩ ps).cps.toList -> x = c \/ ∃ p ∈ ps, x ∈ p.cps.toList
 | [], x, h => by simp [Str.join, Str.empty] at h
 | [p], x, h => .inr ⟨p, by simp, h⟩
 | p :: q :: r, x, h => by
  rw [ZW] at h
  (rcases List.mem_append.mp h with h | h)
  . exact .inr ⟨p, by simp, h⟩
  . rcases List.mem_cons.mp h with h | h
    . exact .inl h
    . rcases ZcC c (q :: r) x h with h | ⟨y, hy, h⟩
      . exact .inl h
      . exact .inr ⟨y, List.mem_cons_of_mem _ hy, h⟩
theorem ZcD (c B : Nat) : ∀ ps : List Str, (∀ p ∈ ps, p.length <= B) -> (Txt.join ⟨#[c]⟩ ps).length <= ps.length * (B + 1) := by
 intro ps h
 show (Builtin.Str.glued ⟨#[c]⟩ ps).length <= _
 rw [StrLaws.glued_eq_join]
 refine Nat.le_trans (StrLaws.join_length_le _ ps) ?_
 have h1 := StrLaws.sumLen_le (B := B) ps h
 (have h2 : (⟨#[c]⟩ : Str).length = 1 := rfl)
 rw [h2, Nat.mul_add]
 omega
theorem Zer (c B : Nat) (ps : List Str) (h : ∀ p ∈ ps, p.length <= B) (hs : ps.length * (B + 1) <= 16777216) : JoinOk ⟨#[c]⟩ ps = true := by
 unfold JoinOk
 rw [StrLaws.joinFits h (by
  (have h2 : (⟨#[c]⟩ : Str).length = 1 := rfl)
  rw [h2, <- Nat.mul_add]
  exact hs)]
 rfl
noncomputable def bdy : T.S -> List T.S
 | .for_ _ _ _ b => b
 | .forX _ _ _ b => b
 | _ => []
theorem gd0 (s d : T.S) (l : List T.S) : (s :: l).getD 0 d = s := rfl
theorem gd1 (s d : T.S) (l : List T.S) (n : Nat) : (s :: l).getD (n + 1) d = l.getD n d := rfl
noncomputable abbrev I (i : Int) : D := .sc (.int i)
noncomputable abbrev S' (z : Str) : D := .sc (.str z)
noncomputable def sgn : List Nat := [97, 98, 99, 100, 101, 102, 103, 104, 105, 106, 107, 108, 109, 110, 111, 112, 113, 114, 115, 116, 117, 118, 119, 120, 121, 122, 48, 49, 50, 51, 52, 53, 54, 55, 56, 57]
noncomputable def lkw (k : Nat) : Str := ⟨#[108, 111, 99, 107, 48 + k]⟩
noncomputable def shw (k : Nat) : Str := ⟨#[115, 104, 105, 102, 116, 48 + k]⟩
noncomputable def wds (n : Nat) : List Str := ⟨#[45]⟩ :: ((sgn.map fun c => (⟨#[c]⟩ : Str)) ++ (List.range n).flatMap fun k => [lkw k, shw k])
noncomputable def ZdB (w : Str) : List D :=
 if w.cps.toList = [45] then [S' "nothing", .sc .non]
 else if w.cps.toList.take 4 = [108, 111, 99, 107] then [S' "lock", I ((w.cps.toList.getD 4 0 : Int) - 48)]
 else if w.cps.toList.take 5 = [115, 104, 105, 102, 116] then [S' "shift", I ((w.cps.toList.getD 5 0 : Int) - 48)]
 else [S' "sign", S' w]
noncomputable abbrev mean (o : Bool) (w : Str) : D := .node .tup o (ZdB w)
noncomputable def primes : List Nat := [5, 7, 11, 13, 17, 19, 23, 29, 31, 37, 41, 43, 47]
noncomputable def first (p : Nat) : Str := Str.ofString "symbols " ++ Str.ofString (toString (p : Int))
theorem Zcm : ∀ p ∈ primes, (10 ∉ (first p).cps.toList) /\ (first p).length <= 10 := by walk_at "d"
theorem ZaW : ∀ p ∈ primes, 5 <= p /\ p <= 47 := by decide
theorem ZaX : ∀ n ∈ [1, 2, 3, 4], ∀ w ∈ wds n, 32 ∉ w.cps.toList /\ 10 ∉ w.cps.toList /\ w.length <= 6 := by walk_at "d"
theorem Zl3 : ∀ n ∈ [1, 2, 3, 4], ∀ c ∈ sgn, (⟨#[c]⟩ : Str) ∈ wds n := by walk_at "d"
theorem ZnK : ∀ n ∈ [1, 2, 3, 4], ∀ k ∈ List.range n, Str.ofString "lock" ++ Str.ofString (toString (k : Int)) ∈ wds n /\ Str.ofString "shift" ++ Str.ofString (toString (k : Int)) ∈ wds n /\ Str.ofString "-" ∈ wds n := by walk_at "d"
set_option maxRecDepth 100000 in
theorem ZnL : ∀ n ∈ [1, 2, 3, 4], Zah.run [I (n : Nat)] = .ok (.node (.dic ((wds n).map .inr)) true ((wds n).map (mean true)), [I n]) := by
 simp only [List.forall_mem_cons, List.not_mem_nil, false_implies, implies_true, and_true]
 refine ⟨?_, ?_, ?_, ?_⟩ <;> kernel_rfl
theorem Zil (w : Str) (f : Str -> D) : ∀ ws : List Str, w ∈ ws -> ZO (.inr w) (ws.map (Sum.inr : Str -> Key)) (ws.map f) = some (f w)
 | [], h => by simp at h
 | a :: ws, h => by
  simp only [List.map_cons, ZO]
  by_cases e : a = w
  . rw [if_pos (by rw [e]), e]
  . rw [if_neg (fun q => e (Sum.inr.inj q))]
    exact Zil w f ws (by rcases List.mem_cons.mp h with q | q; exact absurd q.symm e; exact q)
noncomputable abbrev dT (ws : List Str) : List D := ws.map fun w => S' w
noncomputable abbrev TL (o : Bool) (ws : List Str) : D := .node .lst o (dT ws)
noncomputable abbrev RL (b : Bool) (rs : List (List Str)) : D := .node .lst true (rs.map (TL b))
theorem Z7 (ws : List Str) : shrL (dT ws) = dT ws := by
 induction ws with
 | nil => rfl
 | cons w ws ih => simp only [List.map_cons, shrL, shr] at ih ⊢; rw [ih]
theorem Za3 (b : Bool) (rs : List (List Str)) : shrL (rs.map (TL b)) = rs.map (TL false) := by
 induction rs with
 | nil => rfl
 | cons r rs ih => rw [List.map_cons, shrL, ih, List.map_cons, shr, Z7]
theorem ZJ (ws : List Str) : (dT ws).length = ws.length := List.length_map _
theorem ZjU : newL [] = some (.node .lst true []) := Zbx _ (by simp)
theorem ZcE (a : D) : newL [a] = some (.node .lst true [a]) := Zbx _ (by rw [szl]; simp)
theorem ZbL (a b : D) : newT [a, b] = some (.node .tup true [a, b]) := by unfold newT; rw [if_pos (by rw [szl]; simp)]
theorem Zge (ns : List Int) (k : Nat) : Za5.run [scr ns, I k] = .ok (I (ns.getD k 0), [scr ns, I k]) := by
 walk_at "r"
 have hl : ((ns.map fun i => D.sc (.int i)).length : Int) = (ns.length : Int) := by rw [List.length_map]
 by_cases h : k < ns.length
 . have h1 : ¬ ((ns.length : Int) <= (k : Int)) := by omega
   have hx := ixI ns (k : Int) (by omega) (by omega)
   rw [Int.toNat_natCast] at hx
   (simp_all [hl, h1, hx]) <;> rfl
 . have h1 : (ns.length : Int) <= (k : Int) := by omega
   have h2 : ns.getD k 0 = 0 := by rw [List.getD_eq_getElem?_getD, List.getElem?_eq_none (by omega)]; rfl
   (simp_all [hl, h1, h2]) <;> rfl
theorem Zas (c t m : Int) (hm : 0 < m) (ht : 0 <= t /\ t <= 1000) : ∃ r, 0 <= r /\ r < m /\ Zt.run [I c, I t, I m] = .ok (I r, [I c, I t, I m]) := by
 rw [show Zt.run = Zu C0 3 6 Zbi from rfl]
 rw [runA (show [I c, I t, I m].length = 3 from rfl)]
 unfold Zbi
 simp only [List.replicate, Nat.reduceSub]
 have e1 : ∀ a : Int, binW .Mod (.sc (.int a)) (.sc (.int 1000000009)) = some (.sc (.int (a % 1000000009))) := fun a => Zbd _ _ (by decide)
 have e2 : ∀ a : Int, binW .FloorDiv (.sc (.int a)) (.sc (.int 1000000009)) = some (.sc (.int (a / 1000000009))) := fun a => Zfk _ _ (by decide)
 have e3 : ∀ a : Int, binW .Mod (.sc (.int a)) (.sc (.int 998244353)) = some (.sc (.int (a % 998244353))) := fun a => Zbd _ _ (by decide)
 have e4 : binW .Mult (.sc (.int 7919)) (.sc (.int t)) = some (.sc (.int (7919 * t))) := Zeh _ _ (.inl (by decide))
 have e5 : binW .Mult (.sc (.int 104729)) (.sc (.int t)) = some (.sc (.int (104729 * t))) := Zeh _ _ (.inl (by decide))
 have e6 : binW .Mult (.sc (.int 2)) (.sc (.int t)) = some (.sc (.int (2 * t))) := Zeh _ _ (.inl (by decide))
 have e7 : ∀ b : Int, binW .Mult (.sc (.int (c % 1000000009 + 7919 * t + 1))) (.sc (.int b)) = some (.sc (.int ((c % 1000000009 + 7919 * t + 1) * b))) := fun b => Zeh _ _ (.inl (by omega))
 have e8 : ∀ a : Int, binW .Mod (.sc (.int a)) (.sc (.int 2147483629)) = some (.sc (.int (a % 2147483629))) := fun a => Zbd _ _ (by decide)
 have e9 : ∀ a b : Int, binW .Mult (.sc (.int (a % 2147483629))) (.sc (.int b)) = some (.sc (.int (a % 2147483629 * b))) := fun a b => Zeh _ _ (.inl (by omega))
 simp_all [e1, e2, e3, e4, e5, e6, e7, e8, e9, Zbd _ _ hm]
 exact ⟨_, Int.emod_nonneg _ (by omega), Int.emod_lt_of_pos _ hm, rfl⟩
def Zes (z : Str) : Prop := z.cps.toList ≠ [] /\ z.length <= 36 /\ ∀ c ∈ z.cps.toList, c ∈ sgn
theorem n14 {n : Nat} (h1 : 1 <= n) (h4 : n <= 4) : n ∈ [1, 2, 3, 4] := by
 match n, h1, h4 with
 | 1, _, _ => simp
 | 2, _, _ => simp
 | 3, _, _ => simp
 | 4, _, _ => simp
theorem ZqE (k : Nat) (h : k < 4) : bfW .str [.sc (.int (k : Int))] = some (S' (Str.ofString (toString (k : Int)))) := by
 match k, h with
 | 0, _ => kernel_rfl
 | 1, _ => kernel_rfl
 | 2, _ => kernel_rfl
 | 3, _ => kernel_rfl
theorem ZqF (k : Nat) (h : k < 4) : binW .Add (.sc (.str "lock")) (.sc (.str (Str.ofString (toString (k : Int))))) = some (S' (Str.ofString "lock" ++ Str.ofString (toString (k : Int)))) /\ binW .Add (.sc (.str "shift")) (.sc (.str (Str.ofString (toString (k : Int))))) = some (S' (Str.ofString "shift" ++ Str.ofString (toString (k : Int)))) := by
 match k, h with
 | 0, _ => exact ⟨by kernel_rfl, by kernel_rfl⟩
 | 1, _ => exact ⟨by kernel_rfl, by kernel_rfl⟩
 | 2, _ => exact ⟨by kernel_rfl, by kernel_rfl⟩
 | 3, _ => exact ⟨by kernel_rfl, by kernel_rfl⟩
theorem Zjz (x : Int) (z : Str) (n : Nat) (hz : Zes z) (h1 : 1 <= n) (h4 : n <= 4) : ∃ w ∈ wds n, Zac.run [I x, S' z, I n] = .ok (S' w, [I x, S' z, I n]) := by
 rw [show Zac.run = Zu C0 3 3 Zbj from rfl]
 rw [runA (show [I x, S' z, I n].length = 3 from rfl)]
 unfold Zbj
 simp only [List.replicate, Nat.reduceSub]
 have hn := n14 h1 h4
 have e1 : ∀ a : Int, binW .Mod (.sc (.int a)) (.sc (.int 16)) = some (.sc (.int (a % 16))) := fun a => Zbd _ _ (by decide)
 have e2 : ∀ a : Int, binW .FloorDiv (.sc (.int a)) (.sc (.int 16)) = some (.sc (.int (a / 16))) := fun a => Zfk _ _ (by decide)
 have e3 : ∀ a : Int, binW .Mod (.sc (.int a)) (.sc (.int (n : Int))) = some (.sc (.int (a % n))) := fun a => Zbd _ _ (by omega)
 obtain ⟨hz1, hz2, hz3⟩ := hz
 have hlen : z.length = z.cps.toList.length := rfl
 have hpos : 0 < z.cps.toList.length := List.length_pos_iff.mpr hz1
 have hk : ∃ k : Nat, k < n /\ (x / 16 % (n : Int)) = k := ⟨(x / 16 % (n : Int)).toNat, by have := Int.emod_lt_of_pos (x / 16) (show (0 : Int) < n by omega); have := Int.emod_nonneg (x / 16) (show (n : Int) ≠ 0 by omega); omega, by have := Int.emod_nonneg (x / 16) (show (n : Int) ≠ 0 by omega); omega⟩
 obtain ⟨k, hk1, hk2⟩ := hk
 have s1 := ZqE k (by omega)
 obtain ⟨s2, s3⟩ := ZqF k (by omega)
 obtain ⟨w1, w2, w3⟩ := ZnK n hn k (List.mem_range.mpr hk1)
 by_cases c1 : x % 16 < 10
 . have hl : bfW .len [.sc (.str z)] = some (.sc (.int (z.length : Int))) := if_pos (by rw [szl]; omega)
   have e4 : ∀ a : Int, binW .Mod (.sc (.int a)) (.sc (.int (z.length : Int))) = some (.sc (.int (a % z.length))) := fun a => Zbd _ _ (by omega)
   have hj : ∃ j : Nat, j < z.cps.toList.length /\ (x / 16 % (z.length : Int)) = j := ⟨(x / 16 % (z.length : Int)).toNat, by have := Int.emod_lt_of_pos (x / 16) (show (0 : Int) < z.length by omega); have := Int.emod_nonneg (x / 16) (show (z.length : Int) ≠ 0 by omega); omega, by have := Int.emod_nonneg (x / 16) (show (z.length : Int) ≠ 0 by omega); omega⟩
   obtain ⟨j, hj1, hj2⟩ := hj
   have hx : ixW2 (.sc (.str z)) (.sc (.int (j : Int))) = some (S' ⟨#[z.cps.toList[j]]⟩) := by
    show (if z.length <= sizeLine then _ else _) = _
    rw [if_pos (by rw [szl]; omega), Zd6 _ _ hj1]
    show ((z.cps.toList[j]?).map _) = _
    rw [List.getElem?_eq_getElem hj1]
    rfl
   refine ⟨⟨#[z.cps.toList[j]]⟩, Zl3 n hn _ (hz3 _ (List.getElem_mem hj1)), ?_⟩
   (simp_all [e1, e2, e4, hl, hj2, hx, c1]) <;> rfl
 . by_cases c2 : x % 16 < 12
   . refine ⟨_, w1, ?_⟩
     (simp_all [e1, e2, e3, hk2, s1, s2, c1, c2]) <;> rfl
   . by_cases c3 : x % 16 < 14
     . refine ⟨_, w2, ?_⟩
       (simp_all [e1, e2, e3, hk2, s1, s3, c1, c2, c3]) <;> rfl
     . refine ⟨_, w3, ?_⟩
       (simp_all [e1, e2, e3, c1, c2, c3]) <;> rfl
noncomputable abbrev Ls (o : Bool) (xs : List Int) : D := .node .lst o (dI xs)
noncomputable def lp : List Int := [5, 7, 11, 13, 17, 19, 23, 29, 31, 37, 41, 43, 47, 5, 7, 5, 7, 11]
noncomputable def lsz : List Int := [2, 4, 8, 36]
theorem ZqG : ∀ i ∈ List.range 18, ∃ p ∈ primes, lp.getD i 0 = (p : Nat) := by decide
theorem ZnM : ∀ i ∈ List.range 4, ∃ s ∈ [2, 4, 8, 36], lsz.getD i 0 = (s : Nat) := by decide
theorem Zl4 : ∀ s ∈ [2, 4, 8, 36], ∀ t ∈ List.range (37 - s), (Txt.slice (Txt.slice "q7abcdefghijklmnoprstuvwxyz012345689" (some (t : Int)) none) none (some (s : Int))).cps.toList ≠ [] /\ (Txt.slice (Txt.slice "q7abcdefghijklmnoprstuvwxyz012345689" (some (t : Int)) none) none (some (s : Int))).length <= 36 /\ (Txt.slice "q7abcdefghijklmnoprstuvwxyz012345689" (some (t : Int)) none).length <= 36 /\ ∀ c ∈ (Txt.slice (Txt.slice "q7abcdefghijklmnoprstuvwxyz012345689" (some (t : Int)) none) none (some (s : Int))).cps.toList, c ∈ sgn := by walk_at "d"
theorem Zl5 (h0 : lk 0 = false) (c : Int) : ∀ (n i : Nat) (acc : List Int) (a : D), i + n <= 100 -> ∃ (xs : List Int) (a' : D), xs.length = acc.length + n /\
 Zab (asgT lk (.name 0)) (tsts ⟨lk, fok, fuel⟩ []) (evb ⟨lk, fok, fuel⟩ (.call Zt [.v 1, .bin .Add (.k (.int 10)) (.v 0), .bin .Mult (.k (.int 16)) (.k (.int 144))])).1 (dI (rngI i n)) (dI acc) [a, I c] = .ok (dI xs, [a', I c]) := by
 intro n
 induction n with
 | zero => exact fun i acc a _ => ⟨acc, a, rfl, rfl⟩
 | succ n ih =>
  intro i acc a hi
  obtain ⟨r, _, _, hr⟩ := Zas c (10 + (i : Int)) 2304 (by decide) (by omega)
  obtain ⟨xs, a', hy, ih⟩ := ih (i + 1) (acc ++ [r]) (I i) (by omega)
  refine ⟨xs, a', by rw [hy, List.length_append, List.length_singleton]; omega, ?_⟩
  have e1 : ((i + 1 : Nat) : Int) = (i : Int) + 1 := by omega
  rw [e1, Zn5] at ih
  rw [<- ih, rngI, Zby, Zdc]
  have l1 : Zt.lend = true := rfl
  have hm : binW .Mult (.sc (.int 16)) (.sc (.int 144)) = some (.sc (.int 2304)) := by kernel_rfl
  simp_all [h0, l1, hr, hm]
theorem Zht (h0 : lk 0 = false) (z : Str) (n : Nat) (hz : Zes z) (h1 : 1 <= n) (h4 : n <= 4) : ∀ (xs : List Int) (acc : List Str) (a : D), (∀ w ∈ acc, w ∈ wds n) -> ∃ (ws : List Str) (a' : D), ws.length = acc.length + xs.length /\ (∀ w ∈ ws, w ∈ wds n) /\
 Zab (asgT lk (.name 0)) (tsts ⟨lk, fok, fuel⟩ []) (evb ⟨lk, fok, fuel⟩ (.call Zac [.v 0, .v 1, .v 2])).1 (dI xs) (dT acc) [a, S' z, I n] = .ok (dT ws, [a', S' z, I n]) := by
 intro xs
 induction xs with
 | nil => exact fun acc a h => ⟨acc, a, rfl, h, rfl⟩
 | cons x xs ih =>
  intro acc a h
  obtain ⟨w, hw, hr⟩ := Zjz x z n hz h1 h4
  obtain ⟨ws, a', hl, hs, ih⟩ := ih (acc ++ [w]) (I x) (fun y hy => by
   rcases List.mem_append.mp hy with q | q
   . exact h y q
   . rw [List.mem_singleton.mp q]; exact hw)
  refine ⟨ws, a', by rw [hl, List.length_append, List.length_singleton, List.length_cons]; omega, hs, ?_⟩
  rw [show dT (acc ++ [w]) = dT acc ++ [S' w] from List.map_append] at ih
  rw [<- ih, Zby, Zdc]
  have l1 : Zac.lend = true := rfl
  simp_all [h0, l1, hr]
def Za4 (p n : Nat) (rs : List (List Str)) : Prop := ∀ r ∈ rs, r.length = p /\ ∀ w ∈ r, w ∈ wds n
theorem Zim (h9 : lk 9 = false) (h10 : lk 10 = false) (h11 : lk 11 = false) (h12 : lk 12 = false) (ns : List Int) (at_ : Nat) (f : Int) (d3 d6 d7 : D) (p n : Nat) (z : Str) (hp : p <= 47) (hz : Zes z) (h1 : 1 <= n) (h4 : n <= 4) : ∀ (m i : Nat) (rs : List (List Str)) (a b c : D), Za4 p n rs -> rs.length + m <= 4 -> ∃ (rs' : List (List Str)) (a' b' c' : D), rs'.length = rs.length + m /\ Za4 p n rs' /\
 forL (asgT lk (.name 10)) (exs ⟨lk, fok, fuel⟩ (bdy (ZaD.getD 8 .pass))) (dI (rngI i m)) [scr ns, I at_, I f, d3, I p, I n, d6, d7, S' z, RL true rs, a, b, c] = .ok (.nx, [scr ns, I at_, I f, d3, I p, I n, d6, d7, S' z, RL true rs', a', b', c']) := by
 intro m
 induction m with
 | zero => exact fun i rs a b c h _ => ⟨rs, a, b, c, rfl, h, rfl⟩
 | succ m ih =>
  intro i rs a b c h hl
  have hc := Zge ns (at_ + 1 + i)
  rw [show ((at_ + 1 + i : Nat) : Int) = (at_ : Int) + 1 + (i : Int) by omega] at hc
  generalize ns.getD (at_ + 1 + i) 0 = cc at hc
  obtain ⟨xs, a1, hxl, hx⟩ := Zl5 (fun j => decide (1 <= j)) fok fuel rfl cc p 0 [] .hole (by omega)
  rw [List.length_nil, Nat.zero_add] at hxl
  obtain ⟨ws, a2, hwl, hws, hw⟩ := Zht (fun j => decide (1 <= j)) fok fuel rfl z n hz h1 h4 xs [] .hole (fun w hw => by simp at hw)
  rw [List.length_nil, Nat.zero_add, hxl] at hwl
  obtain ⟨rs', a', b', c', g1, g2, ih⟩ := ih (i + 1) (rs ++ [ws]) (I i) (I cc) (Ls true xs) (fun r hr => by
   rcases List.mem_append.mp hr with q | q
   . exact h r q
   . rw [List.mem_singleton.mp q]; exact ⟨hwl, hws⟩) (by rw [List.length_append, List.length_singleton]; omega)
  refine ⟨rs', a', b', c', by rw [g1, List.length_append, List.length_singleton]; omega, g2, ?_⟩
  have e1 : ((i + 1 : Nat) : Int) = (i : Int) + 1 := by omega
  rw [e1] at ih
  rw [<- ih, rngI, Zby, Zcf]
  simp only [ZaD, bdy, gd1, gd0]
  have hit : itW .rng1 [.sc (.int (p : Int))] = some (dI (rngI 0 p)) := by
   have := Zhp (p : Int) (by omega)
   rwa [Int.toNat_natCast] at this
  have hc1 : ∀ b0 b1 b2 b3 b4 b5 b6 b7 b8 b9 b10 b12 : D, Za1 1 [11] (Zbe fok fuel 1 (.name 0) [] (.call Zt [.v 1, .bin .Add (.k (.int 10)) (.v 0), .bin .Mult (.k (.int 16)) (.k (.int 144))]) (dI (rngI 0 p)) []) [b0, b1, b2, b3, b4, b5, b6, b7, b8, b9, b10, I cc, b12] = .ok (Ls true xs, [b0, b1, b2, b3, b4, b5, b6, b7, b8, b9, b10, I cc, b12]) := fun b0 b1 b2 b3 b4 b5 b6 b7 b8 b9 b10 b12 => by
   replace hx : Zbe fok fuel 1 (.name 0) [] (.call Zt [.v 1, .bin .Add (.k (.int 10)) (.v 0), .bin .Mult (.k (.int 16)) (.k (.int 144))]) (dI (rngI 0 p)) [] [.hole, I cc] = _ := hx
   rw [ZbZ (js := [11]) (caps := [I cc]) (δ1 := [b0, b1, b2, b3, b4, b5, b6, b7, b8, b9, b10, .hole, b12]) rfl hx (by rw [ZfL, hxl, szl]; omega)]
   rfl
  have hc2 : ∀ b0 b1 b2 b3 b4 b6 b7 b9 b10 b11 b12 : D, Za1 1 [8, 5] (Zbe fok fuel 1 (.name 0) [] (.call Zac [.v 0, .v 1, .v 2]) (dI xs) []) [b0, b1, b2, b3, b4, I n, b6, b7, S' z, b9, b10, b11, b12] = .ok (TL true ws, [b0, b1, b2, b3, b4, I n, b6, b7, S' z, b9, b10, b11, b12]) := fun b0 b1 b2 b3 b4 b6 b7 b9 b10 b11 b12 => by
   replace hw : Zbe fok fuel 1 (.name 0) [] (.call Zac [.v 0, .v 1, .v 2]) (dI xs) [] [.hole, S' z, I n] = _ := hw
   rw [ZbZ (js := [8, 5]) (caps := [S' z, I n]) (δ1 := [b0, b1, b2, b3, b4, .hole, b6, b7, .hole, b9, b10, b11, b12]) rfl hw (by rw [ZJ, hwl, szl]; omega)]
   rfl
  have k1 : Za5.lend = true := rfl
  have hzz : (rs.map (TL true)).length < sizeLine := by rw [List.length_map, szl]; omega
  have ha := fun (δ : List D) (d : D) => ZfI 9 δ d (rs.map (TL true)) hzz
  have e2 : rs.map (TL true) ++ [TL true ws] = (rs ++ [ws]).map (TL true) := by rw [List.map_append]; rfl
  have hi1 : ∀ ds : List D, itW .val [.nd .lst ds] = some ds := fun _ => rfl
  simp only [scr] at hc
  simp_all [h9, h10, h11, h12, k1, hc, hit, hc1, hc2, hi1, ha, e2, ZdO]
theorem sl_s (z : Str) (lo hi : Option Int) (h : z.length <= sizeLine) : slD (.sc (.str z)) lo hi = some (S' (Txt.slice z lo hi)) := by
 show (if z.length <= sizeLine then _ else _) = _
 rw [if_pos h]
theorem Zj0 (ns : List Int) (at_ : Nat) : ∃ p ∈ primes, ∃ n rs, 1 <= n /\ n <= 4 /\ rs.length = n /\ Za4 p n rs /\ Zb2.run [scr ns, I at_] = .ok (RL true rs, [scr ns, I at_]) := by
 have hc := Zge ns at_
 generalize ns.getD at_ 0 = f at hc
 obtain ⟨r1, a1, b1, h1⟩ := Zas f 1 18 (by decide) (by decide)
 obtain ⟨r2, a2, b2, h2⟩ := Zas f 2 4 (by decide) (by decide)
 obtain ⟨r3, a3, b3, h3⟩ := Zas f 3 4 (by decide) (by decide)
 obtain ⟨p, hp, hp2⟩ := ZqG r1.toNat (List.mem_range.mpr (by omega))
 obtain ⟨s, hs, hs2⟩ := ZnM r3.toNat (List.mem_range.mpr (by omega))
 have hs3 : 2 <= s /\ s <= 36 := by
  simp only [List.mem_cons, List.not_mem_nil, or_false] at hs
  omega
 obtain ⟨r4, a4, b4, h4⟩ := Zas f 4 (37 - (s : Int)) (by omega) (by decide)
 have hn : ∃ n : Nat, 1 <= n /\ n <= 4 /\ 1 + r2 = n := ⟨(1 + r2).toNat, by omega, by omega, by omega⟩
 obtain ⟨n, n1, n4, hn⟩ := hn
 have ht : ∃ t : Nat, t < 37 - s /\ r4 = t := ⟨r4.toNat, by omega, by omega⟩
 obtain ⟨t, ht1, rfl⟩ := ht
 obtain ⟨z1, z2, z3, z4⟩ := Zl4 s hs t (List.mem_range.mpr ht1)
 have sl1 : slD (.sc (.str "q7abcdefghijklmnoprstuvwxyz012345689")) (some (t : Int)) none = some (S' (Txt.slice "q7abcdefghijklmnoprstuvwxyz012345689" (some (t : Int)) none)) := sl_s _ _ _ (by rw [szl]; decide +kernel)
 have sl2 : slD (.sc (.str (Txt.slice "q7abcdefghijklmnoprstuvwxyz012345689" (some (t : Int)) none))) none (some (s : Int)) = some (S' (Txt.slice (Txt.slice "q7abcdefghijklmnoprstuvwxyz012345689" (some (t : Int)) none) none (some (s : Int)))) := sl_s _ _ _ (by rw [szl]; omega)
 have hz : Zes (Txt.slice (Txt.slice "q7abcdefghijklmnoprstuvwxyz012345689" (some (t : Int)) none) none (some (s : Int))) := ⟨z1, z2, z4⟩
 generalize Txt.slice (Txt.slice "q7abcdefghijklmnoprstuvwxyz012345689" (some (t : Int)) none) none (some (s : Int)) = z at sl2 hz
 generalize Txt.slice "q7abcdefghijklmnoprstuvwxyz012345689" (some (t : Int)) none = y at sl1 sl2
 have hpl := ZaW p hp
 obtain ⟨rs, c1, c2, c3, g1, g2, hloop⟩ := Zim (fun j => (fun i => decide (i < 2)) j || walked [.v 5] j) (fun _ _ => false) 0 rfl rfl rfl rfl ns at_ f (Ls true lp) (.sc (.str "q7abcdefghijklmnoprstuvwxyz012345689")) (I s) p n z hpl.2 hz n1 n4 n 0 [] .hole .hole .hole (fun r hr => by simp at hr) (by simpa using n4)
 rw [List.length_nil, Nat.zero_add] at g1
 have e0 : ((0 : Nat) : Int) = 0 := rfl
 rw [e0] at hloop
 refine ⟨p, hp, n, rs, n1, n4, g1, g2, ?_⟩
 simp only [walked, Bool.or_false, ZaD, bdy, gd1, gd0] at hloop
 walk_at "r"
 have hk1 : ∀ C : T.Ctx, (evb C (.kl [(.int 5), (.int 7), (.int 11), (.int 13), (.int 17), (.int 19), (.int 23), (.int 29), (.int 31), (.int 37), (.int 41), (.int 43), (.int 47), (.int 5), (.int 7), (.int 5), (.int 7), (.int 11)])).1 = M.ret (Ls true lp) := fun C => by
  show lift (newL (dI lp)) = _
  rw [Zbx _ (by rw [ZfL, szl]; decide)]
  rfl
 have hk2 : ∀ C : T.Ctx, (evb C (.kl [(.int 2), (.int 4), (.int 8), (.int 36)])).1 = M.ret (Ls true lsz) := fun C => by
  show lift (newL (dI lsz)) = _
  rw [Zbx _ (by rw [ZfL, szl]; decide)]
  rfl
 have hx1 : ((ixN' (dI lp).length r1).bind fun j => (dI lp)[j]?) = some (.sc (.int (p : Int))) := by
  rw [ixI lp r1 a1 (by rw [show lp.length = 18 from rfl]; omega), hp2]
 have hx2 : ((ixN' (dI lsz).length r3).bind fun j => (dI lsz)[j]?) = some (.sc (.int (s : Int))) := by
  rw [ixI lsz r3 a3 (by rw [show lsz.length = 4 from rfl]; omega), hs2]
 have hit : itW .rng1 [.sc (.int (n : Int))] = some (dI (rngI 0 n)) := by
  have := Zhp (n : Int) (by omega)
  rwa [Int.toNat_natCast] at this
 have k1 : Za5.lend = true := rfl
 have k2 : Zt.lend = true := rfl
 have e3 : D.node .lst true [] = RL true [] := rfl
 have pc : ∀ (fi : FI) (es : List E) (c : M Op), ZaS (.call fi es) c = ((c.bnd view).bnd fun w => lift (intP w)) := fun _ _ _ => rfl
 simp only [scr] at hc hloop
 (simp_all [k1, k2, hc, h1, h2, h3, h4, hk1, hk2, hx1, hx2, hn, sl1, sl2, ZjU, hit, e3, hloop, pc, ZdO]) <;> rfl
noncomputable def line (r : List Str) : Str := Txt.join ⟨#[32]⟩ r
noncomputable def lines (p : Nat) (rs : List (List Str)) : List Str := first p :: rs.map line
noncomputable def text (p : Nat) (rs : List (List Str)) : Str := Txt.join ⟨#[10]⟩ (lines p rs)
theorem Zl6 (ws : List Str) : Zb7 (dT ws) = some ws := by
 induction ws with
 | nil => rfl
 | cons w ws ih =>
  show (Zb7 (dT ws)).map (w :: ·) = _
  rw [ih]
  rfl
theorem Zcz {p n : Nat} {r : List Str} (hn : n ∈ [1, 2, 3, 4]) (hw : ∀ w ∈ r, w ∈ wds n) (hl : r.length = p) (hp : p <= 47) : JoinOk ⟨#[32]⟩ r = true /\ (line r).length <= 400 /\ 10 ∉ (line r).cps.toList := by
 have hb : ∀ w ∈ r, w.length <= 6 := fun w h => (ZaX n hn w (hw w h)).2.2
 refine ⟨Zer 32 6 r hb (by omega), ?_, fun hc => ?_⟩
 . have := ZcD 32 6 r hb
   unfold line
   omega
 . have hc' : 10 ∈ (Builtin.Str.glued ⟨#[32]⟩ r).cps.toList := hc
   rw [StrLaws.glued_eq_join] at hc'
   rcases ZcC 32 _ 10 hc' with e | ⟨q, hq, hx⟩
   . omega
   . exact (ZaX n hn q (hw q hq)).2.1 hx
theorem ZeE {p n : Nat} {rs : List (List Str)} (hp : p ∈ primes) (h1 : 1 <= n) (h4 : n <= 4) (hl : rs.length = n) (h : Za4 p n rs) : JoinOk ⟨#[10]⟩ (lines p rs) = true /\ (text p rs).length <= 3000 /\ Txt.split (text p rs) ⟨#[10]⟩ = lines p rs := by
 have hn := n14 h1 h4
 have hpl := ZaW p hp
 have hf := Zcm p hp
 have hb : ∀ w ∈ lines p rs, w.length <= 400 := fun w hw => by
  rcases List.mem_cons.mp hw with rfl | hw
  . omega
  . obtain ⟨r, hr, rfl⟩ := List.mem_map.mp hw
    exact (Zcz hn (h r hr).2 (h r hr).1 hpl.2).2.1
 have hll : (lines p rs).length = n + 1 := by unfold lines; rw [List.length_cons, List.length_map, hl]
 refine ⟨Zer 10 400 _ hb (by rw [hll]; omega), ?_, Zb3 10 _ (by unfold lines; simp) fun w hw => ?_⟩
 . have := ZcD 10 400 _ hb
   rw [hll] at this
   unfold text
   omega
 . rcases List.mem_cons.mp hw with rfl | hw
   . exact hf.1
   . obtain ⟨r, hr, rfl⟩ := List.mem_map.mp hw
     exact (Zcz hn (h r hr).2 (h r hr).1 hpl.2).2.2
theorem Zhu {p n : Nat} {r : List Str} (hn : n ∈ [1, 2, 3, 4]) (hw : ∀ w ∈ r, w ∈ wds n) (hl : r.length = p) (hp : 1 <= p) : Txt.split (line r) ⟨#[32]⟩ = r :=
 Zb3 32 _ (fun e => by subst e; simp at hl; omega) fun w h => (ZaX n hn w (hw w h)).1
theorem ZjV : ∀ p ∈ primes, bfW .str [.sc (.int (p : Nat))] = some (S' (Str.ofString (toString (p : Int)))) := by
 unfold primes
 simp only [List.forall_mem_cons, List.not_mem_nil, false_implies, implies_true, and_true]
 refine ⟨?_, ?_, ?_, ?_, ?_, ?_, ?_, ?_, ?_, ?_, ?_, ?_, ?_⟩ <;> kernel_rfl
theorem ZjW : ∀ p ∈ primes, binW .Add (.sc (.str "symbols ")) (.sc (.str (Str.ofString (toString ((p : Nat) : Int))))) = some (S' (first p)) := by
 unfold primes
 simp only [List.forall_mem_cons, List.not_mem_nil, false_implies, implies_true, and_true]
 refine ⟨?_, ?_, ?_, ?_, ?_, ?_, ?_, ?_, ?_, ?_, ?_, ?_, ?_⟩ <;> kernel_rfl
theorem ZcF : (Str.ofString " ") = ⟨#[32]⟩ := by kernel_rfl
theorem Zbl : (Str.ofString "\n") = ⟨#[10]⟩ := by kernel_rfl
theorem Zdn (z : Str) (ws : List Str) (h : JoinOk z ws = true) : bmW .join z [.nd .lst (dT ws)] = some (S' (Txt.join z ws)) := by
 show (Zb7 (dT ws)).bind _ = _
 rw [Zl6]
 exact if_pos h
theorem ZgK (z s : Str) (h : s.cps.size = 1) (hz : z.length + 2 <= sizeLine) : bmW .split z [.sc (.str s)] = some (TL true (Txt.split z s)) := if_pos ⟨h, hz⟩
theorem ZK (z : Str) : strW (.sc (.str z)) = some z := (rfl)
theorem ixT (ws : List Str) (k : Nat) (h : k < ws.length) : ((ixN' (dT ws).length (k : Int)).bind fun j => (dT ws)[j]?) = some (S' (ws.getD k Str.empty)) := by
 rw [ZJ, Zd6 _ _ h]
 show (dT ws)[k]? = _
 rw [List.getElem?_map, List.getD_eq_getElem?_getD, List.getElem?_eq_getElem h]
 rfl
theorem ixR (g : List Str -> D) (rs : List (List Str)) (k : Nat) (h : k < rs.length) : ((ixN' (rs.map g).length (k : Int)).bind fun j => (rs.map g)[j]?) = some (g (rs.getD k [])) := by
 rw [List.length_map, Zd6 _ _ h]
 show (rs.map g)[k]? = _
 rw [List.getElem?_map, List.getD_eq_getElem?_getD, List.getElem?_eq_getElem h]
 rfl
theorem Zl7 (h1 : lk 1 = false) (h2 : lk 2 = false) (x0 : D) : ∀ (rs : List (List Str)) (ls : List Str) (a : D), (∀ r ∈ rs, JoinOk ⟨#[32]⟩ r = true) -> ls.length + rs.length <= 100 -> ∃ a',
 forL (asgT lk (.name 2)) (exs ⟨lk, fok, fuel⟩ [.ex (.mut .append 1 [] [.bm .join (.k (.str " ")) [.v 2]])]) (rs.map (TL false)) [x0, TL true ls, a] = .ok (.nx, [x0, TL true (ls ++ rs.map line), a']) := by
 intro rs
 induction rs with
 | nil => exact fun ls a _ _ => ⟨a, by rw [List.map_nil, List.map_nil, List.append_nil]; rfl⟩
 | cons r rs ih =>
  intro ls a hj hl
  rw [List.length_cons] at hl
  obtain ⟨a', ih⟩ := ih (ls ++ [line r]) (TL false r) (fun q hq => hj q (List.mem_cons_of_mem _ hq)) (by rw [List.length_append, List.length_singleton]; omega)
  refine ⟨a', ?_⟩
  rw [List.append_assoc] at ih
  rw [List.map_cons, List.map_cons, show ls ++ line r :: rs.map line = ls ++ ([line r] ++ rs.map line) from rfl, <- ih, Zcf]
  have hj1 : bmW .join (Str.ofString " ") [.nd .lst (dT r)] = some (S' (line r)) := by
   rw [ZcF]
   exact Zdn _ r (hj r (by simp))
  have hz : (dT ls).length < sizeLine := by rw [ZJ, szl]; omega
  have ha := fun (δ : List D) (d : D) => ZfI 1 δ d (dT ls) hz
  have e2 : dT ls ++ [S' (line r)] = dT (ls ++ [line r]) := (show dT (ls ++ [line r]) = dT ls ++ [S' (line r)] from List.map_append).symm
  simp_all [h1, h2, ZK, hj1, ha, e2]
theorem Zgf {p n : Nat} {rs : List (List Str)} (b : Bool) (hp : p ∈ primes) (h1 : 1 <= n) (h4 : n <= 4) (hl : rs.length = n) (h : Za4 p n rs) : Za6.run [RL b rs] = .ok (S' (text p rs), [RL false rs]) := by
 walk_at "r"
 have hpl := ZaW p hp
 obtain ⟨a', hf⟩ := Zl7 (fun j => (fun i => decide (i < 1)) j || walked [.v 0] j) (fun _ _ => false) 0 rfl rfl .hole rs [first p] .hole (fun r hr => (Zcz (n14 h1 h4) (h r hr).2 (h r hr).1 hpl.2).1) (by rw [List.length_singleton]; omega)
 rw [show [first p] ++ rs.map line = lines p rs from rfl] at hf
 simp only [walked, Bool.or_false] at hf
 have hx := ixR (TL false) rs 0 (by omega)
 have hr0 : (rs.getD 0 []).length = p := by
  rw [List.getD_eq_getElem?_getD, List.getElem?_eq_getElem (by omega)]
  exact (h _ (List.getElem_mem _)).1
 generalize rs.getD 0 [] = r0 at hx hr0
 have e0 : ((0 : Nat) : Int) = 0 := rfl
 rw [e0] at hx
 have hlen : ((dT r0).length : Int) = (p : Int) := by rw [ZJ, hr0]
 have s1 := ZjV p hp
 have s2 := ZjW p hp
 have hi : ∀ ds : List D, itW .val [.nd .lst ds] = some ds := fun _ => rfl
 have e1 : D.node .lst true [S' (first p)] = TL true [first p] := rfl
 have hj : bmW .join (Str.ofString "\n") [.nd .lst (dT (lines p rs))] = some (S' (text p rs)) := by
  rw [Zbl]
  exact Zdn _ _ (ZeE hp h1 h4 hl h).1
 (simp_all [Za3, Z7, hx, hlen, s1, s2, ZcE, e1, hi, hf, ZK, hj]) <;> rfl
theorem Zhv (w : W) : bfW (.isi .str) [w] = (tyW .str w).map fun b => .sc (.bl b) := (rfl)
theorem ZqH (z : Str) : tyW .str (.sc (.str z)) = some true := (rfl)
theorem Zgt (t : Str) (ht : t.length <= 3000) : Za0.run [S' t] = .ok (TL true (Txt.split t ⟨#[10]⟩), [S' t]) := by
 walk_at "r"
 have hs : bmW .split t [.sc (.str (Str.ofString "\n"))] = some (TL true (Txt.split t ⟨#[10]⟩)) := by
  rw [Zbl]
  exact ZgK _ _ rfl (by rw [szl]; omega)
 (simp_all [Zhv, ZqH, ZK, hs]) <;> rfl
noncomputable def excR (x : D) : Rs (Unit × List D) -> Rs (D × List D)
 | .ok (_, δ') => .exc x δ'
 | _ => .stuck
theorem Zet {ps : List Op} {x : D} {ds' δ : List D} : cxR ps δ (.exc x ds') = excR x (Z0 ps ds' δ) := by
 show (match Z0 ps ds' δ with | .ok (_, δ') => Rs.exc x δ' | _ => .stuck) = _
 unfold excR
 cases Z0 ps ds' δ <;> rfl
theorem Zc0 (x : D) (u : Unit) (δ : List D) : excR x (.ok (u, δ)) = .exc x δ := (rfl)
noncomputable abbrev Nt (b : Bool) (v : V) : D := .node (.exc ["NoTable", "LabelError"] false ["row"]) b [.sc v]
theorem Zin : (fmtW (Str.ofString "no text of a table: row ") (.sc .non)).isSome = true /\ ∀ k : Nat, k < 9 -> (fmtW (Str.ofString "no text of a table: row ") (.sc (.int (k : Int)))).isSome = true := by walk_at "d"
theorem ZbQ (v : V) (h : v = .non \/ ∃ k : Nat, k < 9 /\ v = .int k) : Zk.run [.node (.exc ["NoTable", "LabelError"] true []) true [], .sc v] = .ok (.sc .non, [.node (.exc ["NoTable", "LabelError"] true ["row"]) true [.sc v], .sc v]) := by
 have hs : (fmtW (Str.ofString "no text of a table: row ") (.sc v)).isSome = true := by
  rcases h with rfl | ⟨k, hk, rfl⟩
  . exact Zin.1
  . exact Zin.2 k hk
 obtain ⟨z, hz⟩ := Option.isSome_iff_exists.mp hs
 walk_at "r"
 have f0 : fmtW Str.empty (.sc (.str (Str.ofString "no text of a table: row "))) = some (Str.ofString "no text of a table: row ") := by kernel_rfl
 have hp : ∀ δ : List D, mdR 0 δ (putX (Str.ofString "row") (.sc v)) (some (.node (.exc ["NoTable", "LabelError"] true []) true [])) = .ok (.sc .non, δ.set 0 (.node (.exc ["NoTable", "LabelError"] true ["row"]) true [.sc v])) := fun δ => rfl
 (simp_all [f0, hz, hp]) <;> rfl
theorem fs_p : ∀ p ∈ primes, (fmtW Str.empty (.sc (.str (Str.ofString "symbols "))) = some (Str.ofString "symbols ")) /\ fmtW (Str.ofString "symbols ") (.sc (.int (p : Nat))) = some (first p) := by
 unfold primes
 simp only [List.forall_mem_cons, List.not_mem_nil, false_implies, implies_true, and_true]
 refine ⟨?_, ?_, ?_, ?_, ?_, ?_, ?_, ?_, ?_, ?_, ?_, ?_, ?_⟩ <;> exact ⟨by kernel_rfl, by kernel_rfl⟩
noncomputable def pOf (z : Str) : List Nat -> Option Nat
 | [] => none
 | p :: ps => if z = first p then some p else pOf z ps
theorem Zio (h1 : lk 1 = false) (z : Str) : ∀ (ps : List Nat) (a : D), (∀ p ∈ ps, p ∈ primes) -> ∃ a',
 forL (asgT lk (.name 1)) (exs ⟨lk, fok, fuel⟩ [.iff (.cmp .Eq (.v 0) (.fs [.k (.str "symbols "), .v 1])) [.ret (.v 1)] []]) (dI (ps.map fun (p : Nat) => (p : Int))) [S' z, a] = (match pOf z ps with | none => .ok (.nx, [S' z, a']) | some p => .ok (.rt (I p), [S' z, a'])) := by
 intro ps
 induction ps with
 | nil => exact fun a _ => ⟨a, rfl⟩
 | cons p ps ih =>
  intro a h
  obtain ⟨f0, f1⟩ := fs_p p (h p List.mem_cons_self)
  obtain ⟨a', ih⟩ := ih (I p) fun q hq => h q (List.mem_cons_of_mem _ hq)
  rw [List.map_cons, Zby, Zcf, pOf]
  by_cases e : z = first p
  . have e1 : decide (V.str z = V.str (first p)) = true := decide_eq_true (by rw [e])
    refine ⟨I p, ?_⟩
    rw [if_pos e]
    (simp_all [h1, f0, f1, e1]) <;> rfl
  . have e1 : decide (V.str z = V.str (first p)) = false := decide_eq_false fun q => e (V.str.inj q)
    refine ⟨a', ?_⟩
    rw [if_neg e, <- ih]
    simp_all [h1, f0, f1, e1]
theorem ZnN (z : Str) : Zbg.run [S' z] = (match pOf z primes with | none => .exc (Nt true (.int 0)) [S' z] | some p => .ok (I p, [S' z])) := by
 walk_at "r"
 obtain ⟨a', hs⟩ := Zio (fun j => decide (j < 1)) (fun _ _ => false) 0 rfl z primes .hole fun p h => h
 replace hs : forL (asgT (fun j => decide (j < 1)) (.name 1)) (exs ⟨fun j => decide (j < 1), fun _ _ => false, 0⟩ [.iff (.cmp .Eq (.v 0) (.fs [.k (.str "symbols "), .v 1])) [.ret (.v 1)] []]) [.sc (.int 5), .sc (.int 7), .sc (.int 11), .sc (.int 13), .sc (.int 17), .sc (.int 19), .sc (.int 23), .sc (.int 29), .sc (.int 31), .sc (.int 37), .sc (.int 41), .sc (.int 43), .sc (.int 47)] [S' z, .hole] = _ := hs
 have hv : ∀ ds : List D, itW .val [.nd .ftp ds] = some ds := fun _ => rfl
 have wk : ∀ (d : D) (j : Nat), walked [.g d] j = false := fun _ _ => rfl
 have l1 : Zk.lend = true := rfl
 have hi := ZbQ (.int 0) (.inr ⟨0, by decide, rfl⟩)
 have nx : ¬ 1000 < 1 := by decide
 simp_all [hv, wk]
 cases hp : pOf z primes with
 | none =>
  rw [hp] at hs
  (simp_all [hs, l1, hi, ZcA (ns := ["NoTable", "LabelError"]) (fi := Zk) (ps := [Op.tmp (I 0)]) nx]) <;> rfl
 | some p =>
  rw [hp] at hs
  (simp_all [hs]) <;> rfl
theorem ZqI (ls : List Str) : Zav.run [TL true ls] = (if 5 < ls.length then .exc (Nt true (.int 5)) [TL true ls] else if ls.length = 1 then .exc (Nt true (.int 1)) [TL true ls] else .ok (.sc .non, [TL true ls])) := by
 walk_at "r"
 have hl : ((dT ls).length : Int) = (ls.length : Int) := by rw [ZJ]
 have l1 : Zk.lend = true := rfl
 have h5 := ZbQ (.int 5) (.inr ⟨5, by decide, rfl⟩)
 have h1 := ZbQ (.int 1) (.inr ⟨1, by decide, rfl⟩)
 have nx : ¬ 1000 < 1 := by decide
 simp_all [hl, Z7]
 by_cases c1 : 5 < ls.length
 . have d1 : (5 : Int) < (ls.length : Int) := by omega
   rw [if_pos c1]
   (simp_all [d1, l1, h5, ZcA (ns := ["NoTable", "LabelError"]) (fi := Zk) (ps := [Op.tmp (I 5)]) nx]) <;> rfl
 . have d1 : ¬ (5 : Int) < (ls.length : Int) := by omega
   rw [if_neg c1]
   by_cases c2 : ls.length = 1
   . have d2 : decide ((ls.length : Int) = 1) = true := decide_eq_true (by omega)
     rw [if_pos c2]
     (simp_all [d1, d2, hl, Z7, l1, h1, V.int.injEq, ZcA (ns := ["NoTable", "LabelError"]) (fi := Zk) (ps := [Op.tmp (I 1)]) nx]) <;> rfl
   . have d2 : decide ((ls.length : Int) = 1) = false := decide_eq_false (by omega)
     rw [if_neg c2]
     (simp_all [d1, d2, hl, Z7, V.int.injEq]) <;> rfl
theorem Zl8 (v : V) (h : tyW .str (.sc v) = some false) : Za0.run [.sc v] = .exc (Nt true .non) [.sc v] := by
 walk_at "r"
 have l1 : Zk.lend = true := rfl
 have hi := ZbQ .non (.inl rfl)
 have nx : ¬ 1000 < 1 := by decide
 (simp_all [Zhv, h, l1, hi, ZcA (ns := ["NoTable", "LabelError"]) (fi := Zk) (ps := [Op.tmp (.sc .non)]) nx]) <;> rfl
theorem Zl9 (k : Kd) (ds : List D) (h : tyW .str (.nd k ds) = some false) : Za0.run [.node k false ds] = .exc (Nt true .non) [.node k false ds] := by
 walk_at "r"
 have l1 : Zk.lend = true := rfl
 have hi := ZbQ .non (.inl rfl)
 have nx : ¬ 1000 < 1 := by decide
 (simp_all [Zhv, h, l1, hi, ZcA (ns := ["NoTable", "LabelError"]) (fi := Zk) (ps := [Op.tmp (.sc .non)]) nx]) <;> rfl
theorem ZqJ (ds : List D) : bfW .all [.nd .lst ds] = (ZaH ds).map fun bs => .sc (.bl (bs.all id)) := (rfl)
noncomputable abbrev Dc (b : Bool) (n : Nat) : D := .node (.dic ((wds n).map (Sum.inr : Str -> Key))) true ((wds n).map (mean b))
noncomputable abbrev Mrow (o : Bool) (r : List Str) : D := .node .lst o (r.map (mean false))
noncomputable abbrev MsT (o : Bool) (rs : List (List Str)) : D := .node .lst o (rs.map (Mrow o))
theorem Zip (w : Str) : shrL (ZdB w) = ZdB w := by
 unfold ZdB
 split
 . rfl
 split
 . rfl
 split <;> rfl
theorem Zj1 (b : Bool) (w : Str) : shr (mean b w) = mean false w := by
 show D.node .tup false (shrL (ZdB w)) = _
 rw [Zip]
theorem Zdo (b : Bool) (ws : List Str) : shrL (ws.map (mean b)) = ws.map (mean false) := by
 induction ws with
 | nil => rfl
 | cons w ws ih => rw [List.map_cons, shrL, ih, Zj1, List.map_cons]
theorem ZnO (o : Bool) (rs : List (List Str)) : shrL (rs.map (Mrow o)) = rs.map (Mrow false) := by
 induction rs with
 | nil => rfl
 | cons r rs ih =>
  rw [List.map_cons, shrL, ih, List.map_cons]
  congr 1
  show D.node .lst false (shrL (r.map (mean false))) = _
  rw [Zdo]
theorem ZnP (n : Nat) (w : Str) (hw : w ∈ wds n) : ZO (.inr w) ((wds n).map (Sum.inr : Str -> Key)) ((wds n).map (mean false)) = some (mean false w) := Zil w (mean false) _ hw
theorem Zj2 (h0 : lk 0 = false) (n : Nat) : ∀ (ws acc : List Str) (a : D) (b : Bool), (∀ w ∈ ws, w ∈ wds n) -> ∃ a' b',
 Zab (asgT lk (.name 0)) (tsts ⟨lk, fok, fuel⟩ []) (evb ⟨lk, fok, fuel⟩ (.ix (.v 1) (.v 0))).1 (dT ws) (acc.map (mean false)) [a, Dc b n] = .ok ((acc ++ ws).map (mean false), [a', Dc b' n]) := by
 intro ws
 induction ws with
 | nil => exact fun acc a b _ => ⟨a, b, by rw [List.append_nil]; rfl⟩
 | cons w ws ih =>
  intro acc a b hw
  obtain ⟨a', b', ih⟩ := ih (acc ++ [w]) (S' w) false (fun q hq => hw q (List.mem_cons_of_mem _ hq))
  refine ⟨a', b', ?_⟩
  rw [List.append_assoc] at ih
  rw [show acc ++ w :: ws = acc ++ ([w] ++ ws) from rfl, <- ih, show dT (w :: ws) = S' w :: dT ws from rfl, Zdc]
  have hk := ZnP n w (hw w (by simp))
  have e : acc.map (mean false) ++ [D.node .tup false (ZdB w)] = (acc ++ [w]).map (mean false) := by rw [List.map_append]; rfl
  simp_all [h0, Zdo, hk, e]
theorem Zgg (w : Str) (f : Str -> D) : ∀ ws : List Str, (ZO (.inr w) (ws.map (Sum.inr : Str -> Key)) (ws.map f)).isSome = decide (w ∈ ws)
 | [] => by simp [ZO]
 | a :: ws => by
  have ih := Zgg w f ws
  simp only [List.map_cons, ZO]
  by_cases e : a = w
  . rw [if_pos (by rw [e]), e, decide_eq_true List.mem_cons_self]; rfl
  . rw [if_neg (fun q => e (Sum.inr.inj q)), ih]
    have e' : ¬ w = a := fun q => e q.symm
    simp [e']
noncomputable def inW (n : Nat) (w : Str) : Bool := decide (w ∈ wds n)
theorem ZnQ (h0 : lk 0 = false) (n : Nat) : ∀ (ws : List Str) (acc : List D) (a : D) (b : Bool), ∃ a' b',
 Zab (asgT lk (.name 0)) (tsts ⟨lk, fok, fuel⟩ []) (evb ⟨lk, fok, fuel⟩ (.cmp .In (.v 0) (.v 1))).1 (dT ws) acc [a, Dc b n] = .ok (acc ++ ws.map (fun w => D.sc (.bl (inW n w))), [a', Dc b' n]) := by
 intro ws
 induction ws with
 | nil => exact fun acc a b => ⟨a, b, by rw [List.map_nil, List.append_nil]; rfl⟩
 | cons w ws ih =>
  intro acc a b
  obtain ⟨a', b', ih⟩ := ih (acc ++ [D.sc (.bl (inW n w))]) (S' w) false
  refine ⟨a', b', ?_⟩
  rw [List.append_assoc] at ih
  rw [List.map_cons, show acc ++ D.sc (.bl (inW n w)) :: ws.map (fun w => D.sc (.bl (inW n w))) = acc ++ ([D.sc (.bl (inW n w))] ++ ws.map (fun w => D.sc (.bl (inW n w)))) from rfl, <- ih, show dT (w :: ws) = S' w :: dT ws from rfl, Zdc]
  have hk : ((ZO (.inr w) ((wds n).map (Sum.inr : Str -> Key)) ((wds n).map (mean false))).isSome == true) = inW n w := by rw [Zgg]; unfold inW; cases decide (w ∈ wds n) <;> rfl
  simp_all [h0, Zdo, hk]
theorem ZlA (f : Str -> Bool) : ∀ ws : List Str, bfW .all [.nd .lst (ws.map fun w => D.sc (.bl (f w)))] = some (.sc (.bl (ws.all f))) := by
 have go : ∀ ws : List Str, ZaH (ws.map fun w => D.sc (.bl (f w))) = some (ws.map f) := by
  intro ws
  induction ws with
  | nil => rfl
  | cons w ws ih => rw [List.map_cons, ZaH, ih]; rfl
 intro ws
 rw [ZqJ, go]
 show some (D.sc (.bl ((ws.map f).all id))) = _
 rw [List.all_map]
 rfl
noncomputable def wsp (L : Str) : List Str := Txt.split L ⟨#[32]⟩
noncomputable def gd (p n : Nat) (L : Str) : Bool := decide ((wsp L).length = p) && (wsp L).all (inW n)
noncomputable def fb (p n : Nat) : Nat -> List Str -> Option Nat
 | _, [] => none
 | k, L :: r => if gd p n L then fb p n (k + 1) r else some k
theorem Zhw (h3 : lk 3 = false) (h4 : lk 4 = false) (h5 : lk 5 = false) (p n : Nat) (ls : List Str) : ∀ (rest : List Str) (done : List (List Str)) (b : Bool) (a c : D), (∀ k : Nat, k < rest.length -> done.length + 1 + k < ls.length /\ ls.getD (done.length + 1 + k) Str.empty = rest.getD k Str.empty) -> (∀ L ∈ rest, L.length <= 3000 /\ (wsp L).length <= 4000) -> done.length + rest.length <= 4 -> ∃ b' d3 a' c', (fb p n (done.length + 1) rest = none -> d3 = .node .lst true ((done ++ rest.map wsp).map (Mrow true))) /\
 forL (asgT lk (.name 4)) (exs ⟨lk, fok, fuel⟩ (bdy (ZR.getD 2 .pass))) (dI (rngI ((done.length + 1 : Nat) : Int) rest.length)) [I p, TL true ls, Dc b n, .node .lst true (done.map (Mrow true)), a, c] = (match fb p n (done.length + 1) rest with | none => .ok (.nx, [I p, TL true ls, Dc b' n, d3, a', c']) | some k => .exc (Nt true (.int k)) [I p, TL true ls, Dc b' n, d3, a', c']) := by
 intro rest
 induction rest with
 | nil => exact fun done b a c _ _ _ => ⟨b, _, a, c, fun _ => by rw [List.map_nil, List.append_nil], rfl⟩
 | cons L rest ih =>
  intro done b a c hat hL hl
  rw [List.length_cons] at hl
  obtain ⟨L1, L2⟩ := hL L List.mem_cons_self
  obtain ⟨g1, g2⟩ := hat 0 (by simp)
  have g2 : ls.getD (done.length + 1) Str.empty = L := g2
  have g1 : done.length + 1 < ls.length := g1
  obtain ⟨a1, b1, hin⟩ := ZnQ (fun j => decide (1 <= j)) fok fuel rfl n (wsp L) [] .hole b
  rw [List.nil_append] at hin
  have hx := ixT ls (done.length + 1) g1
  rw [g2] at hx
  have hs : bmW .split L [.sc (.str (Str.ofString " "))] = some (TL true (wsp L)) := by
   rw [ZcF, ZgK _ _ rfl (by rw [szl]; omega)]
   rfl
  have hi : ∀ ds : List D, itW .val [.nd .lst ds] = some ds := fun _ => rfl
  have hlen : ((dT (wsp L)).length : Int) = ((wsp L).length : Int) := by rw [ZJ]
  have hc1 : ∀ b0 b1' b3 b4 b5 : D, Za1 1 [2] (Zbe fok fuel 1 (.name 0) [] (.cmp .In (.v 0) (.v 1)) (dT (wsp L)) []) [b0, b1', Dc b n, b3, b4, b5] = .ok (.node .lst true ((wsp L).map fun w => D.sc (.bl (inW n w))), [b0, b1', Dc b1 n, b3, b4, b5]) := fun b0 b1' b3 b4 b5 => by
   replace hin : Zbe fok fuel 1 (.name 0) [] (.cmp .In (.v 0) (.v 1)) (dT (wsp L)) [] [.hole, Dc b n] = _ := hin
   rw [ZbZ (js := [2]) (caps := [Dc b n]) (δ1 := [b0, b1', .hole, b3, b4, b5]) rfl hin (by rw [List.length_map, szl]; omega)]
   rfl
  have hall := ZlA (inW n) (wsp L)
  have l1 : Zk.lend = true := rfl
  have hni := ZbQ (.int ((done.length + 1 : Nat) : Int)) (.inr ⟨done.length + 1, by omega, rfl⟩)
  have nx : ¬ 1000 < 1 := by decide
  rw [List.length_cons, rngI, Zby, Zcf]
  simp only [ZR, bdy, gd1, gd0] at ih ⊢
  by_cases c1 : (wsp L).length = p
  . have d1 : decide (V.int ((wsp L).length : Int) = V.int (p : Int)) = true := decide_eq_true (by rw [c1])
    by_cases c2 : (wsp L).all (inW n) = true
    . have hw : ∀ w ∈ wsp L, w ∈ wds n := fun w hw => of_decide_eq_true (List.all_eq_true.mp c2 w hw)
      rw [c2] at hall
      have hg : gd p n L = true := by unfold gd; rw [c1, c2, decide_eq_true rfl]; rfl
      obtain ⟨a2, b2, hget⟩ := Zj2 (fun j => decide (1 <= j)) fok fuel rfl n (wsp L) [] .hole b1 hw
      rw [List.nil_append] at hget
      obtain ⟨b', d3, a', c', q1, ih⟩ := ih (done ++ [wsp L]) b2 (I (done.length + 1 : Nat)) (TL true (wsp L)) (fun k hk => by
       have := hat (k + 1) (by rw [List.length_cons]; omega)
       rw [List.length_append, List.length_singleton]
       refine ⟨by omega, ?_⟩
       rw [show done.length + 1 + 1 + k = done.length + 1 + (k + 1) by omega, this.2]
       rfl) (fun M hM => hL M (List.mem_cons_of_mem _ hM)) (by rw [List.length_append, List.length_singleton]; omega)
      rw [List.length_append, List.length_singleton] at q1 ih
      have hfb : fb p n (done.length + 1) (L :: rest) = fb p n (done.length + 1 + 1) rest := by rw [fb, if_pos hg]
      refine ⟨b', d3, a', c', fun h => ?_, ?_⟩
      . rw [q1 (hfb ▸ h), List.append_assoc]; rfl
      rw [hfb, <- ih]
      rw [show ((done.length + 1 + 1 : Nat) : Int) = ((done.length + 1 : Nat) : Int) + 1 by omega]
      have hc2 : ∀ b0 b1' b3 b4 b5 : D, Za1 1 [2] (Zbe fok fuel 1 (.name 0) [] (.ix (.v 1) (.v 0)) (dT (wsp L)) []) [b0, b1', Dc b1 n, b3, b4, b5] = .ok (Mrow true (wsp L), [b0, b1', Dc b2 n, b3, b4, b5]) := fun b0 b1' b3 b4 b5 => by
       replace hget : Zbe fok fuel 1 (.name 0) [] (.ix (.v 1) (.v 0)) (dT (wsp L)) [] [.hole, Dc b1 n] = _ := hget
       rw [ZbZ (js := [2]) (caps := [Dc b1 n]) (δ1 := [b0, b1', .hole, b3, b4, b5]) rfl hget (by rw [List.length_map, szl]; omega)]
       rfl
      have hz : (done.map (Mrow true)).length < sizeLine := by rw [List.length_map, szl]; omega
      have ha := fun (δ : List D) (d : D) => ZfI 3 δ d (done.map (Mrow true)) hz
      have e2 : done.map (Mrow true) ++ [Mrow true (wsp L)] = (done ++ [wsp L]).map (Mrow true) := by rw [List.map_append]; rfl
      generalize done.length + 1 = i at hx
      simp_all [h3, h4, h5, hx, ZK, hs, hlen, d1, Z7, hi, hc1, hc2, hall, ha, e2]
    . have hg : gd p n L = false := by unfold gd; rw [Bool.eq_false_iff.mpr c2, Bool.and_false]
      have hfb : fb p n (done.length + 1) (L :: rest) = some (done.length + 1) := by rw [fb, hg]; rfl
      rw [Bool.eq_false_iff.mpr c2] at hall
      refine ⟨b1, .node .lst true (done.map (Mrow true)), I (done.length + 1 : Nat), TL true (wsp L), (fun h => by rw [hfb] at h; cases h), ?_⟩
      rw [hfb]
      generalize done.length + 1 = i at hx hni
      (simp_all [h4, h5, hx, ZK, hs, hlen, d1, Z7, hi, hc1, hall, l1, hni, ZcA (ns := ["NoTable", "LabelError"]) (fi := Zk) (ps := [Op.late 4]) nx]) <;> rfl
  . have d1 : decide (V.int ((wsp L).length : Int) = V.int (p : Int)) = false := decide_eq_false fun q => c1 (by have := V.int.inj q; omega)
    have hg : gd p n L = false := by unfold gd; rw [decide_eq_false c1, Bool.false_and]
    have hfb : fb p n (done.length + 1) (L :: rest) = some (done.length + 1) := by rw [fb, hg]; rfl
    refine ⟨b, .node .lst true (done.map (Mrow true)), I (done.length + 1 : Nat), TL true (wsp L), (fun h => by rw [hfb] at h; cases h), ?_⟩
    rw [hfb]
    generalize done.length + 1 = i at hx hni
    (simp_all [h4, h5, hx, ZK, hs, hlen, d1, Z7, l1, hni, ZcA (ns := ["NoTable", "LabelError"]) (fi := Zk) (ps := [Op.late 4]) nx]) <;> rfl
noncomputable abbrev fs3 : List Str := ["size", "meanings", "text"]
noncomputable abbrev Tb (C : Addr) (o : Bool) (p : Nat) (rs : List (List Str)) (t : Str) : D := .node (.ins C fs3) true [I p, MsT o rs, S' t]
theorem ZjX (C : Addr) (f : Str) (h : f ∈ fs3) : (CK C).fok C f = true := by
 show (decide (C = C) && _) = true
 simp only [decide_true, Bool.true_and, Bool.or_eq_true, beq_iff_eq]
 simp only [List.mem_cons, List.not_mem_nil, or_false] at h
 rcases h with rfl | rfl | rfl
 . exact .inl (.inl rfl)
 . exact .inl (.inr rfl)
 . exact .inr rfl
theorem ZjY (C : Addr) (f : Str) (fs : List Str) (ds : List D) (x : D) (hf : f ∈ fs3) (hl : Zce f fs ds = some x) : fldW (CK C).fok f (.nd (.ins C fs) ds) = some x := by
 show (if (CK C).fok C f = true then Zce f fs ds else none) = _
 rw [if_pos (ZjX C f hf), hl]
theorem ZqK (C : Addr) (a b c : D) : fldW (CK C).fok "text" (.nd (.ins C fs3) [a, b, c]) = some c := ZjY C _ _ _ _ (by decide) rfl
theorem ZjZ (C : Addr) (a : D) : fldW (CK C).fok "size" (.nd (.ins C ["size"]) [a]) = some a := ZjY C _ _ _ _ (by decide) rfl
theorem Zgh (C : Addr) (i : Nat) (δ : List D) (f : Str) (hf : f ∈ fs3) (d : D) (fs : List Str) (ds : List D) (hl : fs.length < 1000) : mdR i δ (putD (CK C).fok f d) (some (.node (.ins C fs) true ds)) = .ok (.sc .non, δ.set i (.node (.ins C (putN f fs)) true (putV f d fs ds))) := by
 have e : putD (CK C).fok f d (.ins C fs) ds = some (.sc .non, .ins C (putN f fs), putV f d fs ds) := by
  show (if fs.length < 1000 /\ (CK C).fok C f = true then some (D.sc .non, Kd.ins C (putN f fs), T.putV f d fs ds) else none) = _
  rw [if_pos ⟨hl, ZjX C f hf⟩]
 show (match putD (CK C).fok f d (.ins C fs) ds with | some (r, k', ds') => Rs.ok (r, δ.set i (.node k' true ds')) | none => .stuck) = _
 rw [e]
theorem ZqL (p n : Nat) (ls : List Str) (hn : n ∈ [1, 2, 3, 4]) (hl : ls.length = n + 1) (hL : ∀ L ∈ ls, L.length <= 3000 /\ (wsp L).length <= 4000) : Zap.run [I p, TL true ls] = (match fb p n 1 ls.tail with | none => .ok (MsT true (ls.tail.map wsp), [I p, TL true ls]) | some k => .exc (Nt true (.int k)) [I p, TL true ls]) := by
 walk_at "r"
 have hw := ZnL n hn
 have h14 : 1 <= n /\ n <= 4 := by simp only [List.mem_cons, List.not_mem_nil, or_false] at hn; omega
 have htl : ls.tail.length = n := by rw [List.length_tail, hl]; rfl
 obtain ⟨b', d3, a', c', q1, hf⟩ := Zhw (fun j => decide (j < 2)) (fun _ _ => false) 0 rfl rfl rfl p n ls ls.tail [] true .hole .hole (fun k hk => by
  rw [List.length_nil]
  refine ⟨by omega, ?_⟩
  rw [show 0 + 1 + k = k + 1 by omega, List.getD_eq_getElem?_getD, List.getD_eq_getElem?_getD, List.getElem?_tail]) (fun L h => hL L (List.mem_of_mem_tail h)) (by rw [List.length_nil, htl]; omega)
 rw [List.nil_append] at q1
 rw [htl] at hf
 have e0 : (([] : List (List Str)).length + 1 : Nat) = 1 := rfl
 rw [e0, show ((1 : Nat) : Int) = 1 from rfl] at hf
 rw [e0] at q1
 simp only [ZR, bdy, gd1, gd0, List.map_nil] at hf
 have hlen : ((dT ls).length : Int) = (n : Int) + 1 := by rw [ZJ, hl]; rfl
 have e1 : (n : Int) + 1 - 1 = n := by omega
 have hit : itW .rng2 [.sc (.int 1), .sc (.int ((n : Int) + 1))] = some (dI (rngI 1 n)) := by
  have := Zqw 1 ((n : Int) + 1) (by omega)
  rwa [show ((n : Int) + 1 - 1).toNat = n by omega] at this
 have k1 : Zah.lend = true := rfl
 have wk : ∀ (v : V) (f : BF) (es : List E) (j : Nat), walked [.k v, .bf f es] j = false := fun _ _ _ _ => rfl
 simp_all [Z7, hlen, e1, k1, hw, ZjU, hit, wk]
 cases hb : fb p n 1 ls.tail with
 | none =>
  rw [hb] at hf
  cases q1 hb
  (simp_all [hf]) <;> rfl
 | some k =>
  rw [hb] at hf
  (simp_all [hf]) <;> rfl
noncomputable def tRes (ls : List Str) : Sum Nat Nat := match pOf (ls.getD 0 Str.empty) primes with
 | none => .inl 0
 | some p => if 5 < ls.length then .inl 5 else if ls.length = 1 then .inl 1 else match fb p (ls.length - 1) 1 ls.tail with
  | some k => .inl k
  | none => .inr p
theorem Ziq (C : Addr) (ls : List Str) (t : Str) (ht : t.length <= 3000) (hs : Txt.split t ⟨#[10]⟩ = ls) (h0 : 0 < ls.length) (hL : ∀ L ∈ ls, L.length <= 3000 /\ (wsp L).length <= 4000) :
 match tRes ls with
 | .inl k => ∃ d, (Zx C).run [.node (.ins C []) true [], S' t] = .exc (Nt true (.int k)) [d, S' t]
 | .inr p => (Zx C).run [.node (.ins C []) true [], S' t] = .ok (.sc .non, [Tb C true p (ls.tail.map wsp) t, S' t]) := by
 have r1 := Zgt t ht
 rw [hs] at r1
 have hx := ixT ls 0 h0
 rw [show ((0 : Nat) : Int) = 0 from rfl] at hx
 have r2 := ZnN (ls.getD 0 Str.empty)
 have r3 := ZqI ls
 have k1 : Za0.lend = true := rfl
 have k2 : Zbg.lend = true := rfl
 have k3 : Zav.lend = true := rfl
 have k4 : Zap.lend = true := rfl
 have p1 := fun (δ : List D) (d : D) => Zgh C 0 δ "size" (by decide) d [] [] (by decide)
 have p2 := fun (δ : List D) (d a : D) => Zgh C 0 δ "meanings" (by decide) d ["size"] [a] (by decide)
 have p3 := fun (δ : List D) (d a b : D) => Zgh C 0 δ "text" (by decide) d ["size", "meanings"] [a, b] (by decide)
 have q1 : putN "size" [] = (["size"] : List Str) := by kernel_rfl
 have q2 : putN "meanings" ["size"] = (["size", "meanings"] : List Str) := by kernel_rfl
 have q3 : putN "text" ["size", "meanings"] = fs3 := by kernel_rfl
 have v1 : ∀ d : D, T.putV "size" d ([] : List Str) [] = [d] := fun d => rfl
 have v2 : ∀ d a : D, T.putV "meanings" d (["size"] : List Str) [a] = [a, d] := fun d a => rfl
 have v3 : ∀ d a b : D, T.putV "text" d (["size", "meanings"] : List Str) [a, b] = [a, b, d] := fun d a b => rfl
 rw [q1] at p1
 rw [q2] at p2
 rw [q3] at p3
 unfold tRes
 generalize ls.getD 0 Str.empty = z at hx r2
 cases hp : pOf z primes with
 | none =>
  rw [hp] at r2
  refine ⟨.node (.ins C []) true [], ?_⟩
  walk_at "r"
  (simp_all [k1, k2, r1, r2, hx, Z7, Zet, Zc0]) <;> rfl
 | some p =>
  rw [hp] at r2
  dsimp only
  by_cases c1 : 5 < ls.length
  . rw [if_pos c1] at r3 ⊢
    refine ⟨.node (.ins C ["size"]) true [I p], ?_⟩
    walk_at "r"
    (simp_all [k1, k2, k3, r1, r2, r3, hx, Z7, p1, v1, Zet, Zc0]) <;> rfl
  . rw [if_neg c1] at r3 ⊢
    by_cases c2 : ls.length = 1
    . rw [if_pos c2] at r3 ⊢
      refine ⟨.node (.ins C ["size"]) true [I p], ?_⟩
      walk_at "r"
      (simp_all [k1, k2, k3, r1, r2, r3, hx, Z7, p1, v1, Zet, Zc0]) <;> rfl
    . rw [if_neg c2] at r3 ⊢
      have r4 := ZqL p (ls.length - 1) ls (n14 (by omega) (by omega)) (by omega) hL
      cases hb : fb p (ls.length - 1) 1 ls.tail with
      | none =>
       rw [hb] at r4
       dsimp only
       walk_at "r"
       (simp_all [k1, k2, k3, k4, r1, r2, r3, r4, hx, Z7, p1, p2, p3, v1, v2, v3, ZjZ]) <;> rfl
      | some k =>
       rw [hb] at r4
       refine ⟨.node (.ins C ["size"]) true [I p], ?_⟩
       walk_at "r"
       (simp_all [k1, k2, k3, k4, r1, r2, r3, r4, hx, Z7, p1, v1, ZjZ, Zet, Zc0]) <;> rfl
theorem ZqM (p : Bool) : isNW p (.sc .non) = .sc (.bl (true == p)) := by cases p <;> rfl
theorem ZnR {lk : Nat -> Bool} {body suite : M Fl} {c : Str} {nm : Option Nat} {δ : List D} {r : Fl × List D} (h : body δ = .ok r) : tryM lk body c nm suite δ = .ok r := by
 unfold tryM
 rw [h]
theorem ZlB {lk : Nat -> Bool} {body suite : M Fl} {c : Str} {i : Nat} {δ δ' : List D} {x : D} (h : body δ = .exc x δ') (hh : hits c x = true) (hi : i < δ'.length) (hl : lk i = false) : tryM lk body c (some i) suite δ = Zhl i (suite (δ'.set i x)) := by
 unfold tryM
 rw [h]
 dsimp only
 rw [if_pos hh, if_pos (by rw [hl, decide_eq_true hi]; rfl)]
theorem Zj3 (i : Nat) (f : Fl) (δ : List D) : Zhl i (.ok (f, δ)) = .ok (f, δ.set i .hole) := (rfl)
def Fl0 (d : D) : Prop := (∃ v, d = .sc v) \/ ∃ k ds, d = .node k false ds
theorem Zgi {fi : FI} {d : D} (hd : Fl0 d) (δ : List D) : ZI fi.lend [.late 0] (d :: δ) = .ok ([d], d :: δ) /\ Z0 [.late 0] [d] (d :: δ) = .ok ((), d :: δ) := by
 rcases hd with ⟨v, rfl⟩ | ⟨k, ds, rfl⟩ <;> exact ⟨rfl, rfl⟩
theorem ZnS {A : Addr} {fi : FI} {d x : D} (hd : Fl0 d) (h : fi.run [.node (.ins A []) true [], d] = .ok (.sc .non, [x, d])) (δ : List D) : makX A fi [.late 0] (d :: δ) = .ok (x, d :: δ) := by
 obtain ⟨h1, h2⟩ := Zgi (fi := fi) hd δ
 unfold makX T.M.bnd
 rw [h1]
 dsimp only
 rw [h]
 dsimp only
 rw [h2]
 rfl
theorem ZlC {A : Addr} {fi : FI} {d x y : D} (hd : Fl0 d) (h : fi.run [.node (.ins A []) true [], d] = .exc y [x, d]) (δ : List D) : makX A fi [.late 0] (d :: δ) = .exc y (d :: δ) := by
 obtain ⟨h1, h2⟩ := Zgi (fi := fi) hd δ
 unfold makX T.M.bnd
 rw [h1]
 dsimp only
 rw [h]
 dsimp only
 rw [h2]
noncomputable abbrev tC1 (C : Addr) : T.Ctx := ⟨fun i => decide (i < 1), (CK C).fok, (CK C).fuel⟩
theorem hx1 (C : Addr) (b s : List T.S) (δ : List D) : ex (tC1 C) (.try_ b "LabelError" (some 2) s) δ = tryM (fun i => decide (i < 1)) (exs (tC1 C) b) "LabelError" (some 2) (exs (tC1 C) s) δ := rfl
theorem Zir (C : Addr) (t : Str) (x : D) (h : (Zx C).run [.node (.ins C []) true [], S' t] = .ok (.sc .non, [x, S' t])) : (ZH C).run [S' t] = .ok (.sc .non, [S' t]) := by
 walk_at "r"
 have hm := fun δ => ZnS (.inl ⟨_, rfl⟩) h δ
 have hb : exs (tC1 C) [.exY (.new C (Zx C) [.v 0])] [S' t, .sc .non, .hole] = .ok (.nx, [S' t, .sc .non, .hole]) := by
  simp_all [hm]
 have ht := ZnR (lk := fun i => decide (i < 1)) (c := "LabelError") (nm := some 2) (suite := exs (tC1 C) [.asg 1 (.v 2)]) hb
 (simp_all [hx1, ht]) <;> rfl
theorem Zj4 (C : Addr) (d x : D) (v : V) (hd : Fl0 d) (h : (Zx C).run [.node (.ins C []) true [], d] = .exc (Nt true v) [x, d]) : (ZH C).run [d] = .ok (Nt false v, [d]) := by
 walk_at "r"
 have hm := fun δ => ZlC hd h δ
 have hb : exs (tC1 C) [.exY (.new C (Zx C) [.v 0])] [d, .sc .non, .hole] = .exc (Nt true v) [d, .sc .non, .hole] := by
  rcases hd with ⟨u, rfl⟩ | ⟨k, ds, rfl⟩ <;> simp_all [hm]
 have ht := ZlB (lk := fun i => decide (i < 1)) (c := "LabelError") (i := 2) (suite := exs (tC1 C) [.asg 1 (.v 2)]) hb (by kernel_rfl) (show 2 < 3 by decide) rfl
 (simp_all [hx1, ht, Zj3]) <;> rfl
noncomputable abbrev tC2 (C : Addr) : T.Ctx := ⟨fun i => decide (i < 2), (CK C).fok, (CK C).fuel⟩
theorem Zgj (C : Addr) (d0 : D) (v : V) (h : v = .non \/ ∃ k : Nat, k < 6 /\ v = .int k) : ZE 2 (exs (tC2 C) ((ZY C).drop 1) [d0, .sc v, Nt false v, .hole]) = .ok (.sc (.bl true), [d0, .sc v]) := by
 rcases h with rfl | ⟨k, hk, rfl⟩
 . kernel_rfl
 . match k, hk with
   | 0, _ => kernel_rfl
   | 1, _ => kernel_rfl
   | 2, _ => kernel_rfl
   | 3, _ => kernel_rfl
   | 4, _ => kernel_rfl
   | 5, _ => kernel_rfl
theorem Zcn (C : Addr) (d x : D) (v : V) (hd : Fl0 d) (hv : v = .non \/ ∃ k : Nat, k < 6 /\ v = .int k) (h : (Zx C).run [.node (.ins C []) true [], d] = .exc (Nt true v) [x, d]) : (Z9 C).run [d, .sc v] = .ok (.sc (.bl true), [d, .sc v]) := by
 have hc := Zj4 C d x v hd h
 have ht := Zgj C d v hv
 have l1 : (ZH C).lend = true := rfl
 refine runB (f := Z9 C) (C := CK C) (n := 2) (N := 4) (b := ZY C) rfl rfl ?_
 rw [<- ht]
 show ZE 2 (exs (tC2 C) (.asg 2 (.call (ZH C) [.v 0]) :: (ZY C).drop 1) [d, .sc v, .hole, .hole]) = _
 generalize (ZY C).drop 1 = tl
 rcases hd with ⟨u, rfl⟩ | ⟨k, ds, rfl⟩ <;> simp_all [l1, hc]
theorem ZgL (C : Addr) (d : D) (hd : Fl0 d) (h : Za0.run [d] = .exc (Nt true .non) [d]) : (Zx C).run [.node (.ins C []) true [], d] = .exc (Nt true .non) [.node (.ins C []) true [], d] := by
 walk_at "r"
 have k1 : Za0.lend = true := rfl
 rcases hd with ⟨v, rfl⟩ | ⟨k, ds, rfl⟩ <;> (simp_all [k1, h, Zet, Zc0]) <;> rfl
theorem Zhx (C : Addr) (d : D) (h : (∃ v, d = .sc v /\ tyW .str (.sc v) = some false) \/ ∃ k ds, d = .node k false ds /\ tyW .str (.nd k ds) = some false) : (Z9 C).run [d, .sc .non] = .ok (.sc (.bl true), [d, .sc .non]) := by
 rcases h with ⟨v, rfl, h⟩ | ⟨k, ds, rfl, h⟩
 . exact Zcn C _ _ .non (.inl ⟨v, rfl⟩) (.inl rfl) (ZgL C _ (.inl ⟨v, rfl⟩) (Zl8 v h))
 . exact Zcn C _ _ .non (.inr ⟨k, ds, rfl⟩) (.inl rfl) (ZgL C _ (.inr ⟨k, ds, rfl⟩) (Zl9 k ds h))
theorem Zhy (C : Addr) (ls : List Str) (t : Str) (k : Nat) (ht : t.length <= 3000) (hs : Txt.split t ⟨#[10]⟩ = ls) (h0 : 0 < ls.length) (hL : ∀ L ∈ ls, L.length <= 3000 /\ (wsp L).length <= 4000) (hk : k < 6) (hr : tRes ls = .inl k) : (Z9 C).run [S' t, I k] = .ok (.sc (.bl true), [S' t, I k]) := by
 have h := Ziq C ls t ht hs h0 hL
 rw [hr] at h
 obtain ⟨d, h⟩ := h
 exact Zcn C _ _ (.int k) (.inl ⟨_, rfl⟩) (.inr ⟨k, hk, rfl⟩) h
noncomputable def fst16 (p : Nat) : List Str := let s := Str.ofString (toString (p : Int)); [Str.ofString "", "symbols", "symbols ", Str.ofString "symbols 0" ++ s, Str.ofString "symbols  " ++ s, Str.ofString " symbols " ++ s, Str.ofString "symbols " ++ s ++ Str.ofString " ", Str.ofString "Symbols " ++ s, Str.ofString "symbol " ++ s, s, "symbols 4", "symbols 3", "symbols 53", "symbols 9", Str.ofString "symbols +" ++ s, "symbols five"]
theorem ZnT : ∀ p ∈ primes, ∀ z ∈ fst16 p, (∀ q ∈ primes, z ≠ first q) /\ 10 ∉ z.cps.toList /\ z.length <= 20 := by walk_at "d"
theorem gm {r : List Str} {j : Nat} (h : j < r.length) : r.getD j Str.empty ∈ r := by
 rw [List.getD_eq_getElem?_getD, List.getElem?_eq_getElem h]
 exact List.getElem_mem h
theorem ZdC (C : T.Ctx) (b : List T.S) : ∀ (a : List T.S) (δ : List D), exs C (a ++ b) δ = seqR (exs C b) (exs C a δ)
 | [], δ => by rw [List.nil_append, exs0]; rfl
 | s :: a, δ => by
  rw [List.cons_append, exs1, exs1]
  cases ex C s δ with
  | stuck => rfl
  | exc x y => rfl
  | ok r =>
   obtain ⟨f, δ'⟩ := r
   cases f with
   | nx => exact ZdC C b a δ'
   | rt d => rfl
   | bk => rfl
   | ct => rfl
theorem Zis : ∀ p ∈ primes, ∀ x : Int, exs ⟨fun i => decide (i < 2), fun _ _ => false, 0⟩ (Za2.take 3) [I x, I (p : Nat), .hole] = .ok (.nx, [I x, I (p : Nat), .node .lst true ((fst16 p).map fun z => S' z)]) := by
 unfold primes
 simp only [List.forall_mem_cons, List.not_mem_nil, false_implies, implies_true, and_true]
 refine ⟨?_, ?_, ?_, ?_, ?_, ?_, ?_, ?_, ?_, ?_, ?_, ?_, ?_⟩ <;> intro x <;> kernel_rfl
theorem Zit (x : Int) (p : Nat) (hp : p ∈ primes) : ∃ z ∈ fst16 p, ZaE.run [I x, I p] = .ok (S' z, [I x, I p]) := by
 have hm := Zbd x 16 (by decide)
 have q0 := Int.emod_nonneg x (show (16 : Int) ≠ 0 by decide)
 have q1 := Int.emod_lt_of_pos x (show (0 : Int) < 16 by decide)
 have h1 := Zis p hp x
 have hl : (fst16 p).length = 16 := rfl
 have hx := ixT (fst16 p) (x % 16).toNat (by omega)
 rw [Int.toNat_of_nonneg q0] at hx
 generalize x % 16 = r at hm q0 q1 hx
 refine ⟨_, gm (by omega : r.toNat < (fst16 p).length), ?_⟩
 refine runB (f := ZaE) (C := C0) (n := 2) (N := 3) (b := Za2) rfl rfl ?_
 show ZE 2 (exs ⟨fun i => decide (i < 2), fun _ _ => false, 0⟩ (Za2.take 3 ++ [.ret (.ix (.v 2) (.bin .Mod (.v 0) (.k (.int 16))))]) [I x, I p, .hole]) = _
 rw [ZdC, h1]
 generalize fst16 p = l at hx
 (simp_all [hm, Z7, hx]) <;> rfl
noncomputable def odw (n : Nat) : List Str := let s := Str.ofString (toString (n : Int)); [Str.ofString "", "A", "ab", "--", "lock", "shift", Str.ofString "lock" ++ s, Str.ofString "shift" ++ s, "lock9", "shift9", "lock00", "shift00", "Lock0", "shift-0", "lock+0", "lock0a", "locka", "_", ".", "10", "a-", "none", "shift0 ", "nothing"]
theorem ZnU : ∀ n ∈ [1, 2, 3, 4], ∀ w ∈ odw n, w ∉ wds n /\ 10 ∉ w.cps.toList /\ w.length <= 8 /\ (32 ∉ w.cps.toList \/ w = Str.ofString "shift0 ") := by walk_at "d"
theorem ZlD : ∀ n ∈ [1, 2, 3, 4], ∀ x : Int, exs ⟨fun i => decide (i < 2), fun _ _ => false, 0⟩ (Zaf.take 2) [I x, I (n : Nat), .hole] = .ok (.nx, [I x, I (n : Nat), .node .lst true (((odw n).take 22).map fun z => S' z)]) := by
 simp only [List.forall_mem_cons, List.not_mem_nil, false_implies, implies_true, and_true]
 refine ⟨?_, ?_, ?_, ?_⟩ <;> intro x <;> kernel_rfl
theorem Zgk (x : Int) (n : Nat) (hn : n ∈ [1, 2, 3, 4]) : ∃ w ∈ odw n, Zaq.run [I x, I n] = .ok (S' w, [I x, I n]) := by
 have hm := Zbd x 24 (by decide)
 have q0 := Int.emod_nonneg x (show (24 : Int) ≠ 0 by decide)
 have q1 := Int.emod_lt_of_pos x (show (0 : Int) < 24 by decide)
 have h1 := ZlD n hn x
 have hl : (odw n).length = 24 := rfl
 have hx := ixT (odw n) (x % 24).toNat (by omega)
 rw [Int.toNat_of_nonneg q0] at hx
 generalize x % 24 = r at hm q0 q1 hx
 refine ⟨_, gm (by omega : r.toNat < (odw n).length), ?_⟩
 refine runB (f := Zaq) (C := C0) (n := 2) (N := 3) (b := Zaf) rfl rfl ?_
 show ZE 2 (exs ⟨fun i => decide (i < 2), fun _ _ => false, 0⟩ (Zaf.take 2 ++ [.ret (.ix (.bin .Add (.v 2) (.lst [.k (.str "shift0 "), .k (.str "nothing")])) (.bin .Mod (.v 0) (.k (.int 24))))]) [I x, I n, .hole]) = _
 rw [ZdC, h1]
 have hw : ∀ u v : D, newL [u, v] = some (.node .lst true [u, v]) := fun u v => Zbx _ (by rw [szl]; simp)
 have hb : binW .Add (.nd .lst (dT ((odw n).take 22))) (.nd .lst [S' (Str.ofString "shift0 "), S' (Str.ofString "nothing")]) = some (.node .lst true (dT (odw n))) := by
  rw [ZjQ _ _ (by rw [List.length_append, ZJ, List.length_take, hl, szl]; simp)]
  rfl
 generalize (odw n).take 22 = l at hb
 generalize odw n = l2 at hb hx
 (simp_all [hm, Z7, hw, hb, hx]) <;> rfl
noncomputable def bl : List Str -> Nat
 | [] => 0
 | w :: ws => w.cps.toList.count 32 + bl ws
theorem Zeu (a b : List Str) : bl (a ++ b) = bl a + bl b := by
 induction a with
 | nil => rw [List.nil_append, bl, Nat.zero_add]
 | cons w a ih => rw [List.cons_append, bl, bl, ih, Nat.add_assoc]
theorem ZbR : ∀ ps : List Str, (∀ w ∈ ps, 32 ∉ w.cps.toList) -> bl ps = 0
 | [], _ => rfl
 | w :: ws, h => by rw [bl, List.count_eq_zero.mpr (h w List.mem_cons_self), ZbR ws fun v hv => h v (List.mem_cons_of_mem _ hv)]
theorem ZdQ : ∀ ps : List Str, (Str.join ⟨#[32]⟩ ps).cps.toList.count 32 = ps.length - 1 + bl ps
 | [] => rfl
 | [w] => by
  show w.cps.toList.count 32 = 0 + (w.cps.toList.count 32 + 0)
  omega
 | p :: q :: r => by
  rw [ZW, List.count_append, List.count_cons_self, ZdQ (q :: r), show bl (p :: q :: r) = p.cps.toList.count 32 + bl (q :: r) from rfl]
  simp only [List.length_cons]
  omega
theorem Zfa (ps : List Str) : line ps = Str.join ⟨#[32]⟩ ps := StrLaws.glued_eq_join _ _
theorem Zev {p n : Nat} {L : Str} (hn : n ∈ [1, 2, 3, 4]) (h : L.cps.toList.count 32 ≠ p - 1) : gd p n L = false := Bool.eq_false_iff.mpr fun g => h (by
 unfold gd at g
 rw [Bool.and_eq_true] at g
 have e : Str.join ⟨#[32]⟩ (wsp L) = L := StrLaws.join_split _ _
 have c := ZdQ (wsp L)
 rw [e, of_decide_eq_true g.1, ZbR _ fun w hw => (ZaX n hn w (of_decide_eq_true (List.all_eq_true.mp g.2 w hw))).1] at c
 exact c)
theorem Zew (ps : List Str) (h : ∀ w ∈ ps, w.length <= 8 /\ 10 ∉ w.cps.toList) (hl : ps.length <= 50) : JoinOk ⟨#[32]⟩ ps = true /\ (line ps).length <= ps.length * 9 /\ 10 ∉ (line ps).cps.toList /\ (line ps).cps.toList.count 32 = ps.length - 1 + bl ps := by
 refine ⟨Zer 32 8 ps (fun w hw => (h w hw).1) (by omega), ZcD 32 8 ps fun w hw => (h w hw).1, fun hc => ?_, ?_⟩
 . rw [Zfa] at hc
   rcases ZcC 32 _ 10 hc with e | ⟨q, hq, hx⟩
   . omega
   . exact (h q hq).2 hx
 . rw [Zfa]
   exact ZdQ ps
theorem ZgM (c : Nat) : ∀ ps : List Str, ps.length <= (Str.join ⟨#[c]⟩ ps).cps.toList.length + 1 /\ ∀ L ∈ ps, L.cps.toList.length <= (Str.join ⟨#[c]⟩ ps).cps.toList.length
 | [] => ⟨Nat.zero_le _, fun L h => absurd h List.not_mem_nil⟩
 | [p] => ⟨Nat.le_add_left _ _, fun L h => by rw [List.mem_singleton.mp h]; exact Nat.le_refl _⟩
 | p :: q :: r => by
  obtain ⟨h1, h2⟩ := ZgM c (q :: r)
  rw [ZW]
  simp only [List.length_append, List.length_cons] at h1 ⊢
  refine ⟨by omega, fun L h => ?_⟩
  (rcases List.mem_cons.mp h with rfl | h)
  . omega
  . have := h2 L h
    omega
theorem Zbr (c : Nat) (x : Str) : (Txt.split x ⟨#[c]⟩).length <= x.length + 1 /\ ∀ L ∈ Txt.split x ⟨#[c]⟩, L.length <= x.length := by
 have h := ZgM c (Txt.split x ⟨#[c]⟩)
 rw [show Str.join ⟨#[c]⟩ (Txt.split x ⟨#[c]⟩) = x from StrLaws.join_split _ _] at h
 exact h
theorem Zj5 (ds : List D) (k : Nat) (h : k <= ds.length) : cutD ds none (some (k : Int)) = ds.take k := by
 unfold cutD
 rw [HT.Zg1, Nat.min_eq_left h]
 rfl
theorem Zj6 (ds : List D) (k : Nat) (h : k <= ds.length) : cutD ds (some (k : Int)) none = ds.drop k := by
 unfold cutD
 rw [HT.Zg1, Nat.min_eq_left h]
 show List.take (ds.length - k) (List.drop k ds) = _
 rw [List.take_of_length_le (by rw [List.length_drop]; exact Nat.le_refl _)]
theorem Zka (r : List Str) (k : Nat) (h : k <= r.length) : cutD (dT r) none (some (k : Int)) = dT (r.take k) := by
 rw [Zj5 _ _ (by rw [ZJ]; exact h)]
 exact List.map_take.symm
theorem Zkb (r : List Str) (k : Nat) (h : k <= r.length) : cutD (dT r) (some (k : Int)) none = dT (r.drop k) := by
 rw [Zj6 _ _ (by rw [ZJ]; exact h)]
 exact List.map_drop.symm
theorem ZdD (a b : List Str) (h : a.length + b.length <= 100) : binW .Add (.nd .lst (dT a)) (.nd .lst (dT b)) = some (TL true (a ++ b)) := by
 rw [ZjQ _ _ (by rw [List.length_append, ZJ, ZJ, szl]; omega)]
 exact congrArg (fun l => some (D.node .lst true l)) List.map_append.symm
def Bd (p n : Nat) (L : Str) : Prop := gd p n L = false /\ 10 ∉ L.cps.toList /\ L.length <= 440
theorem Zhz {p n : Nat} (r : List Str) (x : Int) (hp : 5 <= p /\ p <= 47) (hn : n ∈ [1, 2, 3, 4]) (hw : ∀ w ∈ r, w ∈ wds n) (hl : r.length = p) : ∃ L, Bd p n L /\ Zaw.run [TL false r, I x, I n] = .ok (S' L, [TL false r, I x, I n]) := by
 have hf : ∀ w ∈ r, w.length <= 8 /\ 10 ∉ w.cps.toList := fun w h => ⟨by have := (ZaX n hn w (hw w h)).2.2; omega, (ZaX n hn w (hw w h)).2.1⟩
 have hb : ∀ w ∈ r, 32 ∉ w.cps.toList := fun w h => (ZaX n hn w (hw w h)).1
 have m4 := Zbd x 4 (by decide)
 have d4 := Zfk x 4 (by decide)
 have d188 := Zfk x 188 (by decide)
 have mp := Zbd (x / 4) (p : Int) (by omega)
 have hlen : ((dT r).length : Int) = (p : Int) := by rw [ZJ, hl]
 have g0 := Int.emod_nonneg (x / 4) (show (p : Int) ≠ 0 by omega)
 have g1 := Int.emod_lt_of_pos (x / 4) (show (0 : Int) < p by omega)
 obtain ⟨k, hk2⟩ := Int.eq_ofNat_of_zero_le g0
 have hk : k < p := by omega
 rw [hk2] at mp
 have hx := ixT r k (by omega)
 have hx2 := gm (show k < r.length by omega)
 generalize r.getD k Str.empty = w0 at hx hx2
 have hc1 := Zka r k (by omega)
 have hc2 := Zkb r (k + 1) (by omega)
 rw [show ((k + 1 : Nat) : Int) = (k : Int) + 1 by omega] at hc2
 have hc3 := Zkb r k (by omega)
 have ht : (r.take k).length = k := by rw [List.length_take]; omega
 have hd : (r.drop (k + 1)).length = p - (k + 1) := by rw [List.length_drop, hl]
 have hd' : (r.drop k).length = p - k := by rw [List.length_drop, hl]
 have mt : ∀ w ∈ r.take k, w ∈ r := fun w h => List.mem_of_mem_take h
 have md : ∀ w ∈ r.drop (k + 1), w ∈ r := fun w h => List.mem_of_mem_drop h
 have md' : ∀ w ∈ r.drop k, w ∈ r := fun w h => List.mem_of_mem_drop h
 have hj : ∀ ps : List Str, JoinOk ⟨#[32]⟩ ps = true -> bmW .join (Str.ofString " ") [.nd .lst (dT ps)] = some (S' (line ps)) := fun ps h => by
  rw [ZcF]
  exact Zdn _ ps h
 generalize r.take k = ra at *
 generalize r.drop (k + 1) = rb at *
 generalize r.drop k = rc at *
 have hm : x % 4 = 0 \/ x % 4 = 1 \/ x % 4 = 2 \/ x % 4 = 3 := by omega
 rcases hm with hm | hm | hm | hm
 . obtain ⟨j1, j2, j3, j4⟩ := Zew (r ++ [w0]) (fun w h => hf w (by rcases List.mem_append.mp h with q | q; exact q; rw [List.mem_singleton.mp q]; exact hx2)) (by rw [List.length_append, List.length_singleton]; omega)
   rw [Zeu, ZbR r hb, ZbR [w0] fun w h => hb w (by rw [List.mem_singleton.mp h]; exact hx2)] at j4
   rw [List.length_append, List.length_singleton] at j2 j4
   have hj := hj _ j1
   have c0 : (x % 4 = 0) = True := eq_true hm
   have ca : binW .Add (.nd .lst (dT r)) (.nd .lst [S' w0]) = some (TL true (r ++ [w0])) := ZdD r [w0] (by rw [List.length_singleton]; omega)
   refine ⟨_, ⟨Zev hn (by omega), j3, by omega⟩, ?_⟩
   generalize r ++ [w0] = ps at *
   walk_at "r"
   (simp_all [hlen, d4, m4, mp, V.int.injEq, c0, hx, ZcE, ca, ZK, hj]) <;> rfl
 . obtain ⟨j1, j2, j3, j4⟩ := Zew (ra ++ rb) (fun w h => hf w (by rcases List.mem_append.mp h with q | q; exact mt w q; exact md w q)) (by rw [List.length_append]; omega)
   rw [Zeu, ZbR ra fun w h => hb w (mt w h), ZbR rb fun w h => hb w (md w h)] at j4
   rw [List.length_append] at j2 j4
   have hj := hj _ j1
   have c0 : (x % 4 = 0) = False := eq_false (by omega)
   have c1 : (x % 4 = 1) = True := eq_true hm
   have ca := ZdD ra rb (by omega)
   refine ⟨_, ⟨Zev hn (by omega), j3, by omega⟩, ?_⟩
   generalize ra ++ rb = ps at *
   walk_at "r"
   (simp_all [hlen, d4, m4, mp, V.int.injEq, c0, c1, hc1, hc2, ca, ZK, hj]) <;> rfl
 . obtain ⟨w, hwo, ho⟩ := Zgk (x / 188) n hn
   obtain ⟨o1, o2, o3, -⟩ := ZnU n hn w hwo
   have mem : ∀ v ∈ ra ++ [w] ++ rb, v = w \/ v ∈ r := fun v h => by
    (rcases List.mem_append.mp h with h | h)
    . (rcases List.mem_append.mp h with h | h)
      . exact .inr (mt v h)
      . exact .inl (List.mem_singleton.mp h)
    . exact .inr (md v h)
   obtain ⟨j1, j2, j3, j4⟩ := Zew (ra ++ [w] ++ rb) (fun v h => by
    rcases mem v h with rfl | q
    . exact ⟨o3, o2⟩
    . exact hf v q) (by simp only [List.length_append, List.length_singleton]; omega)
   have hj := hj _ j1
   have c0 : (x % 4 = 0) = False := eq_false (by omega)
   have c1 : (x % 4 = 1) = False := eq_false (by omega)
   have c2 : (x % 4 = 2) = True := eq_true hm
   have ca : binW .Add (.nd .lst (dT ra)) (.nd .lst [S' w]) = some (TL true (ra ++ [w])) := ZdD ra [w] (by rw [List.length_singleton]; omega)
   have cb := ZdD (ra ++ [w]) rb (by simp only [List.length_append, List.length_singleton]; omega)
   have hg : gd p n (line (ra ++ [w] ++ rb)) = false := by
    by_cases q : 32 ∈ w.cps.toList
    . refine Zev hn ?_
      have := List.count_pos_iff.mpr q
      rw [j4, Zeu, Zeu, show bl [w] = w.cps.toList.count 32 + 0 from rfl]
      (simp only [List.length_append, List.length_singleton])
      omega
    . have e : wsp (line (ra ++ [w] ++ rb)) = ra ++ [w] ++ rb := Zb3 32 _ (by simp) fun v h => by
       rcases mem v h with rfl | h
       . exact q
       . exact hb v h
      unfold gd
      rw [e, Bool.and_eq_false_iff]
      refine .inr (Bool.eq_false_iff.mpr fun h => o1 (of_decide_eq_true (List.all_eq_true.mp h w (by simp))))
   refine ⟨_, ⟨hg, j3, by simp only [List.length_append, List.length_singleton] at j2; omega⟩, ?_⟩
   have l1 : Zaq.lend = true := rfl
   generalize ra ++ [w] = pa at *
   generalize pa ++ rb = ps at *
   walk_at "r"
   (simp_all [hlen, d4, m4, mp, d188, V.int.injEq, c0, c1, c2, hc1, hc2, l1, ho, ZcE, ca, cb, ZK, hj]) <;> rfl
 . obtain ⟨j1, j2, j3, j4⟩ := Zew ra (fun w h => hf w (mt w h)) (by omega)
   obtain ⟨i1, i2, i3, i4⟩ := Zew rc (fun w h => hf w (md' w h)) (by omega)
   have b1 : Str.ofString "  " = ⟨#[32, 32]⟩ := by kernel_rfl
   have ea : (line ra ++ Str.ofString "  " ++ line rc).cps.toList = (line ra).cps.toList ++ [32, 32] ++ (line rc).cps.toList := by rw [Zaz, Zaz, b1]
   have el : ∀ u v : Str, (u ++ v).length = u.length + v.length := fun u v => by
    show (u ++ v).cps.toList.length = _
    rw [Zaz, List.length_append]
    rfl
   have l2 : (Str.ofString "  ").length = 2 := by rw [b1]; rfl
   have ca := ZfH (line ra) (Str.ofString "  ") (by rw [szl, l2]; omega)
   have cb := ZfH (line ra ++ Str.ofString "  ") (line rc) (by rw [szl, el, l2]; omega)
   have k1 := hj _ j1
   have k2 := hj _ i1
   have c0 : (x % 4 = 0) = False := eq_false (by omega)
   have c1 : (x % 4 = 1) = False := eq_false (by omega)
   have c2 : (x % 4 = 2) = False := eq_false (by omega)
   refine ⟨line ra ++ Str.ofString "  " ++ line rc, ⟨Zev hn ?_, fun h => ?_, by rw [el, el, l2]; omega⟩, ?_⟩
   . rw [ea, List.count_append, List.count_append, j4, i4, show List.count 32 [32, 32] = 2 from rfl]
     omega
   . rw [ea] at h
     (rcases List.mem_append.mp h with h | h)
     . (rcases List.mem_append.mp h with h | h)
       . exact j3 h
       . simp at h
     . exact i3 h
   . generalize line ra = la at *
     generalize line rc = lb at *
     walk_at "r"
     (simp_all [hlen, d4, m4, mp, V.int.injEq, c0, c1, c2, hc1, hc3, ZK, k1, k2, ca, cb]) <;> rfl
theorem Zh0 (p n : Nat) : ∀ (ms : List Str) (c d : Nat), fb p n c ms = some d -> c <= d /\ d < c + ms.length
 | [], c, d, h => by cases h
 | M :: ms, c, d, h => by
  rw [fb] at h
  by_cases g : gd p n M = true
  . rw [if_pos g] at h
    have := Zh0 p n ms (c + 1) d h
    rw [List.length_cons]
    omega
  . rw [if_neg g] at h
    cases h
    rw [List.length_cons]
    omega
theorem Ziu {p n : Nat} {L : Str} (hL : gd p n L = false) : ∀ (ms : List Str) (c i : Nat), i < ms.length -> c + i <= 9 -> fb p n c (ms.set i L) = some (min ((fb p n c ms).getD 9) (c + i))
 | [], c, i, h, _ => absurd h (Nat.not_lt_zero _)
 | M :: ms, c, 0, _, h9 => by
  rw [List.set_cons_zero, fb, hL]
  show some c = _
  congr 1
  cases e : fb p n c (M :: ms) with
  | none => show c = min 9 (c + 0); omega
  | some d =>
   have := Zh0 p n _ c d e
   show c = min d (c + 0)
   omega
 | M :: ms, c, i + 1, h, h9 => by
  have ih := Ziu hL ms (c + 1) i (by rw [List.length_cons] at h; omega) (by omega)
  rw [List.set_cons_succ, fb, fb]
  by_cases g : gd p n M = true
  . rw [if_pos g, if_pos g, ih, show c + 1 + i = c + (i + 1) by omega]
  . rw [if_neg g, if_neg g]
    show some c = some (min c (c + (i + 1)))
    congr 1
    omega
def Ms (n : Nat) (ms : List Str) : Prop := ms.length = n /\ ∀ L ∈ ms, 10 ∉ L.cps.toList /\ L.length <= 440
theorem ZnV {n : Nat} {ms : List Str} (h : Ms n ms) (i : Nat) {L : Str} (hL : 10 ∉ L.cps.toList /\ L.length <= 440) : Ms n (ms.set i L) := ⟨by rw [List.length_set]; exact h.1, fun M hM => by
 rcases List.mem_or_eq_of_mem_set hM with q | rfl
 . exact h.2 M q
 . exact hL⟩
theorem Ziv (ls : List Str) (i : Nat) (z : Str) : (dT ls).set i (S' z) = dT (ls.set i z) := List.map_set.symm
theorem Zh1 (m k : Nat) (i : Int) (e : i = k) (h : k < m) : ixN' m i = some k := by
 rw [e]
 exact Zd6 _ _ h
theorem Ziw (h4 : lk 4 = false) (h5 : lk 5 = false) (h6 : lk 6 = false) (h7 : lk 7 = false) (h8 : lk 8 = false) {p n : Nat} {rs : List (List Str)} (hp : p ∈ primes) (hn : n ∈ [1, 2, 3, 4]) (hl : rs.length = n) (hok : Za4 p n rs) (c : Int) (a2 a3 : D) : ∀ (m t : Nat) (ms : List Str) (a b d : D), t + m <= 2 -> Ms n ms -> ∃ ms' a' b' d', Ms n ms' /\ (m ≠ 0 \/ (fb p n 1 ms).isSome = true -> (fb p n 1 ms').isSome = true) /\
 forL (asgT lk (.name 6)) (exs ⟨lk, fok, fuel⟩ (bdy (Z6.getD 4 .pass))) (dI (rngI t m)) [RL false rs, I c, a2, a3, TL true (first p :: ms), I ((fb p n 1 ms).getD 9 : Nat), a, b, d] = .ok (.nx, [RL false rs, I c, a2, a3, TL true (first p :: ms'), I ((fb p n 1 ms').getD 9 : Nat), a', b', d']) := by
 intro m
 induction m with
 | zero => exact fun t ms a b d _ h => ⟨ms, a, b, d, h, fun q => q.resolve_left (fun q => q rfl), rfl⟩
 | succ m ih =>
  intro t ms a b d htm hms
  have h14 : 1 <= n /\ n <= 4 := by simp only [List.mem_cons, List.not_mem_nil, or_false] at hn; omega
  obtain ⟨r1, a1, b1, s1⟩ := Zas c (3 + (t : Int)) (n : Int) (by omega) (by omega)
  obtain ⟨r2, a2', b2, s2⟩ := Zas c (5 + (t : Int)) 4512 (by decide) (by omega)
  obtain ⟨k, rfl⟩ := Int.eq_ofNat_of_zero_le a1
  have hk : k < n := by omega
  have hx := ixR (TL false) rs k (by omega)
  have hr : rs.getD k [] ∈ rs := by
   rw [List.getD_eq_getElem?_getD, List.getElem?_eq_getElem (by omega)]
   exact List.getElem_mem _
  generalize rs.getD k [] = r at hx hr
  obtain ⟨L, ⟨g1, g2, g3⟩, hT⟩ := Zhz r r2 (ZaW p hp) hn (hok r hr).2 (hok r hr).1
  have hfs := Ziu g1 ms 1 k (by rw [hms.1]; exact hk) (by omega)
  obtain ⟨ms', a', b', d', q1, q2, ih⟩ := ih (t + 1) (ms.set k L) (I t) (I k) (I r2) (by omega) (ZnV hms k ⟨g2, g3⟩)
  refine ⟨ms', a', b', d', q1, fun _ => q2 (.inr (by rw [hfs]; rfl)), ?_⟩
  rw [hfs, show ((t + 1 : Nat) : Int) = (t : Int) + 1 by omega] at ih
  rw [<- ih, rngI, Zby, Zcf]
  generalize (fb p n 1 ms).getD 9 = u
  have hmin : bfW .min [.sc (.int (u : Int)), .sc (.int (1 + (k : Int)))] = some (I (min u (1 + k) : Nat)) := by
   show some (I (if 1 + (k : Int) < u then 1 + (k : Int) else u)) = _
   congr 3
   split <;> omega
  have hgd : (some (min u (1 + k))).getD 9 = min u (1 + k) := rfl
  rw [hgd]
  have hlen : ((rs.map (TL false)).length : Int) = (n : Int) := by rw [List.length_map, hl]
  have hmul : binW .Mult (.sc (.int 188)) (.sc (.int 24)) = some (.sc (.int 4512)) := rfl
  have k1 : Zt.lend = true := rfl
  have k2 : Zaw.lend = true := rfl
  have hset := fun (δ : List D) => Zig 4 δ (S' L) (dT (first p :: ms)) (1 + (k : Int)) (k + 1) (Zh1 _ _ _ (by omega) (by rw [ZJ, List.length_cons, hms.1]; omega))
  rw [Ziv, List.set_cons_succ] at hset
  generalize first p :: ms = ls at *
  generalize first p :: ms.set k L = ls2 at *
  simp only [Z6, bdy, gd1, gd0]
  simp_all [h4, h5, h6, h7, h8, k1, k2, s1, s2, hlen, hmul, Za3, hx, hT, hset, hmin]
theorem Zh2 (h0 : lk 0 = false) : ∀ (rs : List (List Str)) (acc : List Str) (a : D), (∀ r ∈ rs, JoinOk ⟨#[32]⟩ r = true) -> ∃ a',
 Zab (asgT lk (.name 0)) (tsts ⟨lk, fok, fuel⟩ []) (evb ⟨lk, fok, fuel⟩ (.bm .join (.k (.str " ")) [.v 0])).1 (rs.map (TL false)) (dT acc) [a] = .ok (dT (acc ++ rs.map line), [a']) := by
 intro rs
 induction rs with
 | nil => exact fun acc a _ => ⟨a, by rw [List.map_nil, List.map_nil, List.append_nil]; rfl⟩
 | cons r rs ih =>
  intro acc a h
  obtain ⟨a', ih⟩ := ih (acc ++ [line r]) (TL false r) fun q hq => h q (List.mem_cons_of_mem _ hq)
  refine ⟨a', ?_⟩
  rw [List.append_assoc] at ih
  rw [List.map_cons, List.map_cons, show acc ++ line r :: rs.map line = acc ++ ([line r] ++ rs.map line) from rfl, <- ih, Zdc]
  have hj : bmW .join (Str.ofString " ") [.nd .lst (dT r)] = some (S' (line r)) := by
   rw [ZcF]
   exact Zdn _ r (h r List.mem_cons_self)
  have e : dT acc ++ [S' (line r)] = dT (acc ++ [line r]) := (show dT (acc ++ [line r]) = dT acc ++ [S' (line r)] from List.map_append).symm
  simp_all [h0, ZK, hj, e]
theorem ZdE {p n : Nat} (hp : 1 <= p) (hn : n ∈ [1, 2, 3, 4]) (ys : List Str) : ∀ (rs : List (List Str)) (c : Nat), Za4 p n rs -> fb p n c (rs.map line ++ ys) = fb p n (c + rs.length) ys
 | [], c, _ => rfl
 | r :: rs, c, h => by
  have h1 := h r List.mem_cons_self
  have e : wsp (line r) = r := Zhu hn h1.2 h1.1 hp
  have hg : gd p n (line r) = true := by
   unfold gd
   rw [e, h1.1, decide_eq_true rfl, Bool.true_and]
   exact List.all_eq_true.mpr fun w hw => decide_eq_true (h1.2 w hw)
  rw [List.map_cons, List.cons_append, fb, if_pos hg, ZdE hp hn ys rs (c + 1) fun q hq => h q (List.mem_cons_of_mem _ hq), List.length_cons, show c + 1 + rs.length = c + (rs.length + 1) by omega]
noncomputable abbrev c2 : T.Ctx := ⟨fun i => decide (i < 2), fun _ _ => false, 0⟩
theorem Zj7 {p n : Nat} {rs : List (List Str)} (b : Bool) (hp : p ∈ primes) (hn : n ∈ [1, 2, 3, 4]) (hl : rs.length = n) (hok : Za4 p n rs) (c : Int) : ∃ (w : Int) (ms : List Str) (k : Nat) (a' b' d' : D), 0 <= w /\ w < 8 /\ Ms n ms /\ fb p n 1 ms = some k /\ exs c2 (Z6.take 5) [RL b rs, I c, .hole, .hole, .hole, .hole, .hole, .hole, .hole] = .ok (.nx, [RL false rs, I c, I p, I w, TL true (first p :: ms), I k, a', b', d']) := by
 have h14 : 1 <= n /\ n <= 4 := by simp only [List.mem_cons, List.not_mem_nil, or_false] at hn; omega
 have hpl := ZaW p hp
 obtain ⟨w, a1, b1, s1⟩ := Zas c 1 8 (by decide) (by decide)
 obtain ⟨v, a2, b2, s2⟩ := Zas c 2 2 (by decide) (by decide)
 obtain ⟨v, rfl⟩ := Int.eq_ofNat_of_zero_le a2
 have hrl := fun r hr => Zcz hn (hok r hr).2 (hok r hr).1 hpl.2
 have hms : Ms n (rs.map line) := ⟨by rw [List.length_map, hl], fun L hL => by
  obtain ⟨r, hr, rfl⟩ := List.mem_map.mp hL
  obtain ⟨_, q1, q2⟩ := hrl r hr
  exact ⟨q2, by omega⟩⟩
 obtain ⟨ms, a', b', d', q1, q2, hf⟩ := Ziw (fun j => decide (j < 2)) (fun _ _ => false) 0 rfl rfl rfl rfl rfl hp hn hl hok c (I p) (I w) (1 + v) 0 (rs.map line) .hole .hole .hole (by omega) hms
 obtain ⟨k, hk⟩ := Option.isSome_iff_exists.mp (q2 (.inl (by omega)))
 refine ⟨w, ms, k, a', b', d', a1, b1, q1, hk, ?_⟩
 have hn0 := ZdE (by omega : 1 <= p) hn [] rs 1 hok
 rw [List.append_nil] at hn0
 rw [hn0, hk, fb] at hf
 have e9 : (((none : Option Nat).getD 9 : Nat) : Int) = 9 := rfl
 have ek : (((some k).getD 9 : Nat) : Int) = k := rfl
 rw [e9, ek, show ((0 : Nat) : Int) = 0 from rfl] at hf
 obtain ⟨a0, hc⟩ := Zh2 (fun j => decide (1 <= j)) (fun _ _ => false) 0 rfl rs [] .hole fun r hr => (hrl r hr).1
 rw [List.nil_append] at hc
 have hc1 : ∀ δ : List D, Za1 1 [] (Zbe (fun _ _ => false) 0 1 (.name 0) [] (.bm .join (.k (.str " ")) [.v 0]) (rs.map (TL false)) []) δ = .ok (TL true (rs.map line), δ) := fun δ => by
  replace hc : Zbe (fun _ _ => false) 0 1 (.name 0) [] (.bm .join (.k (.str " ")) [.v 0]) (rs.map (TL false)) [] [.hole] = _ := hc
  rw [ZbZ (js := []) (caps := []) (δ1 := δ) rfl hc (by rw [ZJ, List.length_map, hl, szl]; omega)]
  rfl
 have hx := ixR (TL false) rs 0 (by omega)
 have hr0 : (rs.getD 0 []).length = p := by
  rw [List.getD_eq_getElem?_getD, List.getElem?_eq_getElem (by omega)]
  exact (hok _ (List.getElem_mem _)).1
 generalize rs.getD 0 [] = r0 at hx hr0
 rw [show ((0 : Nat) : Int) = 0 from rfl] at hx
 have hlen : ((dT r0).length : Int) = (p : Int) := by rw [ZJ, hr0]
 have s3 := ZjV p hp
 have s4 := ZjW p hp
 have hi : ∀ ds : List D, itW .val [.nd .lst ds] = some ds := fun _ => rfl
 have ca : binW .Add (.nd .lst [S' (first p)]) (.nd .lst (dT (rs.map line))) = some (TL true (first p :: rs.map line)) := ZdD [first p] (rs.map line) (by rw [List.length_map, List.length_singleton]; omega)
 have hit : itW .rng1 [.sc (.int (1 + (v : Int)))] = some (dI (rngI 0 (1 + v))) := by
  have := Zhp (1 + (v : Int)) (by omega)
  rwa [show (1 + (v : Int)).toNat = 1 + v by omega] at this
 have k1 : Zt.lend = true := rfl
 have wk : ∀ (o : Operator) (x y : E) (j : Nat), walked [.bin o x y] j = false := fun _ _ _ _ => rfl
 simp only [Z6, bdy, gd1, gd0] at hf
 generalize rs.map line = ms0 at *
 generalize first p :: ms0 = ls0 at *
 generalize first p :: ms = ls at *
 simp only [Z6, List.take_succ_cons, List.take_zero]
 (simp_all [Za3, Z7, hx, hlen, k1, s1, s2, s3, s4, ZcE, hi, hc1, ca, hit, wk, hf]) <;> rfl
def Bad (t : Str) (k : Nat) : Prop := t.length <= 3000 /\ k < 6 /\ tRes (Txt.split t ⟨#[10]⟩) = .inl k
theorem ZlE (C : Addr) (t : Str) (k : Nat) (h : Bad t k) : (Z9 C).run [S' t, I k] = .ok (.sc (.bl true), [S' t, I k]) :=
 Zhy C _ t k h.1 rfl (List.length_pos_iff.mpr (Zgd t 10)) (fun L hL => by
  have a := (Zbr 10 t).2 L hL
  have b : (wsp L).length <= L.length + 1 := (Zbr 32 L).1
  have c := h.1
  omega) h.2.1 h.2.2
theorem Zdp {ls : List Str} {k : Nat} (h0 : ls ≠ []) (h6 : ls.length <= 6) (hL : ∀ L ∈ ls, 10 ∉ L.cps.toList /\ L.length <= 440) (hk : k < 6) (hr : tRes ls = .inl k) : JoinOk ⟨#[10]⟩ ls = true /\ Bad (Txt.join ⟨#[10]⟩ ls) k := by
 have hb := fun L h => (hL L h).2
 refine ⟨Zer 10 440 ls hb (by omega), ?_, hk, ?_⟩
 . have := ZcD 10 440 ls hb
   omega
 . rw [Zb3 10 ls h0 fun L h => (hL L h).1]
   exact hr
theorem Zix {z : Str} : ∀ ps : List Nat, (∀ q ∈ ps, z ≠ first q) -> pOf z ps = none
 | [], _ => rfl
 | p :: ps, h => by rw [pOf, if_neg (h p List.mem_cons_self), Zix ps fun q hq => h q (List.mem_cons_of_mem _ hq)]
theorem Ziy : ∀ p ∈ primes, pOf (first p) primes = some p := by walk_at "d"
theorem Zh3 {p : Nat} (hp : p ∈ primes) {l : List Str} {z : Str} (hz : z ∈ fst16 p) (h0 : l ≠ []) (h6 : l.length <= 6) (hL : ∀ L ∈ l, 10 ∉ L.cps.toList /\ L.length <= 440) : JoinOk ⟨#[10]⟩ (l.set 0 z) = true /\ Bad (Txt.join ⟨#[10]⟩ (l.set 0 z)) 0 := by
 obtain ⟨z1, z2, z3⟩ := ZnT p hp z hz
 match l, h0, h6, hL with
 | x :: l, _, h6, hL =>
  refine Zdp (by simp) (by rw [List.length_set]; exact h6) (fun L h => ?_) (by decide) ?_
  . rcases List.mem_or_eq_of_mem_set h with q | rfl
    . exact hL L q
    . exact ⟨z2, by omega⟩
  . show (match pOf z primes with | none => Sum.inl 0 | some _ => _) = _
    rw [Zix _ z1]
theorem Zex {p : Nat} (hp : p ∈ primes) (ms : List Str) : tRes (first p :: ms) = (if 5 < ms.length + 1 then .inl 5 else if ms.length + 1 = 1 then .inl 1 else match fb p ms.length 1 ms with | some k => .inl k | none => .inr p) := by
 unfold tRes
 rw [show (first p :: ms).getD 0 Str.empty = first p from rfl, Ziy p hp, List.length_cons]
 rfl
theorem ixL (ls : List Str) (n : Nat) (h : ls.length = n + 1) : ((ixN' (dT ls).length (-1)).bind fun j => (dT ls)[j]?) = some (S' (ls.getD n Str.empty)) := by
 have e : ixN' (dT ls).length (-1) = some n := by
  rw [ZJ, h]
  unfold ixN'
  rw [if_neg (by decide), if_pos (by omega)]
  congr 1
  omega
 have q := ixT ls n (by omega)
 rw [Zh1 _ n _ rfl (by rw [ZJ]; omega)] at q
 rw [e]
 exact q
theorem ZqN (z : Str) (n : Nat) (hn : n ∈ [1, 2, 3, 4]) : binW .Mult (.nd .lst [S' z]) (.sc (.int (5 - (n : Int)))) = some (TL true (List.replicate (5 - n) z)) := by
 simp only [List.mem_cons, List.not_mem_nil, or_false] at hn
 rcases hn with rfl | rfl | rfl | rfl <;> kernel_rfl
theorem Zj8 {p n : Nat} {rs : List (List Str)} (hp : p ∈ primes) (hn : n ∈ [1, 2, 3, 4]) (hl : rs.length = n) (c w : Int) (h0 : 0 <= w) (h8 : w < 8) (h5 : w ≠ 5) (ms : List Str) (hms : Ms n ms) (k : Nat) (hk : fb p n 1 ms = some k) (a b d : D) : ∃ t k', Bad t k' /\ ZE 2 (exs c2 (Z6.drop 5) [RL false rs, I c, I p, I w, TL true (first p :: ms), I k, a, b, d]) = .ok (.node .tup true [S' t, I k'], [RL false rs, I c]) := by
 have h14 : 1 <= n /\ n <= 4 := by simp only [List.mem_cons, List.not_mem_nil, or_false] at hn; omega
 obtain ⟨r9, a9, b9, s9⟩ := Zas c 9 16 (by decide) (by decide)
 obtain ⟨z, hz, hf⟩ := Zit r9 p hp
 have hfc := Zcm p hp
 have hls : ∀ L ∈ first p :: ms, 10 ∉ L.cps.toList /\ L.length <= 440 := fun L h => by
  (rcases List.mem_cons.mp h with rfl | h)
  . exact ⟨hfc.1, by omega⟩
  . exact hms.2 L h
 have ne : first p :: ms ≠ [] := by simp
 have hll : (first p :: ms).length = n + 1 := by rw [List.length_cons, hms.1]
 have hlen : ((rs.map (TL false)).length : Int) = (n : Int) := by rw [List.length_map, hl]
 have hj : ∀ l : List Str, JoinOk ⟨#[10]⟩ l = true -> bmW .join (Str.ofString "\n") [.nd .lst (dT l)] = some (S' (Txt.join ⟨#[10]⟩ l)) := fun l h => by
  rw [Zbl]
  exact Zdn _ l h
 have hset := fun (l : List Str) (h : 0 < l.length) (δ : List D) => Zig 4 δ (S' z) (dT l) 0 0 (Zh1 _ 0 0 rfl (by rw [ZJ]; exact h))
 have k1 : Zt.lend = true := rfl
 have k2 : ZaE.lend = true := rfl
 have j0 := Zdp (k := k) ne (by omega) hls (by have := Zh0 p n ms 1 k hk; have := hms.1; omega) (by rw [Zex hp, if_neg (by have := hms.1; omega), if_neg (by have := hms.1; omega), hms.1, hk])
 have j3 := Zh3 hp hz ne (by omega) hls
 have hl1 : (first p :: ms).take 1 = [first p] := rfl
 have hL1 : ∀ L ∈ [first p], 10 ∉ L.cps.toList /\ L.length <= 440 := fun L h => hls L (by rw [List.mem_singleton.mp h]; exact List.mem_cons_self)
 have hcut := Zka (first p :: ms) 1 (by omega)
 rw [hl1, show ((1 : Nat) : Int) = 1 from rfl] at hcut
 have j1 := Zdp (k := 1) (ls := [first p]) (by simp) (by simp) hL1 (by decide) (Zex hp [])
 have j6 := Zh3 hp hz (l := [first p]) (by simp) (by simp) hL1
 have hix := ixL (first p :: ms) n hll
 have hlast := gm (show n < (first p :: ms).length by omega)
 generalize (first p :: ms).getD n Str.empty = y at hix hlast
 have hmul := ZqN y n hn
 have hrl : (List.replicate (5 - n) y).length = 5 - n := List.length_replicate
 have hL2 : ∀ L ∈ first p :: (ms ++ List.replicate (5 - n) y), 10 ∉ L.cps.toList /\ L.length <= 440 := fun L h => by
  rw [<- List.cons_append] at h
  (rcases List.mem_append.mp h with h | h)
  . exact hls L h
  . rw [(List.mem_replicate.mp h).2]
    exact hls y hlast
 have hlm : (ms ++ List.replicate (5 - n) y).length = 5 := by rw [List.length_append, hrl, hms.1]; omega
 have ca := ZdD (first p :: ms) (List.replicate (5 - n) y) (by omega)
 rw [List.cons_append] at ca
 have j2 := Zdp (k := 5) (ls := first p :: (ms ++ List.replicate (5 - n) y)) (by simp) (by rw [List.length_cons]; omega) hL2 (by decide) (by rw [Zex hp, if_pos (by omega)])
 have j7 := Zh3 hp hz (l := first p :: (ms ++ List.replicate (5 - n) y)) (by simp) (by rw [List.length_cons]; omega) hL2
 have q1 := hset [first p] (by simp)
 have q2 := hset (first p :: (ms ++ List.replicate (5 - n) y)) (by simp)
 have q3 := hset (first p :: ms) (by simp)
 rw [Ziv] at q1 q2 q3
 generalize [first p].set 0 z = l6 at *
 generalize (first p :: (ms ++ List.replicate (5 - n) y)).set 0 z = l7 at *
 generalize (first p :: ms).set 0 z = l3 at *
 generalize first p :: (ms ++ List.replicate (5 - n) y) = l2 at *
 generalize first p :: ms = ls at *
 generalize [first p] = l1 at *
 generalize List.replicate (5 - n) y = ys at *
 have hw : w = 0 \/ w = 1 \/ w = 2 \/ w = 3 \/ w = 4 \/ w = 6 \/ w = 7 := by omega
 rcases hw with rfl | rfl | rfl | rfl | rfl | rfl | rfl
 . refine ⟨_, _, j0.2, ?_⟩
   have hj := hj _ j0.1
   show ZE 2 (exs c2 (_ :: _) _) = _
   (simp_all [V.int.injEq, Int.reduceEq, Int.reduceLT, Za3, Z7, hlen, ZK, hj, ZbL]) <;> rfl
 . refine ⟨_, _, j1.2, ?_⟩
   have hj := hj _ j1.1
   show ZE 2 (exs c2 (_ :: _) _) = _
   (simp_all [V.int.injEq, Int.reduceEq, Int.reduceLT, Za3, Z7, hlen, hcut, ZK, hj, ZbL]) <;> rfl
 . refine ⟨_, _, j2.2, ?_⟩
   have hj := hj _ j2.1
   show ZE 2 (exs c2 (_ :: _) _) = _
   (simp_all [V.int.injEq, Int.reduceEq, Int.reduceLT, Za3, Z7, hlen, hix, ZcE, hmul, ca, ZK, hj, ZbL]) <;> rfl
 . refine ⟨_, _, j3.2, ?_⟩
   have hj := hj _ j3.1
   show ZE 2 (exs c2 (_ :: _) _) = _
   (simp_all [V.int.injEq, Int.reduceEq, Int.reduceLT, Za3, Z7, hlen, k1, k2, s9, hf, q3, ZK, hj, ZbL]) <;> rfl
 . by_cases c3 : n < 3
   . refine ⟨_, _, j3.2, ?_⟩
     have hj := hj _ j3.1
     have c3 : ((n : Int) < 3) = True := eq_true (by omega)
     show ZE 2 (exs c2 (_ :: _) _) = _
     (simp_all [V.int.injEq, Int.reduceEq, Int.reduceLT, Za3, Z7, hlen, c3, k1, k2, s9, hf, q3, ZK, hj, ZbL]) <;> rfl
   . refine ⟨_, _, j0.2, ?_⟩
     have hj := hj _ j0.1
     have c3 : ((n : Int) < 3) = False := eq_false (by omega)
     show ZE 2 (exs c2 (_ :: _) _) = _
     (simp_all [V.int.injEq, Int.reduceEq, Int.reduceLT, Za3, Z7, hlen, c3, ZK, hj, ZbL]) <;> rfl
 . refine ⟨_, _, j6.2, ?_⟩
   have hj := hj _ j6.1
   show ZE 2 (exs c2 (_ :: _) _) = _
   (simp_all [V.int.injEq, Int.reduceEq, Int.reduceLT, Za3, Z7, hlen, hcut, k1, k2, s9, hf, q1, ZK, hj, ZbL]) <;> rfl
 . refine ⟨_, _, j7.2, ?_⟩
   have hj := hj _ j7.1
   show ZE 2 (exs c2 (_ :: _) _) = _
   (simp_all [V.int.injEq, Int.reduceEq, Int.reduceLT, Za3, Z7, hlen, hix, ZcE, hmul, ca, k1, k2, s9, hf, q2, ZK, hj, ZbL]) <;> rfl
theorem Zfb (c : Nat) (q : Str) : ∀ ps : List Str, ps ≠ [] -> (Str.join ⟨#[c]⟩ (ps ++ [q])).cps.toList = (Str.join ⟨#[c]⟩ ps).cps.toList ++ c :: q.cps.toList
 | [], h => absurd rfl h
 | [p], _ => ZW c p q []
 | p :: p' :: r, _ => by
  have ih := Zfb c q (p' :: r) (by simp)
  rw [List.cons_append] at ih
  rw [List.cons_append, List.cons_append, ZW, ih, ZW, List.append_assoc]
  rfl
theorem Zj9 : ∀ n ∈ [1, 2, 3], ∀ w ∈ wds n, w ∈ wds (n + 1) := by walk_at "d"
theorem ZqO {p n : Nat} {rs : List (List Str)} (hp : p ∈ primes) (h1 : 1 <= n) (h4 : n <= 4) (hl : rs.length = n) (h : Za4 p n rs) : Bad (text p rs ++ Str.ofString "\n") (n + 1) := by
 have hn := n14 h1 h4
 have hpl := ZaW p hp
 have hfc := Zcm p hp
 have e : text p rs ++ Str.ofString "\n" = Txt.join ⟨#[10]⟩ (first p :: (rs.map line ++ [Str.empty])) := by
  refine ZeD ?_
  have q := Zfb 10 Str.empty (first p :: rs.map line) (by simp)
  rw [Zaz, Zbl, show text p rs = Str.join ⟨#[10]⟩ (first p :: rs.map line) from StrLaws.glued_eq_join _ _, show Txt.join ⟨#[10]⟩ (first p :: (rs.map line ++ [Str.empty])) = Str.join ⟨#[10]⟩ (first p :: rs.map line ++ [Str.empty]) from StrLaws.glued_eq_join _ _, q]
  rfl
 have hlm : (rs.map line ++ [Str.empty]).length = n + 1 := by rw [List.length_append, List.length_map, hl]; rfl
 rw [e]
 refine (Zdp (by simp) (by rw [List.length_cons]; omega) (fun L hL => ?_) (by omega) ?_).2
 . rcases List.mem_cons.mp hL with rfl | hL
   . exact ⟨hfc.1, by omega⟩
   . rcases List.mem_append.mp hL with hL | hL
     . obtain ⟨r, hr, rfl⟩ := List.mem_map.mp hL
       obtain ⟨_, q1, q2⟩ := Zcz hn (h r hr).2 (h r hr).1 hpl.2
       exact ⟨q2, by omega⟩
     . rw [List.mem_singleton.mp hL]
       exact ⟨List.not_mem_nil, Nat.zero_le _⟩
 . rw [Zex hp, hlm]
   by_cases c : n = 4
   . rw [if_pos (by omega), c]
   . have hn1 : n + 1 ∈ [1, 2, 3, 4] := n14 (by omega) (by omega)
     have hn3 : n ∈ [1, 2, 3] := by simp only [List.mem_cons, List.not_mem_nil, or_false]; omega
     have hg : gd p (n + 1) Str.empty = false := Zev hn1 (by show 0 ≠ p - 1; omega)
     rw [if_neg (by omega), if_neg (by omega), ZdE (by omega) hn1 [Str.empty] rs 1 fun r hr => ⟨(h r hr).1, fun w hw => Zj9 n hn3 w ((h r hr).2 w hw)⟩, fb, hg, hl]
     show Sum.inl (1 + n) = _
     rw [Nat.add_comm]
theorem ZjA {p n : Nat} {rs : List (List Str)} (b : Bool) (hp : p ∈ primes) (h1 : 1 <= n) (h4 : n <= 4) (hl : rs.length = n) (h : Za4 p n rs) (c : Int) : ∃ t k, Bad t k /\ ZaR.run [RL b rs, I c] = .ok (.node .tup true [S' t, I k], [RL false rs, I c]) := by
 have hn := n14 h1 h4
 obtain ⟨w, ms, k, a', b', d', w0, w8, hms, hk, hpre⟩ := Zj7 b hp hn hl h c
 have key : ∃ t k', Bad t k' /\ ZE 2 (exs c2 (Z6.drop 5) [RL false rs, I c, I p, I w, TL true (first p :: ms), I k, a', b', d']) = .ok (.node .tup true [S' t, I k'], [RL false rs, I c]) := by
  by_cases h5 : w = 5
  . have hb := ZqO hp h1 h4 hl h
    refine ⟨_, _, hb, ?_⟩
    have ht := Zgf (p := p) false hp h1 h4 hl h
    have hc := ZfH (text p rs) (Str.ofString "\n") (by
     rw [szl, Zbl]
     have := (ZeE hp h1 h4 hl h).2.1
     show _ + 1 <= _
     omega)
    have hlen : ((rs.map (TL false)).length : Int) = (n : Int) := by rw [List.length_map, hl]
    have k1 : Za6.lend = true := rfl
    rw [show ((n + 1 : Nat) : Int) = (n : Int) + 1 by omega]
    generalize text p rs = t at *
    generalize first p :: ms = ls
    subst h5
    show ZE 2 (exs c2 (_ :: _) _) = _
    (simp_all [V.int.injEq, k1, ht, hc, Za3, hlen, ZbL]) <;> rfl
  . exact Zj8 hp hn hl c w w0 w8 h5 ms hms k hk a' b' d'
 obtain ⟨t, k', hb, hend⟩ := key
 refine ⟨t, k', hb, ?_⟩
 refine runB (f := ZaR) (C := C0) (n := 2) (N := 9) (b := Z6) rfl rfl ?_
 show ZE 2 (exs c2 (Z6.take 5 ++ Z6.drop 5) [RL b rs, I c, .hole, .hole, .hole, .hole, .hole, .hole, .hole]) = _
 rw [ZdC, hpre]
 exact hend
theorem Ziz (C : Addr) (o : Bool) (p : Nat) (rs : List (List Str)) (t : Str) : (ZaT C).run [Tb C o p rs t] = .ok (S' t, [Tb C false p rs t]) := by
 walk_at "r"
 (simp_all [ZnO, ZqK]) <;> rfl
theorem Zi0 (C : Addr) {p n : Nat} {rs : List (List Str)} (hp : p ∈ primes) (h1 : 1 <= n) (h4 : n <= 4) (hl : rs.length = n) (h : Za4 p n rs) : ∃ ms, (Zx C).run [.node (.ins C []) true [], S' (text p rs)] = .ok (.sc .non, [Tb C true p ms (text p rs), S' (text p rs)]) := by
 have hpl := ZaW p hp
 obtain ⟨_, t1, t2⟩ := ZeE hp h1 h4 hl h
 have hr : tRes (lines p rs) = .inr p := by
  have q := ZdE (by omega : 1 <= p) (n14 h1 h4) [] rs 1 h
  rw [List.append_nil] at q
  unfold lines
  rw [Zex hp, List.length_map, hl, if_neg (by omega), if_neg (by omega), q]
  rfl
 have q := Ziq C (lines p rs) (text p rs) t1 t2 (by unfold lines; simp) fun L hL => by
  have a := (Zbr 10 (text p rs)).2 L (by rw [t2]; exact hL)
  have b : (wsp L).length <= L.length + 1 := (Zbr 32 L).1
  omega
 rw [hr] at q
 exact ⟨_, q⟩
theorem new2 {A : Addr} {fi : FI} {v : V} {x : D} (h : fi.run [.node (.ins A []) true [], .sc v] = .ok (.sc .non, [x, .sc v])) (a b : D) (δ : List D) : newF A fi [.late 2] (a :: b :: .sc v :: δ) = .ok (x, a :: b :: .sc v :: δ) := by
 unfold newF
 rw [Zct (show ZI fi.lend [.late 2] (a :: b :: .sc v :: δ) = .ok ([.sc v], a :: b :: .sc v :: δ) from rfl)]
 rw [h]
 rfl
theorem ZqP (C : Addr) (h3 : lk 3 = false) (h4 : lk 4 = false) (h5 : lk 5 = false) {p n : Nat} {rs : List (List Str)} (hp : p ∈ primes) (n1 : 1 <= n) (n4 : n <= 4) (hl : rs.length = n) (h : Za4 p n rs) (t : Str) (ht : (ZH C).run [S' t] = .ok (.sc .non, [S' t])) (x0 x6 : D) : ∀ (cs : List Int) (a b c : D), ∃ a' b' c',
 forL (asgT lk (.name 3)) (exs ⟨lk, fok, fuel⟩ (bdy ((Zbk C).getD 2 .pass))) (dI cs) [x0, RL false rs, S' t, a, b, c, x6] = .ok (.nx, [x0, RL false rs, S' t, a', b', c', x6]) := by
 intro cs
 induction cs with
 | nil => exact fun a b c => ⟨a, b, c, rfl⟩
 | cons i cs ih =>
  intro a b c
  obtain ⟨u, k, hb, hc⟩ := ZjA false hp n1 n4 hl h i
  have hr := ZlE C u k hb
  obtain ⟨a', b', c', ih⟩ := ih (I i) (S' u) (I k)
  refine ⟨a', b', c', ?_⟩
  rw [<- ih, Zby, Zcf]
  have k1 : ZaR.lend = true := rfl
  have k2 : (Z9 C).lend = true := rfl
  have k3 : (ZH C).lend = true := rfl
  have tf : (true == false) = false := rfl
  simp only [Zbk, bdy, gd1, gd0]
  simp_all [h3, h4, h5, k1, k2, k3, hc, hr, ht, ZqM, tf]
theorem ZqQ (C : Addr) (h6 : lk 6 = false) (x0 x1 x2 x3 x4 x5 : D) : ∀ (ds : List D) (a : D), (∀ d ∈ ds, (∃ v, d = .sc v /\ tyW .str (.sc v) = some false) \/ ∃ k ds, d = .node k false ds /\ tyW .str (.nd k ds) = some false) -> ∃ a',
 forL (asgT lk (.name 6)) (exs ⟨lk, fok, fuel⟩ (bdy ((Zbk C).getD 3 .pass))) ds [x0, x1, x2, x3, x4, x5, a] = .ok (.nx, [x0, x1, x2, x3, x4, x5, a']) := by
 intro ds
 induction ds with
 | nil => exact fun a _ => ⟨a, rfl⟩
 | cons d ds ih =>
  intro a h
  obtain ⟨a', ih⟩ := ih d fun q hq => h q (List.mem_cons_of_mem _ hq)
  have hd := h d List.mem_cons_self
  have hr := Zhx C d hd
  refine ⟨a', ?_⟩
  rw [<- ih, Zcf]
  have k2 : (Z9 C).lend = true := rfl
  simp only [Zbk, bdy, gd1, gd0]
  rcases hd with ⟨v, rfl, _⟩ | ⟨k, es, rfl, _⟩ <;> simp_all [h6, k2, hr]
theorem ZjB (C : Addr) (ns : List Int) (h : ns.length <= 63) : ∃ ds', (Zfp C).run [scr ns] = .ok (.sc (.bl true), ds') := by
 obtain ⟨p, hp, n, rs, h1, h4, hl, hok, hr⟩ := Zj0 ns 0
 rw [show ((0 : Nat) : Int) = 0 from rfl] at hr
 have t1 := fun b => Zgf (p := p) b hp h1 h4 hl hok
 obtain ⟨ms, hi⟩ := Zi0 C hp h1 h4 hl hok
 have hc := Zir C _ _ hi
 generalize text p rs = t at t1 hi hc
 have hn := fun a b δ => new2 hi a b δ
 have hs := fun o => Ziz C o p ms t
 obtain ⟨a1, b1, c1, f1⟩ := ZqP (fun j => decide (j < 1)) (CK C).fok (CK C).fuel C rfl rfl rfl hp h1 h4 hl hok t hc (scr ns) .hole (cutI ns (some 5) (some 25)) .hole .hole .hole
 obtain ⟨d1, f2⟩ := ZqQ (fun j => decide (j < 1)) (CK C).fok (CK C).fuel C rfl (scr ns) (RL false rs) (S' t) a1 b1 c1 [.sc .non, I 5, .sc (.bl true), .node .lst false [S' "symbols 5"], .node .tup false [S' t], .node (.dic []) false []] .hole (by
  intro d hd
  simp only [List.mem_cons, List.not_mem_nil, or_false] at hd
  rcases hd with rfl | rfl | rfl | rfl | rfl | rfl
  . exact .inl ⟨_, rfl, rfl⟩
  . exact .inl ⟨_, rfl, rfl⟩
  . exact .inl ⟨_, rfl, rfl⟩
  . exact .inr ⟨_, _, rfl, rfl⟩
  . exact .inr ⟨_, _, rfl, rfl⟩
  . exact .inr ⟨_, _, rfl, rfl⟩)
 show ∃ ds', Zu (CK C) 1 7 (Zbk C) [scr ns] = .ok (.sc (.bl true), ds')
 rw [runA (show [scr ns].length = 1 from rfl)]
 simp only [Zbk, bdy, gd1, gd0] at f1 f2
 unfold Zbk
 simp only [List.replicate, Nat.reduceSub]
 have hk : ∀ δ : List D, chkI C "shown" (.tmp (Tb C true p ms t)) δ = .ok ((), δ) := fun δ => by
  show (if C = C /\ (Str.ofString "shown") ∉ fs3 then _ else _) = _
  rw [if_pos ⟨rfl, by decide⟩]
 have k1 : Zb2.lend = true := rfl
 have k2 : Za6.lend = true := rfl
 have k3 : (ZaT C).lend = true := rfl
 have nT : ∀ a : D, newT [a] = some (.node .tup true [a]) := fun a => by unfold newT; rw [if_pos (by rw [szl]; simp)]
 have nL : ∀ a b c d e f : D, newL [a, b, c, d, e, f] = some (.node .lst true [a, b, c, d, e, f]) := fun a b c d e f => Zbx _ (by rw [szl]; simp)
 have hd : decide (V.str t = V.str t) = true := decide_eq_true rfl
 have hv : ∀ ds : List D, itW .val [.nd .lst ds] = some ds := fun _ => rfl
 have w1 : ∀ (a b c : E) (j : Nat), walked [.sl a b c] j = false := fun _ _ _ _ => rfl
 have w2 : ∀ (es : List E) (j : Nat), walked [.lst es] j = false := fun _ _ => rfl
 simp only [scr] at hr f1 f2
 simp_all [k1, k2, k3, hr, t1, hc, hn, hs, hk, ZcE, nT, nL, hv, w1, w2, Zjg, ZdO, f1, f2, hd]
 exact ⟨_, rfl⟩
end My
open PySem PySem.W PyProof.Rows
set_option maxRecDepth 100000 in
set_option maxHeartbeats 0 in
theorem PySem.Challenge.cw_barlabel_k02_tables_refused_holds : PySem.Challenge.rw_barlabel_k02_tables_refused.Holds := by
 w_on; o_law; k_head; (case hw => w_witness2)
 k_fill
 refine T.Zjc (l := PySem.Challenge.rw_barlabel_k02_tables_refused) (k := 8) (x := "_law_script") (R := fun K => (My.Zfp (My.Zeo K)).run) rfl rfl ⟨rfl, by decide, by decide⟩ (fun w h Y => PySem.W.kIn_of Y) ?F (fun K ns hl => My.ZjB (My.Zeo K) ns hl)
 case F =>
  intro w mg fa h KX G hmg
  refine' My.ZnJ KX G hmg ?_ ?_ ?_ ?_ ?_ ?_ ?_ ?_ ?_ ?_ ?_ ?_ ?_ ?_ ?_ ?_ ?_ ?_ ?_ ?_ ?_ ?_ ?_ ?_ ?_ ?_ ?_ ?_ ?_ ?_ ?_ ?_ ?_ ?_ ?_ ?_ ?_ ?_ ?_ ?_ ?_ ?_ ?_ ?_ ?_ ?_ ?_ ?_ ?_ ?_ ?_ ?_ ?_ ?_ ?_
  any_goals first | (refine' T.Zq5 ?a ?b ?c ?d; (case a => k_is); (case b => k_is); (case c => k_is); (case d => k_is)) | (refine' T.Zq6 ?a ?b ?c ?d ?e; (case a => k_is); (case b => k_is); (case c => k_is); (case d => k_is); (case e => k_is)) | (refine' T.CI.mk ?a ?b ?c ?d ?e ?f ?g; (case a => k_is); (case b => k_is); (case c => k_is); (case d => k_is); (case e => k_is); (case f => k_is); (case g => k_is)) | (refine' T.ZqA ?a ?b; (case a => k_is); (case b => k_is)) | (refine' T.XA.mk ?a ?b ?c ?d ?e ?f ?g ?h ?i ?j ?k; (case a => k_is); (case b => k_is); (case c => k_is); (case d => k_is); (case e => k_is); (case f => k_is); (case g => k_is); (case h => k_is); (case i => k_is); (case j => k_is); (case k => k_is)) | (refine' T.Zq9 ?a ?b ?c ?d ?e ?f ?g ?h; (case a => k_is); (case b => k_is); (case c => k_is); (case d => simp [L2.ZfS]); (case e => k_is); (case f => k_is); (case g => k_is); (case h => k_is)) | (refine' T.ZqB ?a ?b ?c ?d ?e; (case a => k_is); (case b => k_is); (case c => k_is); (case d => k_is); (case e => k_is)) | (refine' T.Zq8 ?a ?b ?c ?d ?e ?f ?g; (case a => k_is); (case b => k_is); (case c => k_is); (case d => k_is); (case e => k_is); (case f => k_is); (case g => rfl)) | (refine' L2.XI.mk ?a ?b ?c; (case a => k_is); (case b => k_is); (case c => k_is)) | (unfold T.NI; k_is) | k_is | rfl | exact Nat.le_of_ble_eq_true rfl
